import PyProof.Rows.All
import Wide.All
import OpenK.AllK
import Wide.FinOn
import Lean
import PyProof.EqAt
import PyProof.EqKinds
import PyProof.TupleCall
import PyProof.NeData
import PyProof.WalkInts
import PyProof.ListRange
import KE.KIntText
import PyProof.DictWalks
import PyProof.DictItems
import KE.KDictList
import PyProof.Rows.SortKeyStr
import PyProof.NeKinds
import PySem.Challenge.RW_heedwise_k73_whole_heads_over_sayings
theorem wB {p : Prop} (h : p := by first | exact Or.inl rfl | exact Or.inr (Or.inl rfl) | exact Or.inr (Or.inr rfl) | assumption) : p := h
theorem wC {p : Prop} (h : p := by first | decide | omega) : p := h
theorem wD {p : Prop} (h : p := by decide +kernel) : p := h
theorem wE {p : Prop} (h : p := by decide) : p := h
theorem wF {p : Prop} (h : p := by omega) : p := h
set_option Elab.async false
set_option linter.all false
set_option maxRecDepth 100000
namespace L2
open PySem PySem.Spec PyProof.Rows
abbrev Key := Sum Int Str
def Y1k : Key -> Value -> Bool
 | .inl k,v => Value.isInt k v
 | .inr x,v => Value.isStrOf x v
def keyH (w : World) : Key -> Int
 | .inl k => hashInt k
 | .inr x => hashStr w x
theorem Q0L : ∀ {k : Key} {v : Value},Y1k k v = true -> (∃ i t,k = Sum.inl i /\ v = Value.int i t) \/ (∃ x t,k = Sum.inr x /\ v = Value.str x t)
 | .inl i,v,h => by
  obtain ⟨t,e⟩ := Value.isInt_shape (k := i) (v := v) h
  exact .inl ⟨i,t,rfl,e⟩
 | .inr x,v,h => by
  obtain ⟨t,e⟩ := Value.isStrOf_shape (x := x) (v := v) h
  exact .inr ⟨x,t,rfl,e⟩
theorem Y1j (a b : Int) : decide ((Sum.inl a : Key) = Sum.inl b) = (a == b) := by
 by_cases e : a = b
 ·subst e; simp
 ·have h : ¬ (Sum.inl a : Key) = Sum.inl b := λ q => e (Sum.inl.inj q)
  rw [decide_eq_false h]
  exact (beq_eq_false_iff_ne.mpr e).symm
theorem Y1g (a b : Str) : decide ((Sum.inr a : Key) = Sum.inr b) = decide (a = b) := by
 by_cases e : a = b
 ·subst e; simp
 ·have h : ¬ (Sum.inr a : Key) = Sum.inr b := λ q => e (Sum.inr.inj q)
  rw [decide_eq_false h,decide_eq_false e]
theorem Y1i (a : Int) (b : Str) : decide ((Sum.inl a : Key) = Sum.inr b) = false := decide_eq_false (λ q => nomatch q)
theorem Y1h (a : Str) (b : Int) : decide ((Sum.inr a : Key) = Sum.inl b) = false := decide_eq_false (λ q => nomatch q)
def Z1k (prog : Program) (w : World) : PySem.KeyKind prog w Key where
 is := Y1k
 hash := keyH w
 inj := λ v a b ha hb => by
  rcases Q0L ha with ⟨i,t,rfl,rfl⟩ | ⟨x,t,rfl,rfl⟩
  ·rcases Q0L hb with ⟨j,u,rfl,e⟩ | ⟨y,u,rfl,e⟩
   ·injection e with e1 _; rw [e1]
   ·exact nomatch e
  ·rcases Q0L hb with ⟨j,u,rfl,e⟩ | ⟨y,u,rfl,e⟩
   ·exact nomatch e
   ·injection e with e1 _; rw [e1]
 byValue := λ k v h => by
  rcases Q0L h with ⟨i,t,rfl,rfl⟩ | ⟨x,t,rfl,rfl⟩ <;> rfl
 pyHash := λ hv h => by
  rcases Q0L hv with ⟨i,t,rfl,rfl⟩ | ⟨x,t,rfl,rfl⟩
  ·exact wpAny_pyHash_int h
  ·exact wpAny_pyHash_str h
 eqBool := λ hu hv h => by
  rcases Q0L hu with ⟨i,t,rfl,rfl⟩ | ⟨x,t,rfl,rfl⟩
  ·rcases Q0L hv with ⟨j,u,rfl,rfl⟩ | ⟨y,u,rfl,rfl⟩
   ·rw [Y1j] at h; exact wpAny_eqBool_int h
   ·rw [Y1i] at h; exact SeqAt.EqAt.int_str i t y u _ _ _ _ h
  ·rcases Q0L hv with ⟨j,u,rfl,rfl⟩ | ⟨y,u,rfl,rfl⟩
   ·rw [Y1h] at h; exact SeqAt.EqAt.str_int x t j u _ _ _ _ h
   ·rw [Y1g] at h; exact wpAny_eqBool_str h
 «strs» := λ k x t v h => by
  rcases Q0L h with ⟨i,u,rfl,e⟩ | ⟨y,u,rfl,e⟩
  ·exact nomatch e
  ·injection e with e1 _
   subst e1
   cases v <;> rfl
end L2
namespace L2
open PySem PySem.Spec PyProof.Rows
inductive V where
 | non | bl (b : Bool) | int (i : Int) | str (x : Str) | byt (b : Array UInt8) | flt (b : UInt64) | ref (a : Addr) | ty (n : String)
 deriving DecidableEq
def RelV : V -> Value -> Prop
 | .non,u => u = Value.none
 | .bl b,u => u = Value.bool b
 | .int i,u => ∃ t,u = Value.int i t
 | .str x,u => ∃ t,u = Value.str x t
 | .byt b,u => ∃ t,u = Value.bytes b t
 | .flt b,u => ∃ t,u = Value.float b t
 | .ref a,u => u = Value.ref a
 | .ty n,u => u = Value.type n
abbrev Vals : List V -> List Value -> Prop := Paired RelV
theorem Vals.length {xs : List V} {us : List Value} (r : Vals xs us) : xs.length = us.length := Paired.length r
theorem Vals.get : ∀ {xs : List V} {us : List Value} {i : Nat} {x : V},Vals xs us -> xs[i]? = some x -> ∃ u,us[i]? = some u /\ RelV x u
 | _,_,_,_,.nil,e => by simp at e
 | _,_,0,_,.cons r _,e => by simp at e; subst e; exact ⟨_,rfl,r⟩
 | _,_,i + 1,x,.cons _ t,e => by
  obtain ⟨u,h1,h2⟩ := Vals.get (i := i) (x := x) t (by simpa using e)
  exact ⟨u,by simpa using h1,h2⟩
theorem Vals.append : ∀ {xs ys : List V} {us ws : List Value},Vals xs us -> Vals ys ws -> Vals (xs ++ ys) (us ++ ws)
 | _,_,_,_,.nil,s => s
 | _,_,_,_,.cons r t,s => .cons r (Vals.append t s)
theorem Vals.take : ∀ {xs : List V} {us : List Value} (n : Nat),Vals xs us -> Vals (xs.take n) (us.take n)
 | _,_,0,_ => .nil
 | _,_,_ + 1,.nil => .nil
 | _,_,n + 1,.cons r t => .cons r (Vals.take n t)
theorem Vals.drop : ∀ {xs : List V} {us : List Value} (n : Nat),Vals xs us -> Vals (xs.drop n) (us.drop n)
 | _,_,0,r => r
 | _,_,_ + 1,.nil => .nil
 | _,_,n + 1,.cons _ t => Vals.drop n t
def RelO : Option V -> Option Value -> Prop
 | some v,some u => RelV v u
 | none,none => True
 | _,_ => False
def KV {κ : Type} : List (κ × V) -> List (κ × Value) -> Prop := Paired λ (p : κ × V) (q : κ × Value) => p.1 = q.1 /\ RelV p.2 q.2
def kV : Key -> V
 | .inl i => .int i
 | .inr x => .str x
inductive HO where
 | lst (xs : List V)
 | tup (xs : List V)
 | dK (kvs : List (Key × V)) | dT (kvs : List (List Key × V))
 | set (S : Int -> Bool) (n : Nat)
 | ins (C dx : Addr) (fs : List (Str × V))
 | own (x : Addr)
 | xd (fs : List (Str × V))
 | met (f x : Addr)
 | rng (lo hi : Int)
 | frz (o : Obj) (u : HO)
 | tbl (ps : Array Value)
 | ext (φ : Heap -> Prop)
abbrev Hp := Addr -> Option HO
def upd (H : Hp) (a : Addr) (o : HO) : Hp := λ b => if b = a then some o else H b
theorem Q0u {H : Hp} {a : Addr} {o : HO} : upd H a o a = some o := by unfold upd; rw [if_pos rfl]
theorem Q0w {H : Hp} {a b : Addr} {o : HO} (h : b ≠ a) : upd H a o b = H b := by unfold upd; rw [if_neg h]
theorem Q0Q {H : Hp} {a b : Addr} {o : HO} (h : H a = some o) (h' : H b = none) : a ≠ b := by
 intro e; subst e; rw [h] at h'; cases h'
def TupN (h : Heap) (a : Addr) (items : Array Value) : Prop := ∃ o,h.get? a = some o /\ o.dict = none /\ o.cls = .type "tuple" /\ ∃ n,o.data = .seq items n
theorem TupN.t {h : Heap} {a : Addr} {items : Array Value} (x : TupN h a items) : IsTup h a items := let ⟨o,e,_,r⟩ := x; ⟨o,e,r⟩
theorem TupN.new (h : Heap) (items : Array Value) : TupN (h.push { cls := .type "tuple",data := .seq items }) h.objs.size items := ⟨_,Heap.get?_push_size _ rfl,rfl,rfl,_,rfl⟩
section
variable (P : Program) (w : World)
def Q1Y (H : Hp) (h : Heap) (a : Addr) : HO -> Prop
 | .lst xs => xs.length <= sizeLine /\ ∃ (its : List Value) (n : Nat),Vals xs its /\ h.get? a = some { cls := .type "list",data := .seq its.toArray n }
 | .tup xs => xs.length <= sizeLine /\ ∃ its : List Value,Vals xs its /\ TupN h a its.toArray
 | .dK kvs => kvs.length <= sizeLine /\ (a == sysModules) = false /\ ∃ vs,KV kvs vs /\ h.DictOf (Z1k P w) a vs
 | .dT kvs => kvs.length <= sizeLine /\ (a == sysModules) = false /\ ∃ xs : List (List Key × Addr × Value),
   Paired (λ (p : List Key × V) (q : List Key × Addr × Value) => p.1 = q.1 /\ H q.2.1 = some (.tup (p.1.map kV)) /\ RelV p.2 q.2.2) kvs xs /\
   ∃ o es ep,h.get? a = some o /\ o.ExactDict /\ o.data = .dict es ep /\ es.toList = xs.map (entryOfKey (tupleKind (Z1k P w))) /\ (xs.map (·.1)).Nodup
 | .set S n => h.SetOf (intKind P w) a S n
 | .ins C dx fs => H dx = some (.own a) /\ fs.length <= 1000 /\ dx ≠ a /\ h.get? a = some (PySem.W.instObj C dx) /\
   ∃ mA,h.Ns1 dx mA /\ (∀ f,RelO (fs.lookup f) (mA f)) /\ PySem.Within mA (fs.map (·.1))
 | .own _ => ∃ o,h.get? a = some o
 | .xd fs => ∃ mA,h.Ns1 a mA /\ ∀ f,RelO (fs.lookup f) (mA f)
 | .rng lo hi => ∃ t u v,h.get? a = some { cls := .type "range",data := .fields #[.int lo t,.int hi u,.int 1 v] }
 | .frz o u => h.get? a = some o /\ Q1Y H h a u
 | .tbl ps => h.get? a = some { cls := .none,data := .fields ps }
 | .met f x => h.get? a = some (PySem.W.methodObj (.ref f) (.ref x))
 | .ext φ => φ h /\ (∃ o,h.get? a = some o) /\ ∀ h1 h2 : Heap,φ h1 -> (∀ o,h1.get? a = some o -> h2.get? a = some o) -> φ h2
def HOk (H : Hp) (h : Heap) : Prop := ∀ a o,H a = some o -> Q1Y P w H h a o
end
section
variable {P : Program} {w : World} {H H' : Hp} {h h' : Heap} {a : Addr} {o : HO}
theorem Q1Y.lt (x : Q1Y P w H h a o) : a < h.objs.size := by
 cases o with
 | lst xs => obtain ⟨_,_,_,_,e⟩ := x; exact Heap.lt_size e
 | tup xs => obtain ⟨_,_,_,p⟩ := x; exact p.t.lt
 | dK kvs => obtain ⟨_,_,_,_,o,_,_,e,_⟩ := x; exact Heap.lt_size e
 | dT kvs => obtain ⟨_,_,_,_,o,_,_,e,_⟩ := x; exact Heap.lt_size e
 | set S n => obtain ⟨o,_,_,_,e,_⟩ := x; exact Heap.lt_size e
 | ins C dx fs => obtain ⟨_,_,_,e,_⟩ := x; exact Heap.lt_size e
 | own y => obtain ⟨_,e⟩ := x; exact Heap.lt_size e
 | xd fs => obtain ⟨_,⟨_,_,_,e,_⟩,_⟩ := x; exact Heap.lt_size e
 | rng lo hi => obtain ⟨_,_,_,e⟩ := x; exact Heap.lt_size e
 | frz ob u => obtain ⟨e,_⟩ := x; exact Heap.lt_size e
 | tbl ps => exact Heap.lt_size (show h.get? a = some _ from x)
 | met f y => exact Heap.lt_size (show h.get? a = some _ from x)
 | ext φ => obtain ⟨_,⟨_,e⟩,_⟩ := x; exact Heap.lt_size e
theorem Paired.mapP {α β : Type} {F G : α -> β -> Prop} : ∀ {l₁ : List α} {l₂ : List β},Paired F l₁ l₂ -> (∀ a b,F a b -> G a b) -> Paired G l₁ l₂
 | _,_,.nil,_ => .nil
 | _,_,.cons r t,f => .cons (f _ _ r) (Paired.mapP t f)
theorem Q1Y.stay (x : Q1Y P w H h a o) (k : ∀ b u,(b = a \/ H b = some (.own a)) -> h.get? b = some u -> h'.get? b = some u)
  (ho : ∀ b,H b = some (.own a) -> H' b = some (.own a)) (ht : ∀ b xs,H b = some (.tup xs) -> H' b = some (.tup xs)) : Q1Y P w H' h' a o := by
 induction o with
 | lst xs => obtain ⟨z,its,n,r,e⟩ := x; exact ⟨z,its,n,r,k _ _ (.inl rfl) e⟩
 | tup xs => obtain ⟨z,its,r,ob,e,c⟩ := x; exact ⟨z,its,r,ob,k _ _ (.inl rfl) e,c⟩
 | dK kvs => obtain ⟨z,y,vs,r,ob,es,ep,e,c⟩ := x; exact ⟨z,y,vs,r,ob,es,ep,k _ _ (.inl rfl) e,c⟩
 | dT kvs =>
  obtain ⟨z,y,xs,r,ob,es,ep,e,c⟩ := x
  exact ⟨z,y,xs,Paired.mapP r λ p q z => ⟨z.1,ht _ _ z.2.1,z.2.2⟩,ob,es,ep,k _ _ (.inl rfl) e,c⟩
 | set S n => obtain ⟨ob,es,ep,t,e,c⟩ := x; exact ⟨ob,es,ep,t,k _ _ (.inl rfl) e,c⟩
 | ins C dx fs =>
  obtain ⟨d,z,ne,e,mA,⟨od,es,ep,e2,c⟩,r⟩ := x
  exact ⟨ho _ d,z,ne,k _ _ (.inl rfl) e,mA,⟨od,es,ep,k _ _ (.inr d) e2,c⟩,r⟩
 | own y => obtain ⟨ob,e⟩ := x; exact ⟨ob,k _ _ (.inl rfl) e⟩
 | xd fs => obtain ⟨mA,⟨od,es,ep,e,c⟩,r⟩ := x; exact ⟨mA,⟨od,es,ep,k _ _ (.inl rfl) e,c⟩,r⟩
 | rng lo hi => obtain ⟨t,u,v,e⟩ := x; exact ⟨t,u,v,k _ _ (.inl rfl) e⟩
 | frz ob u ih => obtain ⟨e,q⟩ := x; exact ⟨k _ _ (.inl rfl) e,ih q⟩
 | tbl ps =>
  have e : h.get? a = some { cls := .none,data := .fields ps } := x
  show h'.get? a = some { cls := .none,data := .fields ps }
  exact k a _ (.inl rfl) e
 | met f y =>
  have e : h.get? a = some (PySem.W.methodObj (.ref f) (.ref y)) := x
  show h'.get? a = some (PySem.W.methodObj (.ref f) (.ref y))
  exact k a _ (.inl rfl) e
 | ext φ => obtain ⟨p,⟨o,e⟩,st⟩ := x; exact ⟨st _ _ p λ o q => k _ _ (.inl rfl) q,⟨o,k _ _ (.inl rfl) e⟩,st⟩
theorem HOk.lt (x : HOk P w H h) (e : H a = some o) : a < h.objs.size := (x a o e).lt
theorem HOk.fresh (x : HOk P w H h) (e : h.objs.size <= a) : H a = none := by
 cases q : H a with
 | none => rfl
 | some u => exact absurd (Nat.lt_of_lt_of_le (x.lt q) e) (Nat.lt_irrefl _)
theorem HOk.kept (x : HOk P w H h) (k : ∀ b u,h.get? b = some u -> h'.get? b = some u) : HOk P w H h' := λ a o e =>
 (x a o e).stay (λ b u _ q => k b u q) (λ _ q => q) λ _ _ q => q
theorem HOk.laid (x : HOk P w H h) (k : ∀ b u,h.get? b = some u -> h'.get? b = some u) (hp : h.objs.size <= a) (new : Q1Y P w (upd H a o) h' a o) : HOk P w (upd H a o) h' := λ b u e => by
 have hn := x.fresh hp
 by_cases hb : b = a
 ·subst hb; rw [Q0u] at e; cases e; exact new
 ·rw [Q0w hb] at e
  exact (x b u e).stay (λ c v _ q => k c v q) (λ c q => by rw [Q0w (Q0Q q hn)]; exact q) λ c xs q => by rw [Q0w (Q0Q q hn)]; exact q
end
def Rd (H : Hp) (a : Addr) (u : HO) : Prop := H a = some u \/ ∃ o,H a = some (.frz o u)
theorem Rd.ok {P : Program} {w : World} {H : Hp} {h : Heap} {a : Addr} {u : HO} (r : Rd H a u) (x : HOk P w H h) : Q1Y P w H h a u := by
 rcases r with r | ⟨o,r⟩
 ·exact x a u r
 ·obtain ⟨_,q⟩ := x a _ r
  exact q
def Mut : Option HO -> Prop
 | some (.lst _) => True
 | some (.dK _) => True
 | some (.dT _) => True
 | some (.set _ _) => True
 | some (.ins _ _ _) => True
 | some (.ext _) => True
 | _ => False
section
variable {P : Program} {w : World} {H : Hp} {h h' : Heap} {x e : Addr} {o' : HO}
theorem HOk.write (ok : HOk P w H h) (mu : Mut (H x)) (he : e = x \/ H e = some (.own x)) (k : ∀ b u,b ≠ e -> h.get? b = some u -> h'.get? b = some u) (heo : ∃ u,h'.get? e = some u)
  (new : Q1Y P w (upd H x o') h' x o') : HOk P w (upd H x o') h' := λ b u q => by
 have nown : ∀ c y,H c = some (.own y) -> c ≠ x := λ c y r z => by subst z; rw [r] at mu; exact mu
 have ntup : ∀ c xs,H c = some (.tup xs) -> c ≠ x := λ c xs r z => by subst z; rw [r] at mu; exact mu
 by_cases hb : b = x
 ·subst hb; rw [Q0u] at q; cases q; exact new
 ·rw [Q0w hb] at q
  by_cases hbe : b = e
  ·have q' : H b = some (.own x) := by
    rcases he with z | z
    ·exact absurd (hbe.trans z) hb
    ·rw [hbe]; exact z
   rw [q] at q'; cases q'
   obtain ⟨v,hv⟩ := heo
   exact ⟨v,by rw [hbe]; exact hv⟩
  ·refine (ok b u q).stay (λ c v hc r => k c v ?_ r) (λ c r => by rw [Q0w (nown c b r)]; exact r) λ c xs r => by rw [Q0w (ntup c xs r)]; exact r
   rcases hc with rfl | hc
   ·exact hbe
   ·rintro rfl
    rcases he with z | z
    ·exact nown c b hc z
    ·rw [hc] at z; cases z; exact hb rfl
end
structure Un (fs ex : List Addr) (H H' : Hp) (h h' : Heap) : Prop where
 keep : ∀ b o,h.get? b = some o -> H b = none -> b ∉ fs -> b ∉ ex -> h'.get? b = some o
 slot : ∀ b o,h.get? b = some o -> H b = none -> b ∈ fs -> b ∉ ex -> ∃ sl,h'.get? b = some { o with slots := sl }
 free : ∀ b o,h.get? b = some o -> H b = none -> b ∉ ex -> H' b = none
 there : ∀ b o,h.get? b = some o -> b ∉ ex -> ∃ o',h'.get? b = some o'
 tups : ∀ b xs,H b = some (.tup xs) -> H' b = some (.tup xs)
 frzs : ∀ b o u,H b = some (.frz o u) -> H' b = some (.frz o u)
 tbls : ∀ b ps,H b = some (.tbl ps) -> ∃ more,H' b = some (.tbl (ps ++ more))
section
variable {fs fs' ex ex' : List Addr} {H H1 H2 : Hp} {h h1 h2 h' : Heap} {a x e : Addr} {o : HO}
theorem Un.any (u : Un fs ex H H1 h h1) {b : Addr} {ob : Obj} (q : h.get? b = some ob) (n : H b = none) (hx : b ∉ ex) : ∃ sl,h1.get? b = some { ob with slots := sl } := by
 by_cases hb : b ∈ fs
 ·exact u.slot b ob q n hb hx
 ·exact ⟨ob.slots,u.keep b ob q n hb hx⟩
theorem Un.kept (k : ∀ b u,h.get? b = some u -> h'.get? b = some u) : Un fs ex H H h h' :=
 ⟨λ b ob q _ _ _ => k b ob q,λ b ob q _ _ _ => ⟨ob.slots,k b ob q⟩,λ _ _ _ n _ => n,λ b ob q _ => ⟨ob,k b ob q⟩,λ _ _ q => q,λ _ _ _ q => q,λ _ ps q => ⟨#[],by rw [q]; simp⟩⟩
theorem Un.refl : Un fs ex H H h h := Un.kept λ _ _ q => q
theorem Un.laid (k : ∀ b u,h.get? b = some u -> h'.get? b = some u) (hp : h.objs.size <= a) (hn : H a = none) : Un fs ex H (upd H a o) h h' where
 keep := λ b u q _ _ _ => k b u q
 slot := λ b u q _ _ _ => ⟨u.slots,k b u q⟩
 free := λ b u q n _ => by rw [Q0w (Nat.ne_of_lt (Nat.lt_of_lt_of_le (Heap.lt_size q) hp))]; exact n
 there := λ b u q _ => ⟨u,k b u q⟩
 tups := λ b xs q => by rw [Q0w (Q0Q q hn)]; exact q
 frzs := λ b u xs q => by rw [Q0w (Q0Q q hn)]; exact q
 tbls := λ b ps q => ⟨#[],by rw [Q0w (Q0Q q hn),q]; simp⟩
theorem Un.write (mu : Mut (H x)) (he : e = x \/ H e = some (.own x)) (k : ∀ b u,b ≠ e -> h.get? b = some u -> h'.get? b = some u) (heo : ∃ u,h'.get? e = some u) : Un fs ex H (upd H x o) h h' := by
 have hx : ∀ b,H b = none -> b ≠ x := λ b n z => by subst z; rw [n] at mu; exact mu
 have hb : ∀ b,H b = none -> b ≠ e := λ b n z => by
  subst z
  rcases he with r | r
  ·exact hx b n r
  ·rw [n] at r; cases r
 have hm : ∀ b u,H b = some u -> ¬ Mut (some u) -> b ≠ x := λ b u q nm z => by subst z; rw [q] at mu; exact nm mu
 refine ⟨λ b u q n _ _ => k b u (hb b n) q,λ b u q n _ _ => ⟨u.slots,k b u (hb b n) q⟩,λ b u q n _ => by rw [Q0w (hx b n)]; exact n,λ b u q _ => ?_,
  λ b xs q => by rw [Q0w (hm b _ q λ z => z)]; exact q,λ b u xs q => by rw [Q0w (hm b _ q λ z => z)]; exact q,λ b ps q => ⟨#[],by rw [Q0w (hm b _ q λ z => z),q]; simp⟩⟩
 by_cases hbe : b = e
 ·subst hbe; exact heo
 ·exact ⟨u,k b u hbe q⟩
end
def trk (h : Heap) (H : Hp) : List Addr := (List.range h.objs.size).filter λ a => (H a).isSome
def hidT (h : Heap) (H : Hp) : Heap := PySem.W.hideAll h (trk h H)
theorem Z5z (h : Heap) (H : Hp) : (hidT h H).objs.size = h.objs.size := PySem.W.hideAll_size _ _
theorem Z7z {h : Heap} {H : Hp} {b : Addr} {o : Obj} (e : h.get? b = some o) (n : H b = none) : (hidT h H).get? b = some o :=
 PySem.W.hideAll_get _ e λ hm => by
  have q : (H b).isSome = true := (List.mem_filter.mp hm).2
  rw [n] at q; simp at q
theorem Z9t {h : Heap} {H : Hp} {b : Addr} {o : Obj} (e : (hidT h H).get? b = some o) : h.get? b = some o /\ H b = none := by
 have e' : h.get? b = some o := PySem.W.of_hideAll (trk h H) e
 refine ⟨e',?_⟩
 cases q : H b with
 | none => rfl
 | some x =>
  have hm : b ∈ trk h H := List.mem_filter.mpr ⟨List.mem_range.mpr (Heap.lt_size e'),by simp [q]⟩
  have z : (hidT h H).get? b = none := PySem.W.hideAll_none (trk h H) hm
  rw [z] at e; cases e
def Y0g (g h : Heap) (L : Addr) : List (Addr × Obj) := (List.range h.objs.size).filterMap λ a => if a = L \/ (g.get? a).isSome = true then none else (h.get? a).map λ o => (a,o)
def rest (g h : Heap) (L d : Addr) : List (Addr × Obj) := (Y0g g h L).filter λ p => decide (p.1 ≠ d)
end L2
namespace L2
open PySem PySem.Spec PyProof.Rows
structure Mod (K : PySem.W.Frag) (mg : Str -> Option Value) (base : Heap) : Prop where
 kin : K.In base
 glob : base.Ns mainGlobals mg
 blt : ∃ mb,base.Ns builtinsNs mb /\ ∀ x : Str,x ≠ "__name__" -> mb x = bootBuiltins x
 nolimit : base.NoLimit
structure Cx where
 prog : Program
 w : World
 K : PySem.W.Frag
 mg : Str -> Option Value
 base : Heap
 A : Around
 N : List Str
 s₀ : Shared
 H₀ : Hp
 env : Env
 outer : List Env
 stack : List Env
 ex : List Addr
 fn : Str -> Bool
 calm : Bool
 pn : List (Addr × Obj)
 xe : Value -> Shared -> Prop
def frs (l : List Env) : List Addr := l.filterMap (·.frame)
abbrev Cx.fs (X : Cx) : List Addr := frs X.outer
def Vis (sc : Scope) (x : Str) : Prop := sc.names.lookup x = some .local \/ sc.names.lookup x = some .cell \/ sc.names.lookup x = some .free
def Loc (sc : Scope) (x : Str) : Prop := sc.names.lookup x = some .local \/ sc.names.lookup x = some .cell
def Look (env : Env) (h : Heap) (m : Str -> Option Value) (x : Str) (u : Value) : Prop :=
 (env.kindOf x = some .local /\ m x = some u) \/ ((env.kindOf x = some .cell \/ env.kindOf x = some .free) /\ ∃ c,env.cells.lookup x = some c /\ h.IsCell c (some u))
structure Cx.Ok (X : Cx) : Prop where
 mod : Mod X.K X.mg X.base
 kind : X.env.scope.kind = .function
 glob : X.env.globals = mainGlobals
 blt : X.env.builtins = builtinsNs
 above : X.s₀.heap.objs.size <= X.env.locals
 inj : ∀ x y c,X.env.cells.lookup x = some c -> X.env.cells.lookup y = some c -> x = y
 has : ∀ x,(X.env.kindOf x = some .cell \/ X.env.kindOf x = some .free) -> ∃ c,X.env.cells.lookup x = some c
 cab : ∀ x c,X.fn x = true -> X.env.cells.lookup x = some c -> X.s₀.heap.objs.size <= c
 hd : X.calm = true -> X.A.handled = none
 frames : X.A.frames = some X.stack
 stk : X.stack = X.outer \/ (X.stack = X.env :: X.outer /\ X.env.frame = some X.env.locals)
 exf : ∀ b ∈ X.ex,b ≠ X.env.locals /\ ∀ x c,X.env.cells.lookup x = some c -> c ≠ b
 bs : ∀ b o,X.base.get? b = some o -> X.s₀.heap.get? b = some o /\ X.H₀ b = none
 bsz : X.base.objs.size <= X.s₀.heap.objs.size
 noex : ∀ b o,X.base.get? b = some o -> b ∉ X.ex
 exfs : ∀ b ∈ X.ex,b ∉ X.fs
 funs : X.s₀.heap.FunFrames X.base X.outer
 frf : ∀ b ∈ X.fs,X.H₀ b = none
structure Inv (X : Cx) (pins : List (Addr × Obj)) (σ : List (Option V)) (H : Hp) (s : Shared) : Prop where
 ok : X.Ok
 os : s.os = X.s₀.os
 bare : AllBare s.gens
 base : Un X.fs X.ex X.H₀ H X.s₀.heap s.heap
 loc : ∃ m,s.heap.Ns X.env.locals m /\ ∀ (i : Nat) (x : Str) (v : V),X.N[i]? = some x -> σ[i]? = some (some v) -> Vis X.env.scope x -> ∃ u,RelV v u /\ Look X.env s.heap m x u
 cell : ∀ x c,X.env.cells.lookup x = some c -> ∃ v,s.heap.IsCell c v
 free : H X.env.locals = none
 freeC : ∀ x c,X.env.cells.lookup x = some c -> H c = none
 pin : ∀ p ∈ X.pn ++ pins,s.heap.get? p.1 = some p.2 /\ H p.1 = none /\ p.1 ≠ X.env.locals /\ p.1 ∉ X.fs /\ ∀ v,p.2.data ≠ .cell v
 hok : HOk X.prog X.w H s.heap
 len : σ.length = X.N.length
section
variable {X : Cx} {pins : List (Addr × Obj)} {σ : List (Option V)} {H H' : Hp} {s : Shared} {h' : Heap}
theorem Cx.Ok.nofr (ok : X.Ok) {b : Addr} {o : Obj} (e : X.base.get? b = some o) : b ∉ X.fs := λ hb => by
 have := (ok.funs.mem hb).1
 rw [e] at this; cases this
theorem Inv.bs (I : Inv X pins σ H s) : ∀ b o,X.base.get? b = some o -> s.heap.get? b = some o /\ H b = none := λ b o e =>
 ⟨I.base.keep b o (I.ok.bs b o e).1 (I.ok.bs b o e).2 (I.ok.nofr e) (I.ok.noex b o e),I.base.free b o (I.ok.bs b o e).1 (I.ok.bs b o e).2 (I.ok.noex b o e)⟩
theorem Inv.bk (I : Inv X pins σ H s) : ∀ b o,X.base.get? b = some o -> s.heap.get? b = some o := λ b o e => (I.bs b o e).1
theorem Inv.mod (I : Inv X pins σ H s) : Mod X.K X.mg X.base := I.ok.mod
theorem Inv.kIn (I : Inv X pins σ H s) : X.K.In s.heap := I.ok.mod.kin.keeps I.bk
theorem Inv.lt (I : Inv X pins σ H s) : X.env.locals < s.heap.objs.size := let ⟨_,hn,_⟩ := I.loc; hn.lt
theorem Inv.sz (I : Inv X pins σ H s) : X.s₀.heap.objs.size <= s.heap.objs.size := Nat.le_trans I.ok.above (Nat.le_of_lt I.lt)
theorem Inv.nofs (I : Inv X pins σ H s) {a : Addr} (h : s.heap.objs.size <= a) : a ∉ X.fs := λ hb => by
 obtain ⟨_,o,ho,_⟩ := I.ok.funs.mem hb
 exact absurd (Nat.lt_of_lt_of_le (Heap.lt_size ho) (Nat.le_trans I.sz h)) (Nat.lt_irrefl _)
theorem Inv.cne (I : Inv X pins σ H s) : ∀ x c,X.env.cells.lookup x = some c -> c ≠ X.env.locals := λ x c e z => by
 obtain ⟨v,o,ho,hd⟩ := I.cell x c e
 obtain ⟨m,⟨o',es,ep,ho',hd',_⟩,_⟩ := I.loc
 rw [z,ho'] at ho; cases ho; rw [hd'] at hd; cases hd
theorem Inv.funs (I : Inv X pins σ H s) : s.heap.FunFrames X.base X.outer := by
 have all : ∀ (l : List Env),(∀ b ∈ frs l,b ∈ X.fs) -> X.s₀.heap.FunFrames X.base l -> s.heap.FunFrames X.base l := by
  intro l
  induction l with
  | nil => intro _ _; trivial
  | cons env r ih =>
   intro hs hl
   obtain ⟨hk,⟨L,o,hf,hn,ho,hd⟩,hr⟩ := hl
   have hL : L ∈ X.fs := hs L (by unfold frs; rw [List.filterMap_cons,hf]; exact List.mem_cons_self)
   obtain ⟨sl,e⟩ := I.base.slot L o ho (I.ok.frf L hL) hL λ z => I.ok.exfs L z hL
   exact ⟨hk,⟨L,_,hf,hn,e,hd⟩,ih (λ b hb => hs b (by unfold frs; rw [List.filterMap_cons,hf]; exact List.mem_cons_of_mem _ hb)) hr⟩
 exact all X.outer (λ _ hb => hb) I.ok.funs
theorem Inv.stack (I : Inv X pins σ H s) : s.heap.FunFrames X.base X.stack := by
 rcases I.ok.stk with e | ⟨e,hf⟩
 ·rw [e]; exact I.funs
 ·rw [e]
  obtain ⟨m,hn,_⟩ := I.loc
  refine .cons (by rw [I.ok.kind]; decide) hf hn ?_ I.funs
  exact Heap.get?_none_of_le (Nat.le_trans I.ok.bsz I.ok.above)
theorem Inv.stkSub (I : Inv X pins σ H s) : ∀ b ∈ frs X.stack,b ∈ X.env.locals :: X.fs := λ b hb => by
 rcases I.ok.stk with e | ⟨e,hf⟩
 ·rw [e] at hb; exact List.mem_cons_of_mem _ hb
 ·rw [e] at hb
  unfold frs at hb
  rw [List.filterMap_cons,hf] at hb
  exact hb
theorem Inv.stkFree (I : Inv X pins σ H s) : ∀ b ∈ frs X.stack,H b = none := λ b hb => by
 rcases List.mem_cons.mp (I.stkSub b hb) with e | hb
 ·rw [e]; exact I.free
 ·obtain ⟨_,o,ho,_⟩ := I.ok.funs.mem hb
  exact I.base.free b o ho (I.ok.frf b hb) λ z => I.ok.exfs b z hb
theorem Inv.step {g' : Array GenState} {t' : Nat} {d' : Drawn} {ch : List Addr} (I : Inv X pins σ H s)
  (hch : ∀ b ∈ ch,(b ∈ X.ex \/ X.s₀.heap.objs.size <= b) /\ b ≠ X.env.locals /\ (∀ x c,X.env.cells.lookup x = some c -> c ≠ b) /\ ∀ p ∈ X.pn ++ pins,p.1 ≠ b)
  (keep : ∀ b o,b ≠ X.env.locals -> b ∉ X.fs -> b ∉ ch -> s.heap.get? b = some o -> H b = none -> h'.get? b = some o)
  (slot : ∀ b o,b ≠ X.env.locals -> b ∈ X.fs -> b ∉ ch -> s.heap.get? b = some o -> H b = none -> ∃ sl,h'.get? b = some { o with slots := sl }) (free : ∀ b o,b ∉ ch -> s.heap.get? b = some o -> H b = none -> H' b = none)
  (there : ∀ b o,b ∉ ch -> s.heap.get? b = some o -> ∃ o',h'.get? b = some o')
  (tups : ∀ b xs,H b = some (.tup xs) -> H' b = some (.tup xs)) (frzs : ∀ b o u,H b = some (.frz o u) -> H' b = some (.frz o u)) (tbls : ∀ b ps,H b = some (.tbl ps) -> ∃ more,H' b = some (.tbl (ps ++ more)))
  (ns : ∀ m,s.heap.Ns X.env.locals m -> h'.Ns X.env.locals m) (hok : HOk X.prog X.w H' h') (hg : AllBare g') :
  Inv X pins σ H' { s with heap := h',gens := g',drawn := d',toks := t' } := by
 have neL : ∀ b o,X.s₀.heap.get? b = some o -> b ≠ X.env.locals := λ b o e => Nat.ne_of_lt (Nat.lt_of_lt_of_le (Heap.lt_size e) I.ok.above)
 have neC : ∀ b o,X.s₀.heap.get? b = some o -> b ∉ X.ex -> b ∉ ch := λ b o e hx hb => by
  rcases (hch b hb).1 with z | z
  ·exact hx z
  ·exact absurd (Nat.lt_of_lt_of_le (Heap.lt_size e) z) (Nat.lt_irrefl _)
 have cellK : ∀ x c,X.env.cells.lookup x = some c -> ∀ v,s.heap.IsCell c v -> h'.IsCell c v := λ x c e v ⟨o,ho,hd⟩ => by
  have nch : c ∉ ch := λ z => (hch c z).2.2.1 x c e rfl
  by_cases hc : c ∈ X.fs
  ·obtain ⟨sl,q⟩ := slot c o (I.cne x c e) hc nch ho (I.freeC x c e)
   exact ⟨_,q,hd⟩
  ·exact ⟨o,keep c o (I.cne x c e) hc nch ho (I.freeC x c e),hd⟩
 refine ⟨I.ok,I.os,hg,⟨λ b o e n hb hx => ?_,λ b o e n hb hx => ?_,λ b o e n hx => ?_,λ b o e hx => ?_,λ b xs e => tups b xs (I.base.tups b xs e),λ b o xs e => frzs b o xs (I.base.frzs b o xs e),λ b ps e => ?_⟩,?_,λ x c e => ?_,?_,λ x c e => ?_,λ p hp => ?_,hok,I.len⟩
 ·exact keep b o (neL b o e) hb (neC b o e hx) (I.base.keep b o e n hb hx) (I.base.free b o e n hx)
 ·obtain ⟨sl,e1⟩ := I.base.slot b o e n hb hx
  obtain ⟨sl',e2⟩ := slot b _ (neL b o e) hb (neC b o e hx) e1 (I.base.free b o e n hx)
  exact ⟨sl',e2⟩
 ·obtain ⟨o',e1⟩ := I.base.there b o e hx
  exact free b o' (neC b o e hx) e1 (I.base.free b o e n hx)
 ·obtain ⟨o',e1⟩ := I.base.there b o e hx
  exact there b o' (neC b o e hx) e1
 ·obtain ⟨m1,e1⟩ := I.base.tbls b ps e
  obtain ⟨m2,e2⟩ := tbls b _ e1
  exact ⟨m1 ++ m2,by rw [e2,Array.append_assoc]⟩
 ·obtain ⟨m,hn,hl⟩ := I.loc
  refine ⟨m,ns m hn,λ i x v e1 e2 e3 => ?_⟩
  obtain ⟨u,r,l⟩ := hl i x v e1 e2 e3
  refine ⟨u,r,?_⟩
  rcases l with l | ⟨k,c,e,z⟩
  ·exact .inl l
  ·exact .inr ⟨k,c,e,cellK x c e _ z⟩
 ·obtain ⟨v,z⟩ := I.cell x c e
  exact ⟨v,cellK x c e v z⟩
 ·obtain ⟨m,⟨o,_,_,ho,_⟩,_⟩ := I.loc
  exact free _ o (λ z => (hch _ z).2.1 rfl) ho I.free
 ·obtain ⟨v,o,ho,hd⟩ := I.cell x c e
  exact free c o (λ z => (hch c z).2.2.1 x c e rfl) ho (I.freeC x c e)
 ·obtain ⟨e,n,ne,nf,d⟩ := I.pin p hp
  have nch : p.1 ∉ ch := λ z => (hch p.1 z).2.2.2 p hp rfl
  exact ⟨keep p.1 p.2 ne nf nch e n,free p.1 p.2 nch e n,ne,nf,d⟩
theorem Inv.un {t' : Nat} (I : Inv X pins σ H s) (u : Un X.fs [] H H' s.heap h') (hok : HOk X.prog X.w H' h') : Inv X pins σ H' { s with heap := h',toks := t' } := by
 obtain ⟨m,⟨o,es,ep,ho,r⟩,_⟩ := id I.loc
 obtain ⟨sl,hL⟩ := u.any ho I.free (by simp)
 exact I.step (g' := s.gens) (d' := s.drawn) (ch := []) (λ _ z => nomatch z) (λ b o _ hb _ e n => u.keep b o e n hb (by simp)) (λ b o _ hb _ e n => u.slot b o e n hb (by simp)) (λ b o _ e n => u.free b o e n (by simp)) (λ b o _ e => u.there b o e (by simp)) u.tups u.frzs u.tbls (λ m' hm => by
  obtain ⟨o',es',ep',ho',r'⟩ := hm
  rw [ho] at ho'; cases ho'
  exact ⟨_,es',ep',hL,r'⟩) hok I.bare
theorem Inv.call {g' : Array GenState} {t' : Nat} {d' : Drawn} {ch : List Addr} (I : Inv X pins σ H s) (u : Un (frs X.stack) ch H H' s.heap h') (hok : HOk X.prog X.w H' h') (hg : AllBare g')
  (hch : ∀ b ∈ ch,(b ∈ X.ex \/ X.s₀.heap.objs.size <= b) /\ b ≠ X.env.locals /\ (∀ x c,X.env.cells.lookup x = some c -> c ≠ b) /\ ∀ p ∈ X.pn ++ pins,p.1 ≠ b) :
  Inv X pins σ H' { s with heap := h',gens := g',drawn := d',toks := t' } := by
 obtain ⟨m,⟨o,es,ep,ho,r⟩,_⟩ := id I.loc
 obtain ⟨sl,hL⟩ := u.any ho I.free λ z => (hch _ z).2.1 rfl
 exact I.step (ch := ch) hch (λ b o hL hb hc e n => u.keep b o e n (λ z => (List.mem_cons.mp (I.stkSub b z)).elim hL hb) hc) (λ b o _ _ hc e n => u.any e n hc) (λ b o hc e n => u.free b o e n hc) (λ b o hc e => u.there b o e hc) u.tups u.frzs u.tbls (λ m' hm => by
  obtain ⟨o',es',ep',ho',r'⟩ := hm
  rw [ho] at ho'; cases ho'
  exact ⟨_,es',ep',hL,r'⟩) hok hg
theorem Inv.turned {t' : Nat} {it : Addr} (I : Inv X pins σ H s) (k : ∀ b o,b ≠ it -> s.heap.get? b = some o -> h'.get? b = some o) (hn : H it = none) (hL : it ≠ X.env.locals)
  (h1 : it ∈ X.ex \/ X.s₀.heap.objs.size <= it) (h2 : ∀ x c,X.env.cells.lookup x = some c -> c ≠ it) (h3 : ∀ p ∈ X.pn ++ pins,p.1 ≠ it) : Inv X pins σ H { s with heap := h',toks := t' } := by
 have nit : ∀ b u,H b = some u -> b ≠ it := λ b u e z => by rw [z,hn] at e; cases e
 refine I.step (g' := s.gens) (d' := s.drawn) (ch := [it]) (λ b hb => ?_) (λ b o _ _ hc e _ => k b o (λ z => hc (by simp [z])) e) (λ b o _ _ hc e _ => ⟨o.slots,k b o (λ z => hc (by simp [z])) e⟩) (λ _ _ _ _ n => n)
  (λ b o hc e => ⟨o,k b o (λ z => hc (by simp [z])) e⟩) (λ _ _ e => e) (λ _ _ _ e => e) (λ b ps e => ⟨#[],by rw [e]; simp⟩) (λ m hm => ?_) (λ b u e => ?_) I.bare
 ·have e : b = it := by simpa using hb
  subst e
  exact ⟨h1,hL,h2,h3⟩
 ·obtain ⟨o,es,ep,ho,r⟩ := hm
  exact ⟨o,es,ep,k _ o (Ne.symm hL) ho,r⟩
 ·refine (I.hok b u e).stay (λ c v hc q => k c v ?_ q) (λ _ q => q) λ _ _ q => q
  rcases hc with z | z
  ·rw [z]; exact nit b u e
  ·exact nit c _ z
theorem Inv.tok (I : Inv X pins σ H s) (t : Nat) : Inv X pins σ H { s with toks := t } := I.un (h' := s.heap) (t' := t) Un.refl I.hok
theorem Inv.kept {t' : Nat} (I : Inv X pins σ H s) (k : ∀ b u,s.heap.get? b = some u -> h'.get? b = some u) : Inv X pins σ H { s with heap := h',toks := t' } := I.un (Un.kept k) (I.hok.kept k)
theorem Inv.laid {a : Addr} {o : HO} {t' : Nat} (I : Inv X pins σ H s) (k : ∀ b u,s.heap.get? b = some u -> h'.get? b = some u) (hp : s.heap.objs.size <= a) (new : Q1Y X.prog X.w (upd H a o) h' a o) :
  Inv X pins σ (upd H a o) { s with heap := h',toks := t' } := I.un (Un.laid k hp (I.hok.fresh hp)) (I.hok.laid k hp new)
theorem Inv.write {x e : Addr} {o : HO} {t' : Nat} (I : Inv X pins σ H s) (mu : Mut (H x)) (he : e = x \/ H e = some (.own x)) (k : ∀ b u,b ≠ e -> s.heap.get? b = some u -> h'.get? b = some u) (heo : ∃ u,h'.get? e = some u)
  (new : Q1Y X.prog X.w (upd H x o) h' x o) : Inv X pins σ (upd H x o) { s with heap := h',toks := t' } := I.un (Un.write mu he k heo) (I.hok.write mu he k heo new)
theorem Inv.pins_of {pins' : List (Addr × Obj)} (I : Inv X pins σ H s) (h : ∀ p ∈ pins',s.heap.get? p.1 = some p.2 /\ H p.1 = none /\ p.1 ≠ X.env.locals /\ p.1 ∉ X.fs /\ ∀ v,p.2.data ≠ .cell v) : Inv X pins' σ H s :=
 ⟨I.ok,I.os,I.bare,I.base,I.loc,I.cell,I.free,I.freeC,λ p hp => (List.mem_append.mp hp).elim (λ z => I.pin p (List.mem_append_left _ z)) (h p),I.hok,I.len⟩
theorem Z2k {N : List Str} (hN : N.Nodup) {i j : Nat} {x : Str} (a : N[i]? = some x) (b : N[j]? = some x) : i = j := by
 obtain ⟨h1,e1⟩ := List.getElem?_eq_some_iff.mp a
 obtain ⟨h2,e2⟩ := List.getElem?_eq_some_iff.mp b
 exact (List.getElem_inj hN).mp (e1.trans e2.symm)
theorem Q9z {M : Model} {A : Around} {E : Value -> Shared -> Prop} {i : Nat} {x : Str} {v : V} {u : Value} {Q : Unit -> Shared -> Prop} (I : Inv X pins σ H s) (hN : X.N.Nodup) (hi : X.N[i]? = some x) (hx : Loc X.env.scope x) (r : RelV v u)
  (h : ∀ s',Inv X pins (σ.set i (some v)) H s' -> (∃ a,Heap.SameBut a s.heap s'.heap /\ (a = X.env.locals \/ X.env.cells.lookup x = some a)) -> Q () s') (hf : X.fn x = true \/ X.env.scope.names.lookup x = some .local := by first | exact .inl rfl | exact .inr rfl | assumption) : wpAny M A (storeName X.env x u) Q E s := by
 obtain ⟨m,hn,hl⟩ := id I.loc
 have hcls : (X.env.scope.kind == .class || (X.env.scope.kind == .module && X.env.locals != X.env.globals)) = false := by rw [I.ok.kind]; rfl
 have hiσ : i < σ.length := by rw [I.len]; exact (List.getElem?_eq_some_iff.mp hi).1
 have cne := I.cne
 have tracked : ∀ {a : Addr} {h' : Heap},(∃ o,s.heap.get? a = some o /\ H a = none) -> Heap.SameBut a s.heap h' -> HOk X.prog X.w H h' := λ {a h'} ha hs b ob e => by
  obtain ⟨_,_,hfree⟩ := ha
  refine (I.hok b ob e).stay (λ c w' hc q => (hs.2 c ?_).trans q) (λ _ q => q) λ _ _ q => q
  rintro rfl
  rcases hc with rfl | hc
  ·rw [hfree] at e; cases e
  ·rw [hfree] at hc; cases hc
 rcases hx with hk | hk
 ·refine wpAny_storeName_local hk hn (λ h' hn' hs => ?_) hcls
  obtain ⟨oL,_,_,hoL,_⟩ := id hn
  refine h _ ⟨I.ok,I.os,I.bare,⟨λ b o e n hb hx => ?_,λ b o e n hb hx => ?_,I.base.free,λ b o e hx => ?_,I.base.tups,I.base.frzs,I.base.tbls⟩,⟨_,hn',λ j y v' e1 e2 e3 => ?_⟩,λ y c e => ?_,I.free,I.freeC,λ p hp => ?_,tracked ⟨oL,hoL,I.free⟩ hs,by simpa using I.len⟩ ⟨_,hs,.inl rfl⟩
  ·exact (hs.2 b (Nat.ne_of_lt (Nat.lt_of_lt_of_le (Heap.lt_size e) I.ok.above))).trans (I.base.keep b o e n hb hx)
  ·obtain ⟨sl,e1⟩ := I.base.slot b o e n hb hx
   exact ⟨sl,(hs.2 b (Nat.ne_of_lt (Nat.lt_of_lt_of_le (Heap.lt_size e) I.ok.above))).trans e1⟩
  ·obtain ⟨o',e1⟩ := I.base.there b o e hx
   exact ⟨o',(hs.2 b (Nat.ne_of_lt (Nat.lt_of_lt_of_le (Heap.lt_size e) I.ok.above))).trans e1⟩
  ·by_cases hj : j = i
   ·subst hj
    rw [hi] at e1; cases e1
    rw [List.getElem?_set_self hiσ] at e2
    cases e2
    exact ⟨u,r,.inl ⟨hk,by simp⟩⟩
   ·rw [List.getElem?_set_ne (Ne.symm hj)] at e2
    obtain ⟨u',r',q⟩ := hl j y v' e1 e2 e3
    refine ⟨u',r',?_⟩
    rcases q with ⟨k,e⟩ | ⟨k,c,e,z⟩
    ·refine .inl ⟨k,?_⟩
     have : y ≠ x := λ e => hj (Z2k hN e1 (e ▸ hi))
     simp [this,e]
    ·exact .inr ⟨k,c,e,z.sameBut hs (cne y c e)⟩
  ·obtain ⟨w',z⟩ := I.cell y c e
   exact ⟨w',z.sameBut hs (cne y c e)⟩
  ·obtain ⟨e,n,ne,nf,d⟩ := I.pin p hp
   exact ⟨(hs.2 p.1 ne).trans e,n,ne,nf,d⟩
 ·have hfn : X.fn x = true := by
   rcases hf with z | z
   ·exact z
   ·rw [z] at hk; cases hk
  obtain ⟨c,hc⟩ := I.ok.has x (.inl hk)
  obtain ⟨w',z⟩ := I.cell x c hc
  refine wpAny_storeName_cell I.ok.kind hk hc z (λ h' hc' hs => ?_)
  obtain ⟨oc,hoc,hocd⟩ := id z
  refine h { s with heap := h' } ⟨I.ok,I.os,I.bare,⟨λ b o e n hb hx => ?_,λ b o e n hb hx => ?_,I.base.free,λ b o e hx => ?_,I.base.tups,I.base.frzs,I.base.tbls⟩,⟨m,hn.sameBut hs (Ne.symm (cne x c hc)),λ j y v' e1 e2 e3 => ?_⟩,λ y c' e => ?_,I.free,I.freeC,λ p hp => ?_,tracked ⟨oc,hoc,I.freeC x c hc⟩ hs,by simpa using I.len⟩ ⟨c,hs,.inr hc⟩
  ·exact (hs.2 b (Nat.ne_of_lt (Nat.lt_of_lt_of_le (Heap.lt_size e) (I.ok.cab x c hfn hc)))).trans (I.base.keep b o e n hb hx)
  ·obtain ⟨sl,e1⟩ := I.base.slot b o e n hb hx
   exact ⟨sl,(hs.2 b (Nat.ne_of_lt (Nat.lt_of_lt_of_le (Heap.lt_size e) (I.ok.cab x c hfn hc)))).trans e1⟩
  ·obtain ⟨o',e1⟩ := I.base.there b o e hx
   exact ⟨o',(hs.2 b (Nat.ne_of_lt (Nat.lt_of_lt_of_le (Heap.lt_size e) (I.ok.cab x c hfn hc)))).trans e1⟩
  ·by_cases hj : j = i
   ·subst hj
    rw [hi] at e1; cases e1
    rw [List.getElem?_set_self hiσ] at e2
    cases e2
    exact ⟨u,r,.inr ⟨.inl hk,c,hc,hc'⟩⟩
   ·rw [List.getElem?_set_ne (Ne.symm hj)] at e2
    obtain ⟨u',r',q⟩ := hl j y v' e1 e2 e3
    refine ⟨u',r',?_⟩
    rcases q with q | ⟨k,c',e,z'⟩
    ·exact .inl q
    ·refine .inr ⟨k,c',e,z'.sameBut hs ?_⟩
     rintro rfl
     exact hj (Z2k hN e1 (I.ok.inj _ _ _ e hc ▸ hi))
  ·by_cases hcc : c' = c
   ·subst hcc; exact ⟨_,hc'⟩
   ·obtain ⟨w2,z2⟩ := I.cell y c' e
    exact ⟨w2,z2.sameBut hs hcc⟩
  ·obtain ⟨e,n,ne,nf,d⟩ := I.pin p hp
   refine ⟨(hs.2 p.1 ?_).trans e,n,ne,nf,d⟩
   intro q
   rw [q,hoc] at e
   have q' : oc = p.2 := Option.some.inj e
   exact d w' (by rw [<- q']; exact hocd)
theorem Z1R {M : Model} {A : Around} {E : Value -> Shared -> Prop} {i : Nat} {x : Str} {v : V} {u : Value} {Q : Unit -> Shared -> Prop} (I : Inv X pins σ H s) (hN : X.N.Nodup) (hi : X.N[i]? = some x) (hx : Loc X.env.scope x) (r : RelV v u)
  (h : ∀ s',Inv X pins (σ.set i (some v)) H s' -> Q () s') (hf : X.fn x = true \/ X.env.scope.names.lookup x = some .local := by first | exact .inl rfl | exact .inr rfl | assumption) : wpAny M A (storeName X.env x u) Q E s :=
 Q9z I hN hi hx r (λ s' I' _ => h s' I') hf
theorem Inv.call' {s' : Shared} {ch : List Addr} (I : Inv X pins σ H s) (ho : s'.os = s.os) (u : Un (frs X.stack) ch H H' s.heap s'.heap) (hok : HOk X.prog X.w H' s'.heap) (hg : AllBare s'.gens)
  (hch : ∀ b ∈ ch,(b ∈ X.ex \/ X.s₀.heap.objs.size <= b) /\ b ≠ X.env.locals /\ (∀ x c,X.env.cells.lookup x = some c -> c ≠ b) /\ ∀ p ∈ X.pn ++ pins,p.1 ≠ b) : Inv X pins σ H' s' := by
 obtain ⟨h',g',d',t',o'⟩ := s'
 have e : o' = s.os := ho
 subst e
 exact I.call (g' := g') (t' := t') (d' := d') u hok hg hch
end
abbrev XK := Value -> Option Addr -> Hp -> Prop
abbrev St := List (Option V)
abbrev VK := V -> Hp -> Prop
abbrev TE := St -> Hp -> VK -> Prop
abbrev TT := St -> Hp -> (Bool -> Hp -> Prop) -> Prop
abbrev TA := St -> Hp -> (List V -> Hp -> Prop) -> Prop
structure Ends where
 nx : St -> Hp -> Prop
 rt : VK
 bk : St -> Hp -> Prop := λ _ _ => False
 ct : St -> Hp -> Prop := λ _ _ => False
abbrev TS := Ends -> St -> Hp -> Prop
def EP (X : Cx) (pins : List (Addr × Obj)) (σ : St) (Q : VK) (u : Value) (s' : Shared) : Prop := ∃ v H',Inv X pins σ H' s' /\ RelV v u /\ Q v H'
def TP (X : Cx) (pins : List (Addr × Obj)) (σ : St) (Q : Bool -> Hp -> Prop) (b : Bool) (s' : Shared) : Prop := ∃ H',Inv X pins σ H' s' /\ Q b H'
def AP (X : Cx) (pins : List (Addr × Obj)) (σ : St) (Q : List V -> Hp -> Prop) (us : List Value) (s' : Shared) : Prop := ∃ vs H',Inv X pins σ H' s' /\ Vals vs us /\ Q vs H'
def SP (X : Cx) (pins : List (Addr × Obj)) (D : Ends) (f : Flow) (s' : Shared) : Prop :=
 match f with
 | .next => ∃ σ' H',Inv X pins σ' H' s' /\ D.nx σ' H'
 | .brk => ∃ σ' H',Inv X pins σ' H' s' /\ D.bk σ' H'
 | .cont => ∃ σ' H',Inv X pins σ' H' s' /\ D.ct σ' H'
 | .ret u => ∃ v σ' H',Inv X pins σ' H' s' /\ RelV v u /\ D.rt v H'
def PE (X : Cx) (e : Expr) (t : TE) : Prop :=
 ∀ (pins : List (Addr × Obj)) (s : Shared) (σ : St) (H : Hp) (Q : VK),Inv X pins σ H s -> t σ H Q -> wpAny (model X.prog X.w) X.A (eval e X.env) (EP X pins σ Q) X.xe s
def PT (X : Cx) (e : Expr) (t : TT) : Prop :=
 ∀ (pins : List (Addr × Obj)) (s : Shared) (σ : St) (H : Hp) (Q : Bool -> Hp -> Prop),Inv X pins σ H s -> t σ H Q -> wpAny (model X.prog X.w) X.A (isTrue e X.env (eval e X.env)) (TP X pins σ Q) X.xe s
def PW (X : Cx) (e : Expr) (t : TT) : Prop :=
 ∀ (whole : Sem Value) (pins : List (Addr × Obj)) (s : Shared) (σ : St) (H : Hp) (Q : Bool -> Hp -> Prop),Inv X pins σ H s -> t σ H Q -> wpAny (model X.prog X.w) X.A (isTrue e X.env whole) (TP X pins σ Q) X.xe s
theorem PW.pt {X : Cx} {e : Expr} {t : TT} (h : PW X e t) : PT X e t := h _
def PA (X : Cx) (es : List Expr) (t : TA) : Prop :=
 ∀ (pos : Pos) (pins : List (Addr × Obj)) (s : Shared) (σ : St) (H : Hp) (Q : List V -> Hp -> Prop),Inv X pins σ H s -> t σ H Q -> wpAny (model X.prog X.w) X.A (spliced (backTo pos (starEach es X.env))) (AP X pins σ Q) X.xe s
def PS (X : Cx) (st : Stmt) (t : TS) : Prop :=
 ∀ (pins : List (Addr × Obj)) (s : Shared) (σ : St) (H : Hp) (D : Ends),Inv X pins σ H s -> t D σ H -> wpAny (model X.prog X.w) X.A (exec st X.env) (SP X pins D) X.xe s
def PSs (X : Cx) (st : List Stmt) (t : TS) : Prop :=
 ∀ (pins : List (Addr × Obj)) (s : Shared) (σ : St) (H : Hp) (D : Ends),Inv X pins σ H s -> t D σ H -> wpAny (model X.prog X.w) X.A (execs st X.env) (SP X pins D) X.xe s
theorem thn {α : Type} {t : Sem α} {Q Q' : α -> Shared -> Prop} {M : Model} {A : Around} {E : Value -> Shared -> Prop} {s : Shared} (h : wpAny M A t Q E s) (hQ : ∀ a s,Q a s -> Q' a s) : wpAny M A t Q' E s := wpAny_mono h hQ λ _ _ x => x
end L2
namespace L2
open PySem PySem.Spec PyProof.Rows
section
variable {X : Cx}
def tVar (i : Nat) : TE := λ σ H Q => ∃ v,σ[i]? = some (some v) /\ Q v H
def tC (v : V) : TE := λ _ H Q => Q v H
theorem Y0Q {i : Nat} {x : Str} {pos : Pos} (hN : X.N[i]? = some x) (hv : Vis X.env.scope x) (hd : (x == ("__debug__" : Str)) = false := by decide) (hcd : (x == ("__classdict__" : Str)) = false := by decide) : PE X (.Name x pos) (tVar i) := by
 intro pins s σ H Q I h
 obtain ⟨v,e,h⟩ := h
 obtain ⟨m,hn,hl⟩ := I.loc
 obtain ⟨u,r,l⟩ := hl i x v hN e hv
 have fin : EP X pins σ Q u s := ⟨v,H,I,r,h⟩
 rcases l with ⟨hk,hm⟩ | ⟨hk,c,hc,hcell⟩
 ·exact wpAny_Name (wpAny_loadName_local I.ok.kind hk hn hm fin) hd
 ·rcases hk with hk | hk
  ·exact wpAny_Name (wpAny_loadName_cell I.ok.kind hk hc hcell fin) hd
  ·exact wpAny_Name (wpAny_loadName_free I.ok.kind hk hc hcell fin hcd) hd
theorem Y0V {i j pos} : PE X (.Constant (.int i) j pos) (tC (.int i)) := λ _ _ _ H _ I h => wpAny_Constant_int ⟨.int i,H,I.tok _,⟨_,rfl⟩,h⟩
theorem pe_bl {b j pos} : PE X (.Constant (.bool b) j pos) (tC (.bl b)) := λ _ _ _ H _ I h => Constant_bool ⟨.bl b,H,I,rfl,h⟩
theorem Y0U {j pos} : PE X (.Constant .none j pos) (tC .non) := λ _ _ _ H _ I h => Constant_none ⟨.non,H,I,rfl,h⟩
theorem Y0R {x j pos} : PE X (.Constant (.str x) j pos) (tC (.str x)) := λ _ _ _ H _ I h => Calls.Constant_str ⟨.str x,H,I.tok _,⟨_,rfl⟩,h⟩
def Gl (X : Cx) (x : Str) : Prop := X.env.kindOf x = some .globalImplicit
theorem Q8U {E : Value -> Shared -> Prop} {pins : List (Addr × Obj)} {s : Shared} {σ : St} {H : Hp} {x : Str} {u : Value} {pos : Pos} {Q : Value -> Shared -> Prop} (I : Inv X pins σ H s) (hg : Gl X x) (hm : X.mg x = some u) (h : Q u s)
  (hd : (x == ("__debug__" : Str)) = false := by decide) : wpAny (model X.prog X.w) X.A (eval (.Name x pos) X.env) Q E s :=
 Calls.Name_function_global I.ok.kind hg (Calls.loadGlobal_global (by rw [I.ok.glob]; exact I.mod.glob.keeps I.bk) hm h) hd
theorem Q5b {E : Value -> Shared -> Prop} {pins : List (Addr × Obj)} {s : Shared} {σ : St} {H : Hp} {x : Str} {u : Value} {pos : Pos} {Q : Value -> Shared -> Prop} (I : Inv X pins σ H s) (hg : Gl X x) (hm : X.mg x = none) (hv : bootBuiltins x = some u) (h : Q u s)
  (hn : x ≠ "__name__" := by decide) (hd : (x == ("__debug__" : Str)) = false := by decide) : wpAny (model X.prog X.w) X.A (eval (.Name x pos) X.env) Q E s := by
 obtain ⟨mb,h1,h2⟩ := I.mod.blt
 exact Calls.Name_function_global I.ok.kind hg (Calls.loadGlobal_builtin (by rw [I.ok.glob]; exact I.mod.glob.keeps I.bk) hm (by rw [I.ok.blt]; exact h1.keeps I.bk) ((h2 x hn).trans hv) h) hd
theorem Z4Y {x : Str} {v : V} {u : Value} {pos : Pos} (hg : Gl X x) (hm : X.mg x = some u) (r : RelV v u) (hd : (x == ("__debug__" : Str)) = false := by decide) : PE X (.Name x pos) (tC v) :=
 λ _ _ _ H _ I h => Q8U I hg hm ⟨v,H,I,r,h⟩ hd
theorem Z9o {x : Str} {v : V} {u : Value} {pos : Pos} (hg : Gl X x) (hm : X.mg x = none) (hv : bootBuiltins x = some u) (r : RelV v u) (hn : x ≠ "__name__" := by decide) (hd : (x == ("__debug__" : Str)) = false := by decide) : PE X (.Name x pos) (tC v) :=
 λ _ _ _ H _ I h => Q5b I hg hm hv ⟨v,H,I,r,h⟩ hn hd
variable {a b : Expr} {ta tb : TE} {pos : Pos}
variable {tA tB' : TT} {rest : List Expr}
def tNot (t : TT) : TT := λ σ H Q => t σ H λ c H1 => Q (!c) H1
theorem Z9e (ha : PT X a tA) : PW X (.BoolOp .And [a] pos) tA := by
 intro wh pins s σ H Q I h
 refine isTrue_and (thn (ha pins s σ H Q I h) λ c s1 e => ?_)
 cases c with
 | true => exact isTrue_and_nil e
 | false => exact e
theorem Y0E (ha : PT X a tA) : PW X (.BoolOp .Or [a] pos) tA := by
 intro wh pins s σ H Q I h
 refine isTrue_or (thn (ha pins s σ H Q I h) λ c s1 e => ?_)
 cases c with
 | false => exact isTrue_or_nil e
 | true => exact e
theorem Z8m (ha : PT X a tA) : PT X (.UnaryOp .Not a pos) (tNot tA) := by
 intro pins s σ H Q I h
 exact isTrue_not (ha pins s σ H (λ c H1 => Q (!c) H1) I h)
def tNotV (ta : TE) : TE := λ σ H Q => ta σ H λ x H1 => ∃ c,x = .bl c /\ Q (.bl (!c)) H1
theorem Y0S {op} {t : TE} (h : PE X a t) : PE X (.BoolOp op [a] pos) t := λ pins s σ H Q I hw => BoolOp_one (h pins s σ H Q I hw)
theorem Y0T (ha : PE X a ta) : PE X (.UnaryOp .Not a pos) (tNotV ta) := by
 intro pins s σ H Q I h
 refine UnaryOp_ (thn (ha pins s σ H _ I h) λ v s1 ⟨x,H1,I1,r1,q1⟩ => ?_)
 obtain ⟨c,rfl,q1⟩ := q1
 cases r1
 exact not_of (wpAny_truthy_bool ⟨.bl (!c),H1,I1,rfl,q1⟩)
def tIf (t : TT) (ta tb : TE) : TE := λ σ H Q => t σ H λ c H1 => if c = true then ta σ H1 Q else tb σ H1 Q
theorem Z2f {c : Expr} (hc : PT X c tA) (ha : PE X a ta) (hb : PE X b tb) : PE X (.IfExp c a b pos) (tIf tA ta tb) := by
 intro pins s σ H Q I h
 refine wpAny_IfExp (thn (hc pins s σ H _ I h) λ d s1 ⟨H1,I1,q1⟩ => ?_)
 cases d with
 | true => exact ha pins s1 σ H1 Q I1 q1
 | false => exact hb pins s1 σ H1 Q I1 q1
end
end L2
namespace L2
open PySem PySem.Spec PyProof.Rows
def SqL (K : PySem.W.Frag) (H : Hp) (a : Addr) (xs : List V) : Prop :=
 Rd H a (.lst xs) \/
  ∃ (o : Obj) (its : Array Value) (n : Nat),K.lookup a = some o /\ o.cls = .type "list" /\ o.dict = none /\ o.data = .seq its n /\ its.size <= sizeLine /\ Vals xs its.toList
def SqT (K : PySem.W.Frag) (H : Hp) (a : Addr) (xs : List V) : Prop :=
 Rd H a (.tup xs) \/
  ∃ (o : Obj) (its : Array Value) (n : Nat),K.lookup a = some o /\ o.cls = .type "tuple" /\ o.dict = none /\ o.data = .seq its n /\ its.size <= sizeLine /\ Vals xs its.toList
def absV : Value -> Option V
 | .none => some .non
 | .bool b => some (.bl b)
 | .int i _ => some (.int i)
 | .str x _ => some (.str x)
 | .bytes b _ => some (.byt b)
 | .float b _ => some (.flt b)
 | .ref a => some (.ref a)
 | .type n => some (.ty n)
 | _ => none
theorem RelV.abs {x : V} {u : Value} (r : RelV x u) : absV u = some x := by
 cases x with
 | non => cases r; rfl
 | bl _ => cases r; rfl
 | int _ => obtain ⟨t,rfl⟩ := r; rfl
 | str _ => obtain ⟨t,rfl⟩ := r; rfl
 | byt _ => obtain ⟨t,rfl⟩ := r; rfl
 | flt _ => obtain ⟨t,rfl⟩ := r; rfl
 | ref _ => cases r; rfl
 | ty _ => cases r; rfl
theorem RelV.inj {x y : V} {u : Value} (r : RelV x u) (q : RelV y u) : x = y := Option.some.inj (r.abs.symm.trans q.abs)
theorem Vals.inj : ∀ {xs ys : List V} {us : List Value},Vals xs us -> Vals ys us -> xs = ys
 | _,_,_,.nil,.nil => rfl
 | _,_,_,.cons r t,.cons r' t' => by rw [r.inj r',Vals.inj t t']
section
variable {X : Cx} {pins : List (Addr × Obj)} {σ : St} {H : Hp} {s : Shared} {a : Addr} {xs ys : List V}
theorem SqL.of {K : PySem.W.Frag} (h : H a = some (.lst xs)) : SqL K H a xs := .inl (.inl h)
theorem SqT.of {K : PySem.W.Frag} (h : H a = some (.tup xs)) : SqT K H a xs := .inl (.inl h)
theorem Inv.list (I : Inv X pins σ H s) (h : SqL X.K H a xs) : ∃ its : List Value,Vals xs its /\ PlainL s.heap a its.toArray /\ xs.length <= sizeLine := by
 rcases h with h | ⟨o,its,n,hk,hc,hd,hs,hz,r⟩
 ·obtain ⟨z,its,n,r,e⟩ := h.ok I.hok
  exact ⟨its,r,⟨_,n,e,rfl,rfl,rfl⟩,z⟩
 ·refine ⟨its.toList,r,⟨o,n,I.kIn a o hk,hc,hd,by simpa using hs⟩,?_⟩
  have e := r.length
  simp only [Array.length_toList] at e
  omega
theorem Inv.tuple (I : Inv X pins σ H s) (h : SqT X.K H a xs) : ∃ its : List Value,Vals xs its /\ IsTup s.heap a its.toArray /\ xs.length <= sizeLine := by
 rcases h with h | ⟨o,its,n,hk,hc,_,hs,hz,r⟩
 ·obtain ⟨z,its,r,p⟩ := h.ok I.hok
  exact ⟨its,r,p.t,z⟩
 ·refine ⟨its.toList,r,⟨o,I.kIn a o hk,hc,n,by simpa using hs⟩,?_⟩
  have e := r.length
  simp only [Array.length_toList] at e
  omega
theorem Inv.tupN (I : Inv X pins σ H s) (h : SqT X.K H a xs) : ∃ its : List Value,Vals xs its /\ TupN s.heap a its.toArray /\ xs.length <= sizeLine := by
 rcases h with h | ⟨o,its,n,hk,hc,hd,hs,hz,r⟩
 ·obtain ⟨z,its,r,p⟩ := h.ok I.hok
  exact ⟨its,r,p,z⟩
 ·refine ⟨its.toList,r,⟨o,I.kIn a o hk,hd,hc,n,by simpa using hs⟩,?_⟩
  have e := r.length
  simp only [Array.length_toList] at e
  omega
theorem Inv.list_inj (I : Inv X pins σ H s) (h : SqL X.K H a xs) (h' : SqL X.K H a ys) : xs = ys := by
 obtain ⟨its,r,⟨o,n,e,_,_,d⟩,_⟩ := I.list h
 obtain ⟨its',r',⟨o',n',e',_,_,d'⟩,_⟩ := I.list h'
 rw [e] at e'; cases e'
 rw [d] at d'
 injection d' with d1 _
 have : its = its' := by simpa using congrArg Array.toList d1
 subst this
 exact r.inj r'
theorem Inv.tuple_inj (I : Inv X pins σ H s) (h : SqT X.K H a xs) (h' : SqT X.K H a ys) : xs = ys := by
 obtain ⟨its,r,⟨o,e,_,n,d⟩,_⟩ := I.tuple h
 obtain ⟨its',r',⟨o',e',_,n',d'⟩,_⟩ := I.tuple h'
 rw [e] at e'; cases e'
 rw [d] at d'
 injection d' with d1 _
 have : its = its' := by simpa using congrArg Array.toList d1
 subst this
 exact r.inj r'
end
abbrev Cx.wish (X : Cx) (E : Value -> Shared -> Prop) : Cx := { X with xe := E }
abbrev Cx.nox (X : Cx) : Cx := X.wish λ _ _ => False
theorem Cx.Ok.wish {X : Cx} (ok : X.Ok) (E : Value -> Shared -> Prop) : (X.wish E).Ok :=
 ⟨ok.mod,ok.kind,ok.glob,ok.blt,ok.above,ok.inj,ok.has,ok.cab,ok.hd,ok.frames,ok.stk,ok.exf,ok.bs,ok.bsz,ok.noex,ok.exfs,ok.funs,ok.frf⟩
theorem Cx.Ok.unwish {X : Cx} {E : Value -> Shared -> Prop} (ok : (X.wish E).Ok) : X.Ok :=
 ⟨ok.mod,ok.kind,ok.glob,ok.blt,ok.above,ok.inj,ok.has,ok.cab,ok.hd,ok.frames,ok.stk,ok.exf,ok.bs,ok.bsz,ok.noex,ok.exfs,ok.funs,ok.frf⟩
section
variable {X : Cx} {pins : List (Addr × Obj)} {σ : St} {H : Hp} {s : Shared} {E : Value -> Shared -> Prop}
theorem Inv.wish (I : Inv X pins σ H s) (E : Value -> Shared -> Prop) : Inv (X.wish E) pins σ H s := ⟨I.ok.wish E,I.os,I.bare,I.base,I.loc,I.cell,I.free,I.freeC,I.pin,I.hok,I.len⟩
theorem Inv.unwish (I : Inv (X.wish E) pins σ H s) : Inv X pins σ H s := ⟨I.ok.unwish,I.os,I.bare,I.base,I.loc,I.cell,I.free,I.freeC,I.pin,I.hok,I.len⟩
theorem SP.unwish {D : Ends} {f : Flow} {s' : Shared} (h : SP (X.wish E) pins D f s') : SP X pins D f s' := by
 cases f with
 | next => obtain ⟨σ',H',I,q⟩ := h; exact ⟨σ',H',I.unwish,q⟩
 | brk => obtain ⟨σ',H',I,q⟩ := h; exact ⟨σ',H',I.unwish,q⟩
 | cont => obtain ⟨σ',H',I,q⟩ := h; exact ⟨σ',H',I.unwish,q⟩
 | ret u => obtain ⟨v,σ',H',I,r,q⟩ := h; exact ⟨v,σ',H',I.unwish,r,q⟩
theorem PSs.nox {st : List Stmt} {t : TS} (h : PSs X.nox st t) : PSs X st t := λ pins s σ H D I hw =>
 wpAny_mono (h pins s σ H D (I.wish _) hw) (λ _ _ q => q.unwish) λ _ _ z => False.elim z
end
section
variable {X : Cx} {st : Stmt} {rest : List Stmt} {t u : TS} {e : Expr} {te : TE} {pos : Pos}
def tNext : TS := λ D σ H => D.nx σ H
def tSeq (t u : TS) : TS := λ D σ H => t { D with nx := u D } σ H
theorem Z9g : PSs X [] tNext := λ _ _ σ H _ I h => wpAny_execs_nil ⟨σ,H,I,h⟩
theorem Z7h (h1 : PS X st t) (h2 : PSs X rest u) : PSs X (st :: rest) (tSeq t u) := by
 intro pins s σ H D I h
 refine wpAny_execs_cons (thn (h1 pins s σ H { D with nx := u D } I h) λ f s1 q => ?_)
 cases f with
 | next =>
  obtain ⟨σ',H',I',q⟩ := q
  exact h2 pins s1 σ' H' D I' q
 | ret v => exact q
 | brk => exact q
 | cont => exact q
theorem Inv.quiet {pins : List (Addr × Obj)} {σ : St} {H : Hp} {s : Shared} (I : Inv X pins σ H s) : interactive X.env = false := by simp [interactive,I.ok.kind]
def tDrop (te : TE) : TS := λ D σ H => te σ H λ _ H1 => D.nx σ H1
theorem Z1e (he : PE X e te) (hs : swapsWith e none pos.line X.env = pure false := by rfl) : PS X (.Expr e pos) (tDrop te) := by
 intro pins s σ H D I h
 exact wpAny_Expr_any (thn (he pins s σ H _ I h) λ v s1 ⟨x,H1,I1,r1,q1⟩ => ⟨σ,H1,I1,q1⟩) I.quiet hs
def tRet (te : TE) : TS := λ D σ H => te σ H D.rt
theorem Y0K (he : PE X e te) : PS X (.Return (some e) pos) (tRet te) := by
 intro pins s σ H D I h
 exact wpAny_Return_some (thn (he pins s σ H _ I h) λ v s1 ⟨x,H1,I1,r1,q1⟩ => ⟨x,σ,H1,I1,r1,q1⟩)
def tIfS (c : TT) (t u : TS) : TS := λ D σ H => c σ H λ b H1 => if b = true then t D σ H1 else u D σ H1
theorem Y0L {c : Expr} {a b : List Stmt} {tc : TT} (hc : PT X c tc) (ha : PSs X a t) (hb : PSs X b u) : PS X (.If c a b pos) (tIfS tc t u) := by
 intro pins s σ H D I h
 refine wpAny_If (thn (hc pins s σ H _ I h) λ d s1 ⟨H1,I1,q1⟩ => ?_)
 cases d with
 | true => exact ha pins s1 σ H1 D I1 q1
 | false => exact hb pins s1 σ H1 D I1 q1
end
abbrev TG := V -> St -> Hp -> (St -> Hp -> Prop) -> Prop
abbrev TGs := List V -> St -> Hp -> (St -> Hp -> Prop) -> Prop
def PG (X : Cx) (target : Expr) (t : TG) : Prop :=
 ∀ (pins : List (Addr × Obj)) (s : Shared) (σ : St) (H : Hp) (v : V) (u : Value) (Q : St -> Hp -> Prop),Inv X pins σ H s -> RelV v u -> t v σ H Q ->
  wpAny (model X.prog X.w) X.A (assign target X.env u) (λ _ s' => ∃ σ' H',Inv X pins σ' H' s' /\ Q σ' H') X.xe s
def PGs (X : Cx) (ts : List Expr) (t : TGs) : Prop :=
 ∀ (pins : List (Addr × Obj)) (s : Shared) (σ : St) (H : Hp) (vs : List V) (us : List Value) (Q : St -> Hp -> Prop),Inv X pins σ H s -> Vals vs us -> t vs σ H Q ->
  wpAny (model X.prog X.w) X.A (assignInOrder ((assignEach ts X.env).map (·.2)) us) (λ _ s' => ∃ σ' H',Inv X pins σ' H' s' /\ Q σ' H') X.xe s
section
variable {X : Cx} {pos : Pos}
def Y1p (i : Nat) : TG := λ v σ H Q => Q (σ.set i (some v)) H
theorem Z9l {i : Nat} {x : Str} (hN : X.N.Nodup) (hi : X.N[i]? = some x) (hx : Loc X.env.scope x) (hf : X.fn x = true \/ X.env.scope.names.lookup x = some .local := by first | exact .inl rfl | exact .inr rfl | assumption) : PG X (.Name x pos) (Y1p i) := by
 intro pins s σ H v u Q I r h
 exact wpAny_assign_Name (Z1R I hN hi hx r (λ s' I' => ⟨_,H,I',h⟩) hf)
def gNil : TGs := λ vs σ H Q => vs = [] /\ Q σ H
def gCons (t : TG) (u : TGs) : TGs := λ vs σ H Q => ∃ v r,vs = v :: r /\ t v σ H λ σ' H' => u r σ' H' Q
theorem Z9k : PGs X [] gNil := by
 intro pins s σ H vs us Q I r h
 obtain ⟨e,h⟩ := h
 subst e
 cases r
 exact assignInOrder_nil ⟨σ,H,I,h⟩
theorem Z7m {e : Expr} {es : List Expr} {t : TG} {u : TGs} (h1 : PG X e t) (h2 : PGs X es u)
  (hs : (assignEach (e :: es) X.env).map (·.2) = assign e X.env :: (assignEach es X.env).map (·.2) := by rfl) : PGs X (e :: es) (gCons t u) := by
 intro pins s σ H vs us Q I r h
 obtain ⟨v,vr,e1,h⟩ := h
 subst e1
 cases r with
 | cons r rr =>
  rw [hs]
  refine assignInOrder_cons (thn (h1 pins s σ H _ _ _ I r h) λ _ s1 ⟨σ1,H1,I1,q1⟩ => ?_)
  exact h2 pins s1 σ1 H1 _ _ Q I1 rr q1
def gTup (K : PySem.W.Frag) (n : Nat) (t : TGs) : TG := λ v σ H Q => ∃ a xs,v = .ref a /\ SqT K H a xs /\ xs.length = n /\ t xs σ H Q
theorem Y0P {es : List Expr} {k : Nat} {t : TGs} {n : Nat} (hc : X.calm = true) (h : PGs X es t)
  (hn : (assignEach es X.env).length = n := by rfl) (hst : (assignEach es X.env).findIdx? (·.1) = none := by rfl) : PG X (.Tuple es k pos) (gTup X.K n t) := by
 intro pins s σ H v u Q I r hw
 obtain ⟨a,xs,e1,hq,hl,hw⟩ := hw
 subst e1
 cases r
 obtain ⟨its,rv,ht,hz⟩ := I.tuple hq
 refine assign_Tuple_tuple (I.ok.hd hc) ht (by simp [hn,<- hl,rv.length]) hst λ h' hx => ?_
 have I1 : Inv X pins σ H { s with heap := h' } := I.kept (t' := s.toks) λ b o e => hx b o (Nat.ne_of_lt (Heap.lt_size e)) e
 exact h pins _ σ H xs _ Q I1 (by simpa using rv) hw
def tAsg (te : TE) (g : TG) : TS := λ D σ H => te σ H λ x H1 => g x σ H1 D.nx
theorem Y0M {tg e : Expr} {te : TE} {g : TG} (he : PE X e te) (hg : PG X tg g) (hs : swapsWithSole [tg] e pos.line X.env = pure false := by rfl) (hw : swappedStores [tg] e X.env = pure none := by rfl)
  (h1 : (assignEach [tg] X.env).map (·.2) = [assign tg X.env] := by rfl) : PS X (.Assign [tg] e pos) (tAsg te g) := by
 intro pins s σ H D I h
 refine wpAny_Assign_stores (thn (he pins s σ H _ I h) λ v s1 ⟨x,H1,I1,r1,q1⟩ => ?_) hs hw
 rw [h1]
 exact thn (hg pins s1 σ H1 x v _ I1 r1 q1) λ _ s2 q => q
theorem Y0J {i : Nat} {x : Str} {e : Expr} {te : TE} {pos' : Pos} (hN : X.N.Nodup) (hi : X.N[i]? = some x) (hx : Loc X.env.scope x) (he : PE X e te) (hs : swapsWith e (some (.Name x pos')) pos.line X.env = pure false := by rfl) (hf : X.fn x = true \/ X.env.scope.names.lookup x = some .local := by first | exact .inl rfl | exact .inr rfl | assumption) :
  PS X (.Assign [.Name x pos'] e pos) (tAsg te (Y1p i)) := by
 intro pins s σ H D I h
 refine wpAny_Assign_Name (thn (he pins s σ H _ I h) λ v s1 ⟨y,H1,I1,r1,q1⟩ => ?_) hs
 exact Z1R I1 hN hi hx r1 (λ s2 I2 => ⟨_,H1,I2,q1⟩) hf
end
section
variable {X : Cx} {pos : Pos}
end
structure It where
 go : Nat -> Hp -> Prop
 yld : Nat -> Hp -> V -> Hp -> Prop
 stop : Nat -> Hp -> Prop
def FpOk (X : Cx) (pins : List (Addr × Obj)) (H : Hp) (b : Addr) : Prop :=
 H b = none /\ b ≠ X.env.locals /\ b ∉ X.fs /\ (b ∈ X.ex \/ X.s₀.heap.objs.size <= b) /\ (∀ x c,X.env.cells.lookup x = some c -> c ≠ b) /\ ∀ p ∈ X.pn ++ pins,p.1 ≠ b
theorem Inv.fpOk {X : Cx} {pins : List (Addr × Obj)} {σ : St} {H H' : Hp} {s : Shared} {b : Addr} (I : Inv X pins σ H s) (hb : s.heap.objs.size <= b) (hn : H' b = none) : FpOk X pins H' b := by
 refine ⟨hn,Nat.ne_of_gt (Nat.lt_of_lt_of_le I.lt hb),I.nofs hb,.inr (Nat.le_trans I.sz hb),λ x c e z => ?_,λ p hp z => ?_⟩
 ·obtain ⟨v,q⟩ := I.cell x c e
  exact absurd (Nat.lt_of_lt_of_le q.lt (by rw [z]; exact hb)) (Nat.lt_irrefl _)
 ·exact absurd (Nat.lt_of_lt_of_le (Heap.lt_size (I.pin p hp).1) (by rw [z]; exact hb)) (Nat.lt_irrefl _)
structure Turn (P : Program) (w : World) (K : PySem.W.Frag) (tg : Expr) (J : It) (fp : List Addr) (it : Addr) (tn : Nat -> Heap -> Prop) : Prop where
 mem : it ∈ fp
 obj : ∀ i h,tn i h -> ∀ b ∈ fp,∃ o,h.get? b = some o /\ ∀ v,o.data ≠ .cell v
 keep : ∀ i h h',tn i h -> (∀ b ∈ fp,∀ o,h.get? b = some o -> h'.get? b = some o) -> tn i h'
 item : ∀ (X : Cx),X.prog = P -> X.w = w -> X.K = K -> X.calm = true -> ∀ (i : Nat) (pins : List (Addr × Obj)) (s : Shared) (σ : St) (H : Hp) (E : Value -> Shared -> Prop),Inv X pins σ H s -> (∀ b ∈ fp,FpOk X pins H b) -> tn i s.heap -> J.go i H ->
  wpAny (model P w) X.A (pyNext (.ref it)) (λ r s1 => ∃ u,r = some u /\
   wpAny (model P w) X.A (letOwnedTupleGo tg (.ref it) u) (λ _ s2 => ∃ x H',Inv X pins σ H' s2 /\ RelV x u /\ J.yld i H x H' /\ tn (i + 1) s2.heap /\ ∀ b ∈ fp,H' b = none) E s1) E s
 done : ∀ (X : Cx),X.prog = P -> X.w = w -> X.K = K -> X.calm = true -> ∀ (i : Nat) (pins : List (Addr × Obj)) (s : Shared) (σ : St) (H : Hp) (E : Value -> Shared -> Prop),Inv X pins σ H s -> (∀ b ∈ fp,FpOk X pins H b) -> tn i s.heap -> J.stop i H ->
  wpAny (model P w) X.A (pyNext (.ref it)) (λ r s1 => r = none /\ Inv X pins σ H s1) E s
 self : ∀ (A : Around) (i : Nat) (s : Shared) (Q : Value -> Shared -> Prop) (E : Value -> Shared -> Prop),tn i s.heap -> Q (.ref it) s -> wpAny (model P w) A (pyIter (.ref it)) Q E s
abbrev TI := St -> Hp -> (It -> Hp -> Prop) -> Prop
def PIE (X : Cx) (pins : List (Addr × Obj)) (σ : St) (tg : Expr) (R : It -> Hp -> Prop) (itv : Value) (s2 : Shared) : Prop :=
 ∃ (it : Addr) (fp : List Addr) (tn : Nat -> Heap -> Prop) (J : It) (H' : Hp),itv = .ref it /\ Inv X pins σ H' s2 /\ Turn X.prog X.w X.K tg J fp it tn /\ tn 0 s2.heap /\ (∀ b ∈ fp,FpOk X pins H' b) /\ R J H'
def PI (X : Cx) (tg iter : Expr) (wi : TI) : Prop :=
 ∀ (pins : List (Addr × Obj)) (s : Shared) (σ : St) (H : Hp) (R : It -> Hp -> Prop),Inv X pins σ H s -> wi σ H R ->
  wpAny (model X.prog X.w) X.A (eval iter X.env) (λ v s1 => wpAny (model X.prog X.w) X.A (pyIter v) (PIE X pins σ tg R) X.xe s1) X.xe s
theorem Z9H {M : Model} {A : Around} {E : Value -> Shared -> Prop} {s : Shared} {tg : Expr} {it : Addr} {u : Value} {o : Obj} {n : String} {vs : Array Value} {Q : Unit -> Shared -> Prop} (ho : s.heap.get? it = some o) (hc : o.cls = .type n) (hd : o.data = .fields vs)
    (hn : ["enumerate","zip","dict_itemiterator","dict_reverseitemiterator","odict_iterator","itertools.zip_longest","itertools.pairwise"].contains n = false) (hQ : Q () s) : wpAny M A (letOwnedTupleGo tg (.ref it) u) Q E s := by
  unfold letOwnedTupleGo
  cases tg <;> first
    | exact wpAny_pure hQ
    | (cases u <;> first
        | exact wpAny_pure hQ
        | (refine wpAny_bind (wpAny_load ho ?_)
           rw [hc,hd]
           show wpAny M A (if (["enumerate","zip","dict_itemiterator","dict_reverseitemiterator","odict_iterator","itertools.zip_longest","itertools.pairwise"].contains n && vs[0]? == some (rawInt _)) = true then _ else _) Q E s
           rw [if_neg (by intro h; rw [hn,Bool.false_and] at h; cases h)]
           exact wpAny_pure hQ))
def Itl (K : PySem.W.Frag) (a : Addr) : It :=
 ⟨λ i H => ∃ xs x,SqL K H a xs /\ xs[i]? = some x,λ i H x H' => H' = H /\ ∀ xs,SqL K H a xs -> xs[i]? = some x,λ i H => ∃ xs,SqL K H a xs /\ xs.length <= i⟩
def Itt (K : PySem.W.Frag) (a : Addr) : It :=
 ⟨λ i H => ∃ xs x,SqT K H a xs /\ xs[i]? = some x,λ i H x H' => H' = H /\ ∀ xs,SqT K H a xs -> xs[i]? = some x,λ i H => ∃ xs,SqT K H a xs /\ xs.length <= i⟩
def Itr (lo : Int) (n : Nat) : It := ⟨λ i _ => i < n,λ i H x H' => H' = H /\ x = .int (lo + i),λ i _ => n <= i⟩
theorem Z4e {P : Program} {w : World} {K : PySem.W.Frag} {tg : Expr} (a it : Addr) : Turn P w K tg (Itl K a) [it] it (λ i h => h.IsListIter it a i) where
 mem := by simp
 obj := λ i h st b hb => by
  have e : b = it := by simpa using hb
  subst e
  obtain ⟨o,e,c,d⟩ := st
  exact ⟨o,e,λ v z => by rw [d] at z; cases z⟩
 keep := λ i h h' st k => st.at λ o e => k it (by simp) o e
 item := by
  intro X hP hw hK hc i pins s σ H E I hf st hg
  subst hP hw hK
  obtain ⟨xs,x,hq,hx⟩ := hg
  obtain ⟨its,rv,p,hz⟩ := I.list hq
  obtain ⟨u,hu,ru⟩ := rv.get hx
  obtain ⟨f0,f1,f2,f3,f4,f5⟩ := hf it (by simp)
  refine wpAny_pyNext_list_item st p.isList (x := u) (by simpa using hu) λ h' st' sb => ?_
  have I1 : Inv X pins σ H { s with heap := h' } := I.turned (t' := s.toks) (λ b o hb e => (sb.2 b hb).trans e) f0 f1 f3 f4 f5
  obtain ⟨o,e,c,d⟩ := id st'
  exact ⟨u,rfl,Z9H (s := { s with heap := h' }) e c d wE ⟨x,H,I1,ru,⟨rfl,λ ys hy => by rw [I.list_inj hy hq]; exact hx⟩,st',λ b hb => (hf b hb).1⟩⟩
 done := by
  intro X hP hw hK hc i pins s σ H E I hf st hg
  subst hP hw hK
  obtain ⟨xs,hq,hx⟩ := hg
  obtain ⟨its,rv,p,hz⟩ := I.list hq
  obtain ⟨f0,f1,f2,f3,f4,f5⟩ := hf it (by simp)
  have hl := rv.length
  exact wpAny_pyNext_list_end (I.ok.hd hc) st p.isList (by simp; omega) λ h' eb => ⟨rfl,I.turned (t' := s.toks) (λ b o hb e => eb b o hb e) f0 f1 f3 f4 f5⟩
 self := λ _ _ _ _ _ st h => wpAny_pyIter_listiter st h
theorem Z2P {P : Program} {w : World} {K : PySem.W.Frag} {tg : Expr} (a it : Addr) : Turn P w K tg (Itt K a) [it] it (λ i h => h.IsTupleIter it a i) where
 mem := by simp
 obj := λ i h st b hb => by
  have e : b = it := by simpa using hb
  subst e
  obtain ⟨o,e,c,d⟩ := st
  exact ⟨o,e,λ v z => by rw [d] at z; cases z⟩
 keep := λ i h h' st k => st.at λ o e => k it (by simp) o e
 item := by
  intro X hP hw hK hc i pins s σ H E I hf st hg
  subst hP hw hK
  obtain ⟨xs,x,hq,hx⟩ := hg
  obtain ⟨its,rv,p,hz⟩ := I.tuple hq
  obtain ⟨u,hu,ru⟩ := rv.get hx
  obtain ⟨f0,f1,f2,f3,f4,f5⟩ := hf it (by simp)
  refine wpAny_pyNext_tuple_item st (show s.heap.IsTuple a its.toArray from p) (x := u) (by simpa using hu) λ h' st' sb => ?_
  have I1 : Inv X pins σ H { s with heap := h' } := I.turned (t' := s.toks) (λ b o hb e => (sb.2 b hb).trans e) f0 f1 f3 f4 f5
  obtain ⟨o,e,c,d⟩ := id st'
  exact ⟨u,rfl,Z9H (s := { s with heap := h' }) e c d wE ⟨x,H,I1,ru,⟨rfl,λ ys hy => by rw [I.tuple_inj hy hq]; exact hx⟩,st',λ b hb => (hf b hb).1⟩⟩
 done := by
  intro X hP hw hK hc i pins s σ H E I hf st hg
  subst hP hw hK
  obtain ⟨xs,hq,hx⟩ := hg
  obtain ⟨its,rv,p,hz⟩ := I.tuple hq
  obtain ⟨f0,f1,f2,f3,f4,f5⟩ := hf it (by simp)
  have hl := rv.length
  exact wpAny_pyNext_tuple_end (I.ok.hd hc) st (show s.heap.IsTuple a its.toArray from p) (by simp; omega) λ h' eb => ⟨rfl,I.turned (t' := s.toks) (λ b o hb e => eb b o hb e) f0 f1 f3 f4 f5⟩
 self := λ _ _ _ _ _ st h => wpAny_pyIter_tupleiter st h
theorem Z2Q {P : Program} {w : World} {K : PySem.W.Frag} {tg : Expr} (it : Addr) (lo : Int) (n : Nat) : Turn P w K tg (Itr lo n) [it] it (λ i h => IsRangeIter h it (lo + (i : Nat) * 1) ((n : Int) - (i : Nat)) 1) where
 mem := by simp
 obj := λ i h st b hb => by
  have e : b = it := by simpa using hb
  subst e
  exact ⟨_,st,λ v z => by
   have z' : Data.fields _ = Data.cell v := z
   cases z'⟩
 keep := λ i h h' st k => k it (by simp) _ st
 item := by
  intro X hP hw hK hc i pins s σ H E I hf st hg
  subst hP hw hK
  obtain ⟨f0,f1,f2,f3,f4,f5⟩ := hf it (by simp)
  have W := Walks.range (prog := X.prog) (w := X.w) (I.ok.hd hc) it lo 1 n
  refine W.item i s _ _ hg st λ v h' tk hv st' kk => ?_
  obtain ⟨t,rfl⟩ := hv
  have I1 : Inv X pins σ H { s with heap := h',toks := tk } := I.turned (λ b o hb e => kk b o (by simpa using hb) e) f0 f1 f3 f4 f5
  refine ⟨_,rfl,Z9H (s := { s with heap := h',toks := tk }) (n := "range_iterator") st' rfl rfl wE ⟨.int (lo + i),H,I1,⟨t,?_⟩,⟨rfl,rfl⟩,st',λ b hb => (hf b hb).1⟩⟩
  rw [Int.mul_one]
 done := by
  intro X hP hw hK hc i pins s σ H E I hf st hg
  subst hP hw hK
  obtain ⟨f0,f1,f2,f3,f4,f5⟩ := hf it (by simp)
  exact wpAny_pyNext_range_end (I.ok.hd hc) st (by have : n <= i := hg; omega) λ h' eb => ⟨rfl,I.turned (t' := s.toks) (λ b o hb e => eb b o hb e) f0 f1 f3 f4 f5⟩
 self := λ _ _ _ _ _ st h => wpAny_pyIter_rangeiter st h
end L2
namespace L2
open PySem PySem.Spec PyProof.Rows
section
variable {X : Cx} {tg : Expr}
def iList (K : PySem.W.Frag) (tl : TE) : TI := λ σ H R => tl σ H λ x H1 => ∃ a,x = .ref a /\ (∃ xs,SqL K H1 a xs) /\ R (Itl K a) H1
def iTup (K : PySem.W.Frag) (tl : TE) : TI := λ σ H R => tl σ H λ x H1 => ∃ a,x = .ref a /\ (∃ xs,SqT K H1 a xs) /\ R (Itt K a) H1
theorem Z4W {l : Expr} {tl : TE} (hl : PE X l tl) : PI X tg l (iList X.K tl) := by
 intro pins s σ H R I h
 refine thn (hl pins s σ H _ I h) λ v s1 ⟨x,H1,I1,r1,q1⟩ => ?_
 obtain ⟨a,e,⟨xs,hq⟩,q⟩ := q1
 subst e
 cases r1
 obtain ⟨its,rv,p,hz⟩ := I1.list hq
 refine wpAny_pyIter_list p.isList ?_
 refine ⟨s1.heap.objs.size,[s1.heap.objs.size],_,_,H1,rfl,I1.kept (t' := s1.toks) λ b o e => Heap.get?_push_of_some _ e,Z4e a _,⟨_,Heap.get?_push_size _ rfl,rfl,rfl⟩,λ b hb => ?_,q⟩
 have e : b = s1.heap.objs.size := by simpa using hb
 subst e
 exact I1.fpOk (Nat.le_refl _) (I1.hok.fresh (Nat.le_refl _))
theorem Z8o {l : Expr} {tl : TE} (hl : PE X l tl) : PI X tg l (iTup X.K tl) := by
 intro pins s σ H R I h
 refine thn (hl pins s σ H _ I h) λ v s1 ⟨x,H1,I1,r1,q1⟩ => ?_
 obtain ⟨a,e,⟨xs,hq⟩,q⟩ := q1
 subst e
 cases r1
 obtain ⟨its,rv,p,hz⟩ := I1.tuple hq
 refine wpAny_pyIter_tuple (show s1.heap.IsTuple a its.toArray from p) ?_
 refine ⟨s1.heap.objs.size,[s1.heap.objs.size],_,_,H1,rfl,I1.kept (t' := s1.toks) λ b o e => Heap.get?_push_of_some _ e,Z2P a _,⟨_,Heap.get?_push_size _ rfl,rfl,rfl⟩,λ b hb => ?_,q⟩
 have e : b = s1.heap.objs.size := by simpa using hb
 subst e
 exact I1.fpOk (Nat.le_refl _) (I1.hok.fresh (Nat.le_refl _))
theorem Z2d {pins : List (Addr × Obj)} {σ : St} {H : Hp} {s : Shared} {R : It -> Hp -> Prop} {E : Value -> Shared -> Prop} {lo hi : Int} {t u v : Tok} {tk : Nat} (I : Inv X pins σ H s) (h1 : -(2 ^ 62) <= lo) (h2 : lo < 2 ^ 62) (h3 : -(2 ^ 62) <= hi) (h4 : hi < 2 ^ 62)
  (q : R (Itr lo (hi - lo).toNat) H) : wpAny (model X.prog X.w) X.A (pyIter (.ref s.heap.objs.size)) (PIE X pins σ tg R) E { s with heap := s.heap.push { cls := .type "range",data := .fields #[.int lo t,.int hi u,.int 1 v] },toks := tk } := by
 refine wpAny_pyIter_range (IsRange.new ..) (small_one h1 h2 h3 h4) ?_
 have I1 : Inv X pins σ H { s with heap := s.heap.push { cls := .type "range",data := .fields #[.int lo t,.int hi u,.int 1 v] },toks := tk } := I.kept λ b o e => Heap.get?_push_of_some _ e
 refine ⟨(s.heap.push { cls := .type "range",data := .fields #[.int lo t,.int hi u,.int 1 v] }).objs.size,[(s.heap.push { cls := .type "range",data := .fields #[.int lo t,.int hi u,.int 1 v] }).objs.size],_,_,H,rfl,
  I1.kept (t' := tk) λ b o e => Heap.get?_push_of_some _ e,Z2Q _ lo (hi - lo).toNat,?_,λ b hb => ?_,q⟩
 ·have e1 : lo + ((0 : Nat) : Int) * 1 = lo := by simp
  have e2 : (((hi - lo).toNat : Nat) : Int) - ((0 : Nat) : Int) = Builtin.Range.rangeSize lo hi 1 := by rw [rangeSize_one]; split <;> omega
  show IsRangeIter _ _ (lo + ((0 : Nat) : Int) * 1) ((((hi - lo).toNat : Nat) : Int) - ((0 : Nat) : Int)) 1
  rw [e1,e2]
  exact Heap.get?_push_size _ rfl
 ·have e : b = (s.heap.push { cls := .type "range",data := .fields #[.int lo t,.int hi u,.int 1 v] }).objs.size := by simpa using hb
  subst e
  exact I1.fpOk (Nat.le_refl _) (I1.hok.fresh (Nat.le_refl _))
def iRng1 (ta : TA) : TI := λ σ H R => ta σ H λ vs H1 => ∃ j : Int,vs = [.int j] /\ -(2 ^ 62) <= j /\ j < 2 ^ 62 /\ R (Itr 0 j.toNat) H1
def iRng2 (ta : TA) : TI := λ σ H R => ta σ H λ vs H1 => ∃ i j : Int,vs = [.int i,.int j] /\ (-(2 ^ 62) <= i /\ i < 2 ^ 62 /\ -(2 ^ 62) <= j /\ j < 2 ^ 62) /\ R (Itr i (j - i).toNat) H1
theorem Z4V {a : Expr} {ta : TA} {p pos : Pos} (hg : Gl X "range") (hm : X.mg "range" = none) (ha : PA X [a] ta) (hs : starEach [a] X.env = [(false,eval a X.env)] := by rfl) : PI X tg (.Call (.Name "range" p) [a] [] pos) (iRng1 ta) := by
 intro pins s σ H R I h
 refine Call_ (Q5b I hg hm boot_range (PyProof.Rows.callWith_type1 (thn (ha pos pins s σ H _ I h) λ us s1 ⟨vs,H1,I1,r1,q1⟩ => ?_) hs rfl))
 obtain ⟨j,e,q1,q2,q⟩ := q1
 subst e
 cases r1 with
 | cons r rr =>
  cases rr
  obtain ⟨t,rfl⟩ := r
  exact call_range_1 (Z2d I1 wF wF q1 q2 (by simpa using q))
theorem Z4U {a b : Expr} {ta : TA} {p pos : Pos} (hg : Gl X "range") (hm : X.mg "range" = none) (ha : PA X [a,b] ta) (hs : starEach [a,b] X.env = [(false,eval a X.env),(false,eval b X.env)] := by rfl) (hs2 : starEach [b] X.env = [(false,eval b X.env)] := by rfl) :
  PI X tg (.Call (.Name "range" p) [a,b] [] pos) (iRng2 ta) := by
 intro pins s σ H R I h
 refine Call_ (Q5b I hg hm boot_range (PyProof.Rows.callWith_type1 (thn (ha pos pins s σ H _ I h) λ us s1 ⟨vs,H1,I1,r1,q1⟩ => ?_) (by rw [hs,hs2]) (by rw [hs2]; rfl)))
 obtain ⟨i,j,e,⟨q1,q2,q3,q4⟩,q⟩ := q1
 subst e
 cases r1 with
 | cons r rr =>
  cases rr with
  | cons r' rr =>
   cases rr
   obtain ⟨t,rfl⟩ := r
   obtain ⟨t',rfl⟩ := r'
   exact call_range_2 (Z2d I1 q1 q2 q3 q4 q)
def tFor (wi : TI) (g : TG) (tb : TS) : TS := λ D σ H => wi σ H λ J H1 => ∃ W : Nat -> Nat -> St -> Hp -> Prop,(∃ m,W 0 m σ H1) /\ ∀ i m σ H,W i m σ H ->
 (J.stop i H /\ D.nx σ H) \/ (J.go i H /\ ∃ N : St -> Hp -> Prop,(∀ σ' H',N σ' H' -> ∃ m',m' < m /\ W (i + 1) m' σ' H') /\ ∀ x H',J.yld i H x H' -> g x σ H' λ σ2 H2 => tb { D with nx := N,ct := N,bk := D.nx } σ2 H2)
def Q2d (fp : List Addr) (h : Heap) : List (Addr × Obj) := fp.filterMap λ b => (h.get? b).map λ o => (b,o)
theorem Q1F {fp : List Addr} {h : Heap} {b : Addr} {o : Obj} (hb : b ∈ fp) (e : h.get? b = some o) : (b,o) ∈ Q2d fp h := List.mem_filterMap.mpr ⟨b,hb,by rw [e]; rfl⟩
theorem Q6G {fp : List Addr} {h : Heap} {p : Addr × Obj} (hp : p ∈ Q2d fp h) : p.1 ∈ fp /\ h.get? p.1 = some p.2 := by
 obtain ⟨b,hb,e⟩ := List.mem_filterMap.mp hp
 cases q : h.get? b with
 | none => rw [q] at e; cases e
 | some o =>
  rw [q] at e
  have e' : (b,o) = p := Option.some.inj e
  subst e'
  exact ⟨hb,q⟩
theorem Inv.pinned {pins : List (Addr × Obj)} {σ : St} {H : Hp} {s : Shared} {fp : List Addr} (I : Inv X pins σ H s) (hf : ∀ b ∈ fp,FpOk X pins H b) (ho : ∀ b ∈ fp,∃ o,s.heap.get? b = some o /\ ∀ v,o.data ≠ .cell v) : Inv X (pins ++ Q2d fp s.heap) σ H s :=
 I.pins_of λ p hp => (List.mem_append.mp hp).elim (λ z => I.pin p (List.mem_append_right _ z)) λ z => by
  obtain ⟨hb,e⟩ := Q6G z
  obtain ⟨f0,f1,f2,_⟩ := hf p.1 hb
  obtain ⟨o,e',d⟩ := ho p.1 hb
  rw [e] at e'; cases e'
  exact ⟨e,f0,f1,f2,d⟩
theorem Inv.unpinned {pins pl : List (Addr × Obj)} {σ : St} {H : Hp} {s : Shared} (I : Inv X (pins ++ pl) σ H s) : Inv X pins σ H s := I.pins_of λ p hp => I.pin p (List.mem_append_right _ (List.mem_append_left _ hp))
theorem Z8n {iter : Expr} {body : List Stmt} {wi : TI} {g : TG} {tb : TS} {pos : Pos} (hp : PassesOwn (model X.prog X.w) X.A X.env X.xe) (hc : X.calm = true) (hi : PI X tg iter wi) (hg : PG X tg g) (hb : PSs X body tb)
  (hs : ∀ x,foldedSetIterable iter X.env x = pure x := by intro _; rfl) : PS X (.For tg iter body [] pos) (tFor wi g tb) := by
 intro pins s σ H D I h
 refine wpAny_For (thn (hi pins s σ H _ I h) λ v s1 h1 => thn h1 λ itv s2 h2 => ?_) hs
 obtain ⟨it,fp,tn,J,H2,e,I2,T,st2,f2,W,⟨m0,w0⟩,turn⟩ := h2
 subst e
 -- what stays true of the iterator's objects through the loop
 have stat : ∀ {H' : Hp},(∀ b ∈ fp,H' b = none) -> ∀ b ∈ fp,FpOk X pins H' b := λ hn b hb => ⟨hn b hb,(f2 b hb).2⟩
 refine codeAny_forLoop_any (λ n s' => ∃ i σ' H',Inv X pins σ' H' s' /\ tn i s'.heap /\ (∀ b ∈ fp,H' b = none) /\ W i n σ' H') ?_ m0 ⟨0,σ,H2,I2,st2,λ b hb => (f2 b hb).1,w0⟩
 rintro n s3 ⟨i,σ3,H3,I3,st3,fr3,w3⟩
 rcases turn i n σ3 H3 w3 with ⟨stop,qn⟩ | ⟨go,N,hN,step⟩
 ·refine wpAny_passesOwn hp (thn (T.done X rfl rfl rfl hc i pins s3 σ3 H3 X.xe I3 (stat fr3) st3 stop) λ r s4 ⟨hr,I4⟩ => ?_)
  subst hr
  exact wpAny_execs_nil ⟨σ3,H3,I4,qn⟩
 ·refine wpAny_passesOwn hp (thn (T.item X rfl rfl rfl hc i pins s3 σ3 H3 X.xe I3 (stat fr3) st3 go) λ r s4 ⟨u,hr,h4⟩ => ?_)
  subst hr
  refine wpAny_passesOwn hp (thn h4 λ _ s5 ⟨x,H5,I5,r5,y5,st5,fr5⟩ => ?_)
  have I5' := I5.pinned (stat fr5) (T.obj _ _ st5)
  refine wpAny_passesOwn hp (thn (hg _ s5 σ3 H5 x u _ I5' r5 (step x H5 y5)) λ _ s6 ⟨σ6,H6,I6,q6⟩ => ?_)
  refine wpAny_passesOwn hp (thn (hb _ s6 σ6 H6 _ I6 q6) λ f s7 q7 => ?_)
  have again : ∀ {σ7 : St} {H7 : Hp},Inv X (pins ++ Q2d fp s5.heap) σ7 H7 s7 -> N σ7 H7 -> ∃ m,m < n /\ ∃ i σ' H',Inv X pins σ' H' s7 /\ tn i s7.heap /\ (∀ b ∈ fp,H' b = none) /\ W i m σ' H' := λ {σ7 H7} I7 n7 => by
   obtain ⟨m',hm,w7⟩ := hN σ7 H7 n7
   refine ⟨m',hm,i + 1,σ7,H7,I7.unpinned,T.keep _ _ _ st5 λ b hb o e => (I7.pin (b,o) (List.mem_append_right _ (List.mem_append_right _ (Q1F hb e)))).1,λ b hb => ?_,w7⟩
   obtain ⟨o,e,d⟩ := T.obj _ _ st5 b hb
   exact (I7.pin (b,o) (List.mem_append_right _ (List.mem_append_right _ (Q1F hb e)))).2.1
  cases f with
  | next => obtain ⟨σ7,H7,I7,n7⟩ := q7; exact again I7 n7
  | cont => obtain ⟨σ7,H7,I7,n7⟩ := q7; exact again I7 n7
  | brk => obtain ⟨σ7,H7,I7,q7⟩ := q7; exact ⟨σ7,H7,I7.unpinned,q7⟩
  | ret v => obtain ⟨x7,σ7,H7,I7,r7,q7⟩ := q7; exact ⟨x7,σ7,H7,I7.unpinned,r7,q7⟩
end
end L2
namespace L2
open PySem PySem.Spec PyProof.Rows
abbrev R2 := V -> V -> Hp -> VK -> Prop
def OpR (X : Cx) (f : Value -> Value -> Sem Value) (r : R2) : Prop :=
 ∀ (pins : List (Addr × Obj)) (s : Shared) (σ : St) (H : Hp) (x y : V) (v u : Value) (Q : VK),Inv X pins σ H s -> RelV x v -> RelV y u -> r x y H Q ->
  wpAny (model X.prog X.w) X.A (f v u) (EP X pins σ Q) X.xe s
def Q7e (X : Cx) (f : Value) (r : List V -> Hp -> VK -> Prop) : Prop :=
 ∀ (pins : List (Addr × Obj)) (s : Shared) (σ : St) (H : Hp) (xs : List V) (us : List Value) (Q : VK),Inv X pins σ H s -> Vals xs us -> r xs H Q ->
  wpAny (model X.prog X.w) X.A (call f us) (EP X pins σ Q) X.xe s
def TruR (X : Cx) (r : V -> Hp -> (Bool -> Hp -> Prop) -> Prop) : Prop :=
 ∀ (pins : List (Addr × Obj)) (s : Shared) (σ : St) (H : Hp) (x : V) (v : Value) (Q : Bool -> Hp -> Prop),Inv X pins σ H s -> RelV x v -> r x H Q ->
  wpAny (model X.prog X.w) X.A (truthy v) (TP X pins σ Q) X.xe s
def rI (C : Int -> Int -> Prop) (g : Int -> Int -> V) : R2 := λ x y H Q => ∃ i j,x = .int i /\ y = .int j /\ C i j /\ Q (g i j) H
def rI0 (g : Int -> Int -> V) : R2 := λ x y H Q => ∃ i j,x = .int i /\ y = .int j /\ Q (g i j) H
section
variable {X : Cx} {a b c : Expr} {ta tb tc : TE} {pos : Pos}
theorem binT (ha : PE X a ta) (hb : PE X b tb) {pins : List (Addr × Obj)} {s : Shared} {σ : St} {H : Hp} {R : V -> V -> Hp -> Prop} (I : Inv X pins σ H s)
  (h : ta σ H λ x H1 => tb σ H1 λ y H2 => R x y H2) {Q : Value -> Shared -> Prop} {f : Value -> Value -> Sem Value}
  (hf : ∀ v u s2 x y H2,Inv X pins σ H2 s2 -> RelV x v -> RelV y u -> R x y H2 -> wpAny (model X.prog X.w) X.A (f v u) Q X.xe s2) :
  wpAny (model X.prog X.w) X.A (eval a X.env) (λ v s₁ => wpAny (model X.prog X.w) X.A (eval b X.env) (λ u s₂ => wpAny (model X.prog X.w) X.A (f v u) Q X.xe s₂) X.xe s₁) X.xe s := by
 refine thn (ha pins s σ H _ I h) λ v s1 ⟨x,H1,I1,r1,q1⟩ => ?_
 refine thn (hb pins s1 σ H1 _ I1 q1) λ u s2 ⟨y,H2,I2,r2,q2⟩ => ?_
 exact hf v u s2 x y H2 I2 r1 r2 q2
theorem opI {f : Value -> Value -> Sem Value} {C : Int -> Int -> Prop} {g : Int -> Int -> Int}
  (rule : ∀ (i j : Int) (t u : Tok) (s : Shared) (Q : Value -> Shared -> Prop) (E : Value -> Shared -> Prop),C i j -> Q (.int (g i j) s.toks) { s with toks := s.toks + 1 } -> wpAny (model X.prog X.w) X.A (f (.int i t) (.int j u)) Q E s) :
  OpR X f (rI C λ i j => .int (g i j)) := by
 intro pins s σ H x y v u Q I rx ry h
 obtain ⟨i,j,rfl,rfl,hc,q⟩ := h
 obtain ⟨t,rfl⟩ := rx
 obtain ⟨t',rfl⟩ := ry
 exact rule i j t t' s _ _ hc ⟨.int (g i j),H,I.tok _,⟨_,rfl⟩,q⟩
theorem opI0 {f : Value -> Value -> Sem Value} {g : Int -> Int -> Int}
  (rule : ∀ (i j : Int) (t u : Tok) (s : Shared) (Q : Value -> Shared -> Prop) (E : Value -> Shared -> Prop),Q (.int (g i j) s.toks) { s with toks := s.toks + 1 } -> wpAny (model X.prog X.w) X.A (f (.int i t) (.int j u)) Q E s) :
  OpR X f (rI0 λ i j => .int (g i j)) := by
 intro pins s σ H x y v u Q I rx ry h
 obtain ⟨i,j,rfl,rfl,q⟩ := h
 obtain ⟨t,rfl⟩ := rx
 obtain ⟨t',rfl⟩ := ry
 exact rule i j t t' s _ _ ⟨.int (g i j),H,I.tok _,⟨_,rfl⟩,q⟩
theorem opB0 {f : Value -> Value -> Sem Value} {g : Int -> Int -> Bool}
  (rule : ∀ (i j : Int) (t u : Tok) (s : Shared) (Q : Value -> Shared -> Prop) (E : Value -> Shared -> Prop),Q (.bool (g i j)) s -> wpAny (model X.prog X.w) X.A (f (.int i t) (.int j u)) Q E s) :
  OpR X f (rI0 λ i j => .bl (g i j)) := by
 intro pins s σ H x y v u Q I rx ry h
 obtain ⟨i,j,rfl,rfl,q⟩ := h
 obtain ⟨t,rfl⟩ := rx
 obtain ⟨t',rfl⟩ := ry
 exact rule i j t t' s _ _ ⟨.bl (g i j),H,I,rfl,q⟩
def CDiv (i j : Int) : Prop := 0 < j /\ j < 1073741824
def CMul (i j : Int) : Prop := (-(2 ^ 64) < i /\ i < 2 ^ 64) \/ (-(2 ^ 64) < j /\ j < 2 ^ 64)
theorem CMul.ok {i j : Int} (h : CMul i j) : IntMulOk i j := by
 rcases h with ⟨h1,h2⟩ | ⟨h1,h2⟩
 ·exact .of_left (intBits_le_64 h1 h2)
 ·exact .of_right (intBits_le_64 h1 h2)
theorem Y1b : OpR X (binaryOp .Add) (rI0 λ i j => .int (i + j)) := opI0 λ _ _ _ _ _ _ _ q => add_int q
theorem Y0Y : OpR X (binaryOp .Sub) (rI0 λ i j => .int (i - j)) := opI0 λ _ _ _ _ _ _ _ q => sub_int q
theorem Z9r : OpR X (binaryOp .FloorDiv) (rI CDiv λ i j => .int (i / j)) := opI λ i j _ _ _ _ _ hc q => by
 have h1 : (0 : Int) < j := hc.1
 have h2 : j < 1073741824 := hc.2
 exact floordiv_int wF (by rw [Int.fdiv_eq_ediv_of_nonneg i wF]; exact q) (.inl (PyProof.noPylong_small wF))
theorem Y0Z : OpR X (binaryOp .Mod) (rI (λ _ j => 0 < j) λ i j => .int (i % j)) := opI λ i j _ _ _ _ _ hc q => by
 have h1 : (0 : Int) < j := hc
 exact mod_int' wF (by rw [Int.fmod_eq_emod_of_nonneg i wF]; exact q)
end
def scal : V -> V -> Bool
 | .non,.non => true | .non,.int _ => true | .int _,.non => true | .non,.bl _ => true | .bl _,.non => true | .non,.str _ => true | .str _,.non => true
 | .int _,.int _ => true | .bl _,.bl _ => true | .str _,.str _ => true | .byt _,.byt _ => true
 | .int _,.str _ => true | .str _,.int _ => true | .bl _,.str _ => true | .str _,.bl _ => true
 | _,_ => false
def rEq : R2 := λ x y H Q => scal x y = true /\ Q (.bl (decide (x = y))) H
def rNe : R2 := λ x y H Q => scal x y = true /\ Q (.bl (!decide (x = y))) H
theorem Z5S {i j : Int} : decide (V.int i = V.int j) = (i == j) := by
 rw [Bool.eq_iff_iff]
 simp
theorem Z8A {i j : Bool} : decide (V.bl i = V.bl j) = (i == j) := by
 rw [Bool.eq_iff_iff]
 simp
theorem Z5R {i j : Str} : decide (V.str i = V.str j) = (i == j) := by
 rw [Bool.eq_iff_iff]
 simp
theorem Z5T {i j : Array UInt8} : decide (V.byt i = V.byt j) = (i.toList == j.toList) := by
 rw [Bool.eq_iff_iff]
 cases i
 cases j
 simp
section
variable {X : Cx} {a b c : Expr} {ta tb tc : TE} {pos : Pos}
theorem Q0F {pins : List (Addr × Obj)} {σ : St} {H : Hp} {s : Shared} {Q : VK} {k k' : Bool} (I : Inv X pins σ H s) (q : Q (.bl k) H) (e : k = k') : EP X pins σ Q (.bool k') s := by
 subst e
 exact ⟨.bl k,H,I,rfl,q⟩
theorem op_eq : OpR X (compareOp .Eq) rEq := by
 intro pins s σ H x y v u Q I rx ry h
 obtain ⟨hs,q⟩ := h
 cases x with
 | non =>
  cases rx
  cases y with
  | non => cases ry; exact PySem.EqNone.eq_none_none (Q0F I q (by simp))
  | bl j => cases ry; exact PySem.EqNone.eq_none_bool (Q0F I q (by simp))
  | int j => obtain ⟨t',rfl⟩ := ry; exact PySem.EqNone.eq_none_int (Q0F I q (by simp))
  | str j => obtain ⟨t',rfl⟩ := ry; exact PySem.EqNone.eq_none_str (Q0F I q (by simp))
  | _ => exact absurd (show false = true from hs) Bool.false_ne_true
 | bl i =>
  cases rx
  cases y with
  | non => cases ry; exact PySem.EqNone.eq_bool_none (Q0F I q (by simp))
  | bl j => cases ry; exact eq_bool (Q0F I q Z8A)
  | str j => obtain ⟨t',rfl⟩ := ry; exact PySem.EqMixed.eq_bool_str (Q0F I q (by simp))
  | _ => exact absurd (show false = true from hs) Bool.false_ne_true
 | int i =>
  obtain ⟨t,rfl⟩ := rx
  cases y with
  | non => cases ry; exact PySem.EqNone.eq_int_none (Q0F I q (by simp))
  | int j => obtain ⟨t',rfl⟩ := ry; exact eq_int (Q0F I q Z5S)
  | str j => obtain ⟨t',rfl⟩ := ry; exact PySem.EqMixed.eq_int_str (Q0F I q (by simp))
  | _ => exact absurd (show false = true from hs) Bool.false_ne_true
 | str i =>
  obtain ⟨t,rfl⟩ := rx
  cases y with
  | non => cases ry; exact PySem.EqNone.eq_str_none (Q0F I q (by simp))
  | bl j => cases ry; exact PySem.EqMixed.eq_str_bool (Q0F I q (by simp))
  | int j => obtain ⟨t',rfl⟩ := ry; exact PySem.EqMixed.eq_str_int (Q0F I q (by simp))
  | str j => obtain ⟨t',rfl⟩ := ry; exact eq_str (Q0F I q Z5R)
  | _ => exact absurd (show false = true from hs) Bool.false_ne_true
 | byt i =>
  obtain ⟨t,rfl⟩ := rx
  cases y with
  | byt j => obtain ⟨t',rfl⟩ := ry; exact PySem.W.eq_bytes (Q0F I q Z5T)
  | _ => exact absurd (show false = true from hs) Bool.false_ne_true
 | _ => cases y <;> exact absurd (show false = true from hs) Bool.false_ne_true
theorem op_ne : OpR X (compareOp .NotEq) rNe := by
 intro pins s σ H x y v u Q I rx ry h
 obtain ⟨hs,q⟩ := h
 cases x with
 | non =>
  cases rx
  cases y with
  | non => cases ry; exact PySem.EqNone.ne_none_none (Q0F I q (by simp))
  | bl j => cases ry; exact PySem.EqNone.ne_none_bool (Q0F I q (by simp))
  | int j => obtain ⟨t',rfl⟩ := ry; exact PySem.EqNone.ne_none_int (Q0F I q (by simp))
  | str j => obtain ⟨t',rfl⟩ := ry; exact PySem.EqNone.ne_none_str (Q0F I q (by simp))
  | _ => exact absurd (show false = true from hs) Bool.false_ne_true
 | bl i =>
  cases rx
  cases y with
  | non => cases ry; exact PySem.EqNone.ne_bool_none (Q0F I q (by simp))
  | bl j => cases ry; exact ne_bool (Q0F I q (congrArg not Z8A))
  | str j => obtain ⟨t',rfl⟩ := ry; exact PySem.EqMixed.ne_bool_str (Q0F I q (by simp))
  | _ => exact absurd (show false = true from hs) Bool.false_ne_true
 | int i =>
  obtain ⟨t,rfl⟩ := rx
  cases y with
  | non => cases ry; exact PySem.EqNone.ne_int_none (Q0F I q (by simp))
  | int j => obtain ⟨t',rfl⟩ := ry; exact ne_int (Q0F I q (congrArg not Z5S))
  | str j => obtain ⟨t',rfl⟩ := ry; exact PySem.EqMixed.ne_int_str (Q0F I q (by simp))
  | _ => exact absurd (show false = true from hs) Bool.false_ne_true
 | str i =>
  obtain ⟨t,rfl⟩ := rx
  cases y with
  | non => cases ry; exact PySem.EqNone.ne_str_none (Q0F I q (by simp))
  | bl j => cases ry; exact PySem.EqMixed.ne_str_bool (Q0F I q (by simp))
  | int j => obtain ⟨t',rfl⟩ := ry; exact PySem.EqMixed.ne_str_int (Q0F I q (by simp))
  | str j => obtain ⟨t',rfl⟩ := ry; exact ne_str (Q0F I q (congrArg not Z5R))
  | _ => exact absurd (show false = true from hs) Bool.false_ne_true
 | byt i =>
  obtain ⟨t,rfl⟩ := rx
  cases y with
  | byt j => obtain ⟨t',rfl⟩ := ry; exact PySem.W.ne_bytes (Q0F I q (congrArg not Z5T))
  | _ => exact absurd (show false = true from hs) Bool.false_ne_true
 | _ => cases y <;> exact absurd (show false = true from hs) Bool.false_ne_true
theorem op_lt : OpR X (compareOp .Lt) (rI0 λ i j => .bl (decide (i < j))) := opB0 λ _ _ _ _ _ _ _ q => lt_int q
theorem op_le : OpR X (compareOp .LtE) (rI0 λ i j => .bl (decide (i <= j))) := opB0 λ _ _ _ _ _ _ _ q => le_int q
theorem op_gt : OpR X (compareOp .Gt) (rI0 λ i j => .bl (decide (j < i))) := opB0 λ _ _ _ _ _ _ _ q => gt_int q
theorem op_ge : OpR X (compareOp .GtE) (rI0 λ i j => .bl (decide (j <= i))) := opB0 λ _ _ _ _ _ _ _ q => ge_int q
theorem Y1a : OpR X (compareOp .Is) (λ x y H Q => y = .non /\ Q (.bl (decide (x = .non))) H) := by
 intro pins s σ H x y v u Q I rx ry h
 obtain ⟨rfl,q⟩ := h
 cases ry
 refine is_none_gen (Q0F I q ?_)
 cases x <;> first
  | (cases rx; rfl)
  | (obtain ⟨t,rfl⟩ := rx; rfl)
theorem Z9p : OpR X (compareOp .IsNot) (λ x y H Q => y = .non /\ Q (.bl (!decide (x = .non))) H) := by
 intro pins s σ H x y v u Q I rx ry h
 obtain ⟨rfl,q⟩ := h
 cases ry
 refine isnot_none_gen (Q0F I q ?_)
 cases x <;> first
  | (cases rx; rfl)
  | (obtain ⟨t,rfl⟩ := rx; rfl)
theorem Z8t (b : Expr) {op : CmpOp} (h : op ≠ .In := by decide) (h2 : op ≠ .NotIn := by decide) : behindInMarks op b = false := by
 have e1 : (op == CmpOp.In) = false := by cases op <;> first | rfl | exact absurd rfl h
 have e2 : (op == CmpOp.NotIn) = false := by cases op <;> first | rfl | exact absurd rfl h2
 cases b <;> simp [behindInMarks,e1,e2]
def TruV (K : PySem.W.Frag) (x : V) (H : Hp) (k : Bool) : Prop :=
 match x with
 | .non => k = false
 | .bl b => k = b
 | .int i => k = (i != 0)
 | .str y => y.length <= sizeLine /\ k = ((y.length : Int) != 0)
 | .byt y => y.size <= sizeLine /\ k = ((y.size : Int) != 0)
 | .ref p => (∃ xs,SqL K H p xs /\ k = !xs.isEmpty) \/ (∃ xs,SqT K H p xs /\ k = !xs.isEmpty) \/ ∃ kvs,H p = some (.dK kvs) /\ k = !kvs.isEmpty
 | _ => False
theorem Z3A {κ : Type} {kvs : List (κ × V)} {vs : List (κ × Value)} (r : KV kvs vs) : (!vs.isEmpty) = !kvs.isEmpty := by
 cases r <;> rfl
theorem Q7X {xs : List V} {its : List Value} (r : Vals xs its) : (!its.toArray.isEmpty) = !xs.isEmpty := by
 cases r <;> simp
theorem Z2m : (sizeLine : Nat) < 2 ^ 63 := by rw [sizeLine_eq]; decide
theorem Y0s : TruR X (λ x H Q => ∃ k,TruV X.K x H k /\ Q k H) := by
 intro pins s σ H x v Q I rx h
 obtain ⟨k,e,q⟩ := h
 have hl := Z2m
 have hs : sizeLine = 16777216 := sizeLine_eq
 cases x with
 | non =>
  cases rx
  have e' : k = false := e
  subst e'
  exact truthy_none ⟨H,I,q⟩
 | bl b =>
  cases rx
  have e' : k = b := e
  subst e'
  exact wpAny_truthy_bool ⟨H,I,q⟩
 | int i =>
  obtain ⟨t,rfl⟩ := rx
  have e' : k = (i != 0) := e
  subst e'
  exact PySem.P.truthy_int ⟨H,I,q⟩
 | str y =>
  obtain ⟨t,rfl⟩ := rx
  obtain ⟨hy,e'⟩ : y.length <= sizeLine /\ k = ((y.length : Int) != 0) := e
  subst e'
  exact PySem.P.truthy_str wF ⟨H,I.tok _,q⟩
 | byt y =>
  obtain ⟨t,rfl⟩ := rx
  obtain ⟨hy,e'⟩ : y.size <= sizeLine /\ k = ((y.size : Int) != 0) := e
  subst e'
  exact PySem.W.truthy_bytes wF ⟨H,I.tok _,q⟩
 | ref p =>
  cases rx
  have e' : (∃ xs,SqL X.K H p xs /\ k = !xs.isEmpty) \/ (∃ xs,SqT X.K H p xs /\ k = !xs.isEmpty) \/ ∃ kvs,H p = some (.dK kvs) /\ k = !kvs.isEmpty := e
  rcases e' with ⟨xs,hx,e'⟩ | ⟨xs,hx,e'⟩ | ⟨kvs,hx,e'⟩
  ·subst e'
   obtain ⟨its,r,pl,hz⟩ := I.list hx
   have hlen := r.length
   exact wpAny_truthy_list pl.isList (by simp only [List.size_toArray]; omega) ⟨H,I.tok _,by rw [Q7X r]; exact q⟩
  ·subst e'
   obtain ⟨its,r,pl,hz⟩ := I.tuple hx
   have hlen := r.length
   exact truthy_tuple pl (by simp only [List.size_toArray]; omega) ⟨H,I.tok _,by rw [Q7X r]; exact q⟩
  ·subst e'
   obtain ⟨hz,hS,vs,r,m⟩ : kvs.length <= sizeLine /\ (p == sysModules) = false /\ ∃ vs,KV kvs vs /\ s.heap.DictOf (Z1k X.prog X.w) p vs := I.hok p _ hx
   have hlen : kvs.length = vs.length := Paired.length r
   exact wpAny_truthy_dict hS m wF ⟨H,I.tok _,by rw [Z3A r]; exact q⟩
 | _ => exact (show False from e).elim
theorem Z2e (ha : PE X a ta) (he : ∀ whole,isTrue a X.env whole = (do let v <- whole; standAt a.pos; holding [v] (truthy v))) :
  PT X a (λ σ H Q => ta σ H λ x H' => ∃ k,TruV X.K x H' k /\ Q k H') := by
 intro pins s σ H Q I h
 exact isTrue_plain (thn (ha pins s σ H _ I h) λ v s1 ⟨x,H1,I1,r1,q1⟩ => Y0s pins s1 σ H1 x v Q I1 r1 q1) (he _)
theorem Q7f {x : V} {us : List Value} (r : Vals [x] us) : ∃ u,us = [u] /\ RelV x u := by
 cases r with
 | cons r1 r2 => cases r2; exact ⟨_,rfl,r1⟩
theorem Z0H {x y : V} {us : List Value} (r : Vals [x,y] us) : ∃ u w',us = [u,w'] /\ RelV x u /\ RelV y w' := by
 cases r with
 | cons r1 r2 =>
  cases r2 with
  | cons r3 r4 => cases r4; exact ⟨_,_,rfl,r1,r3⟩
theorem Z7R : Q7e X (.builtin "abs") (λ xs H Q => ∃ i,xs = [.int i] /\ Q (.int (if i < 0 then -i else i)) H) := by
 intro pins s σ H xs us Q I r h
 obtain ⟨i,rfl,q⟩ := h
 obtain ⟨u,rfl,t,rfl⟩ := Q7f r
 exact call_abs_int λ u tk => ⟨.int (if i < 0 then -i else i),H,I.tok _,⟨_,rfl⟩,q⟩
theorem Z6g (hc : X.calm = true) : Q7e X (.builtin "max") (λ xs H Q => ∃ i j,xs = [.int i,.int j] /\ Q (.int (if j > i then j else i)) H) := by
 intro pins s σ H xs us Q I r h
 obtain ⟨i,j,rfl,q⟩ := h
 obtain ⟨u,w',rfl,⟨t,rfl⟩,⟨t',rfl⟩⟩ := Z0H r
 refine max_two_ints (I.ok.hd hc) λ h' tk k => ⟨_,H,I.kept k,?_,q⟩
 by_cases hj : j > i
 ·rw [if_pos hj,if_pos hj]; exact ⟨_,rfl⟩
 ·rw [if_neg hj,if_neg hj]; exact ⟨_,rfl⟩
theorem Z6f (hc : X.calm = true) : Q7e X (.builtin "min") (λ xs H Q => ∃ i j,xs = [.int i,.int j] /\ Q (.int (if j < i then j else i)) H) := by
 intro pins s σ H xs us Q I r h
 obtain ⟨i,j,rfl,q⟩ := h
 obtain ⟨u,w',rfl,⟨t,rfl⟩,⟨t',rfl⟩⟩ := Z0H r
 refine min_two_ints (I.ok.hd hc) λ h' tk k => ⟨_,H,I.kept k,?_,q⟩
 by_cases hj : j < i
 ·rw [if_pos hj,if_pos hj]; exact ⟨_,rfl⟩
 ·rw [if_neg hj,if_neg hj]; exact ⟨_,rfl⟩
theorem Z6h : Q7e X (.type "int") (λ xs H Q => (∃ i,xs = [.int i] /\ Q (.int i) H) \/ ∃ k,xs = [.bl k] /\ Q (.int (if k then 1 else 0)) H) := by
 intro pins s σ H xs us Q I r h
 rcases h with ⟨i,rfl,q⟩ | ⟨k,rfl,q⟩
 ·obtain ⟨u,rfl,t,rfl⟩ := Q7f r
  exact call_int_int ⟨.int i,H,I,⟨_,rfl⟩,q⟩
 ·obtain ⟨u,rfl,r1⟩ := Q7f r
  cases r1
  exact call_int_bool ⟨.int (if k then 1 else 0),H,I.tok _,⟨_,rfl⟩,q⟩
end
end L2
namespace L2
open PySem PySem.Spec PyProof.Rows
structure ObjM (h : Heap) (x dx C : Addr) (mA : Str -> Option Value) : Prop where
 obj : h.get? x = some (PySem.W.instObj C dx)
 ns : h.Ns1 dx mA
 ne : dx ≠ x
theorem Z5p {h : Heap} {dx : Addr} {mA : Str -> Option Value} (n : h.Ns1 dx mA) : ∃ od,h.get? dx = some od /\ ∀ name,PySem.W.lookIn name od = some (mA name) := by
 obtain ⟨o,es,ep,ho,hd,hk,_,hm⟩ := n
 refine ⟨o,ho,λ name => ?_⟩
 have e := hm name
 unfold nsFind findBy at e
 rw [<- Array.find?_toList] at e
 unfold PySem.W.lookIn
 rw [hd]
 dsimp only
 split
 ·rename_i y q
  rw [q] at e
  exact congrArg some e
 ·rename_i q
  rw [q] at e
  have a : es.toList.any (·.refKey) = false := by
   rw [List.any_eq_false]
   intro y hy
   obtain ⟨z,t,hkey⟩ := hk y (Array.mem_toList_iff.mp hy)
   simp [DictEntry.refKey,hkey]
  have a' : ¬ es.toList.any (·.refKey) = true := by rw [a]; exact Bool.false_ne_true
  rw [if_neg a']
  exact congrArg some e
theorem ObjM.look {h : Heap} {x dx C : Addr} {mA : Str -> Option Value} (I : ObjM h x dx C mA) : ∃ od,PySem.W.InstAt h x (PySem.W.instObj C dx) C (some od) /\ ∀ name,PySem.W.lookIn name od = some (mA name) :=
 let ⟨od,ho,hl⟩ := Z5p I.ns
 ⟨od,⟨I.obj,rfl,rfl,ho⟩,hl⟩
section
variable {prog : Program} {w : World} {A : Around} {E : Value -> Shared -> Prop} {s : Shared} {K : PySem.W.Frag} {x dx C f : Addr} {mA : Str -> Option Value} {name : Str} {v : Value}
theorem Z9J {expr : Bool} {Q : Value -> Shared -> Prop} (X : K.In s.heap) (I : ObjM s.heap x dx C mA) (hg : PySem.W.plainGet K C name = true) (hh : PySem.W.hasDictIn K C = true)
  (ha : PySem.W.findIn K (.ref C) name = some none) (hv : mA name = some v) (hv' : PySem.W.handedIn v = true) (h : Q v { s with toks := s.toks + 1 }) :
  wpAny (model prog w) A (getAttr (.ref x) name expr) Q E s := by
 obtain ⟨od,J,hl⟩ := I.look
 exact PySem.W.get_value X J (PySem.W.plainGet_of hg).1 (PySem.W.findObj_own hh ha rfl (by rw [hl,hv])) hv' h
theorem Z7C {pl : Sem Bool} {Q : Value × List Value -> Shared -> Prop} (X : K.In s.heap) (I : ObjM s.heap x dx C mA) (hg : PySem.W.plainGet K C name = true)
  (hf : PySem.W.findIn K (.ref C) name = some (some (.ref f))) (ht : PySem.W.isFn K (.ref f) = true) (hv : mA name = none) (h : Q (.ref f,[.ref x]) s) :
  wpAny (model prog w) A (getMethod (.ref x) name pl) Q E s := by
 obtain ⟨od,J,hl⟩ := I.look
 exact PySem.W.method_fn X J (PySem.W.plainGet_of hg).1 (PySem.W.plainGet_of hg).2 hf (beq_iff_eq.mp ht) (by show (PySem.W.lookIn name od).map (·.isSome) = some false; rw [hl,hv]; rfl) h
theorem Z8V {ns : List Str} {Q : Unit -> Shared -> Prop} (X : K.In s.heap) (I : ObjM s.heap x dx C mA)
  (hs : PySem.W.findIn K (.ref C) "__setattr__" = some (some (.builtin "object.__setattr__"))) (hp : PySem.W.plainOver K C = true) (ht : PySem.W.takerIn K C name = some none) (hh : PySem.W.hasDictIn K C = true)
  (hw : PySem.Within mA ns) (hsz : ns.length <= sizeLine)
  (h : ∀ h',ObjM h' x dx C (λ y => if y = name then some v else mA y) -> Heap.SameBut dx s.heap h' -> Q () { s with heap := h',toks := s.toks + 2 }) :
  wpAny (model prog w) A (setAttr (.ref x) name v) Q E s := by
 obtain ⟨od,J,hl⟩ := I.look
 refine PySem.W.set_plain X J hs (PySem.W.osa_open (s := { s with toks := s.toks + 1 }) (r := none) X J hp ht λ b => ?_)
 obtain ⟨cd,hc,hd'⟩ := PySem.W.any_some hh
 have hx : s.heap.get? x = some ⟨.ref C,some dx,.plain,#[]⟩ := I.obj
 refine wpAny_bind (wpAny_pure (wpAny_bind (wpAny_bind (wpAny_loadPart hx (wpAny_bind (PySem.W.Looks.here (s := { s with toks := s.toks + 1 }) (PySem.W.looks_clsIn X hc) ?_))))))
 rw [hd']
 refine wpAny_pure (a := some dx) (wpAny_bind (wpAny_pure (wpAny_bind ?_)))
 refine wpAny_nsSet1 (s := { s with toks := s.toks + 1 }) I.ns λ h' hn2 hs2 => ?_
 obtain ⟨oD,esD,epD,hoD,hdD,hcD⟩ := hn2.count (PySem.Within.cons name v hw)
 refine wpAny_bind (wpAny_lookBehind hoD (by rw [hdD]; exact pastItsLine_dict (Nat.le_trans hcD (by rw [List.length_cons]; omega))) ?_)
 exact wpAny_pure (h _ ⟨(hs2.2 _ (Ne.symm I.ne)).trans I.obj,hn2,I.ne⟩ hs2)
theorem Z7w {R : Result -> Shared -> Prop} {vs : List Value} {kw : List (Str × Value)} (X : K.In s.heap) (hm : PySem.W.makesIn K C = true)
  (hi : PySem.W.findIn K (.ref C) "__init__" = some (some (.ref f))) (hf : PySem.W.typeIn K (.ref f) = some (.type "function"))
  (h : codeAny (model prog w) (A.under (.builtin "type.__call__" ⟨.ref C :: vs,kw⟩)) (.call (.ref f) ⟨.ref (s.heap.objs.size + 1) :: vs,kw⟩) (PySem.W.InitBack (s.heap.objs.size + 1) R)
   { s with heap := (s.heap.push PySem.W.emptyDict).push (PySem.W.instObj C s.heap.objs.size) }) :
  codeAny (model prog w) A (.call (.ref C) ⟨vs,kw⟩) R s := by
 obtain ⟨hh,g,d,t,os⟩ := s
 exact PySem.W.make_core (PySem.W.makes_of X hm) (PySem.W.looks_findIn X hi) (λ self => PySem.W.bind_fn X self hf) (.inl rfl) h
end
def putF (f : Str) (v : V) : List (Str × V) -> List (Str × V)
 | [] => [(f,v)]
 | (g,x) :: r => if g = f then (g,v) :: r else (g,x) :: putF f v r
theorem Q6I (f g : Str) (v : V) : ∀ fs : List (Str × V),(putF f v fs).lookup g = if g = f then some v else fs.lookup g
 | [] => by
  show List.lookup g [(f,v)] = _
  by_cases h : g = f
  ·have hb : (g == f) = true := beq_iff_eq.mpr h
   simp only [List.lookup,hb,if_pos h]
  ·have hb : (g == f) = false := beq_eq_false_iff_ne.mpr h
   simp only [List.lookup,hb,if_neg h]
 | (k,x) :: r => by
  have ih := Q6I f g v r
  rw [show putF f v ((k,x) :: r) = (if k = f then (k,v) :: r else (k,x) :: putF f v r) from rfl]
  by_cases hk : k = f
  ·rw [if_pos hk]
   by_cases h : g = k
   ·have hb : (g == k) = true := beq_iff_eq.mpr h
    simp only [List.lookup,hb,if_pos (h.trans hk)]
   ·have hb : (g == k) = false := beq_eq_false_iff_ne.mpr h
    simp only [List.lookup,hb,if_neg (λ e : g = f => h (e.trans hk.symm))]
  ·rw [if_neg hk]
   by_cases h : g = k
   ·have hb : (g == k) = true := beq_iff_eq.mpr h
    simp only [List.lookup,hb,if_neg (λ e : g = f => hk (h.symm.trans e))]
   ·have hb : (g == k) = false := beq_eq_false_iff_ne.mpr h
    simp only [List.lookup,hb]
    exact ih
theorem Q6L (f : Str) (v : V) : ∀ fs : List (Str × V),f ∈ (putF f v fs).map (·.1) /\ ∀ g,g ∈ fs.map (·.1) -> g ∈ (putF f v fs).map (·.1)
 | [] => ⟨by simp [putF],λ g h => by simp at h⟩
 | (k,x) :: r => by
  obtain ⟨i1,i2⟩ := Q6L f v r
  rw [show putF f v ((k,x) :: r) = (if k = f then (k,v) :: r else (k,x) :: putF f v r) from rfl]
  by_cases hk : k = f
  ·rw [if_pos hk]
   subst hk
   exact ⟨by simp,λ g h => by simpa using h⟩
  ·rw [if_neg hk]
   refine ⟨?_,λ g h => ?_⟩
   ·rw [List.map_cons]
    exact List.mem_cons_of_mem _ i1
   ·rw [List.map_cons] at h ⊢
    rcases List.mem_cons.mp h with e | e
    ·exact List.mem_cons.mpr (.inl e)
    ·exact List.mem_cons_of_mem _ (i2 g e)
theorem Q6J (f : Str) (v : V) : ∀ fs : List (Str × V),(putF f v fs).length <= fs.length + 1
 | [] => by simp [putF]
 | (k,x) :: r => by
  have ih := Q6J f v r
  rw [show putF f v ((k,x) :: r) = (if k = f then (k,v) :: r else (k,x) :: putF f v r) from rfl]
  by_cases hk : k = f
  ·rw [if_pos hk,List.length_cons,List.length_cons]; omega
  ·rw [if_neg hk,List.length_cons,List.length_cons]; omega
theorem RelO.some_of {v : V} {o : Option Value} (r : RelO (some v) o) : ∃ u,o = some u /\ RelV v u := by
 cases o with
 | none => exact (show False from r).elim
 | some u => exact ⟨u,rfl,r⟩
theorem RelO.none_of {o : Option Value} (r : RelO none o) : o = none := by
 cases o with
 | none => rfl
 | some u => exact (show False from r).elim
theorem Z5A {v : V} {u : Value} (r : RelV v u) : PySem.W.handedIn u = true := by
 cases v with
 | non => cases (show u = Value.none from r); rfl
 | bl b => cases (show u = Value.bool b from r); rfl
 | int i => obtain ⟨t,e⟩ := (show ∃ t,u = Value.int i t from r); cases e; rfl
 | str x => obtain ⟨t,e⟩ := (show ∃ t,u = Value.str x t from r); cases e; rfl
 | byt b => obtain ⟨t,e⟩ := (show ∃ t,u = Value.bytes b t from r); cases e; rfl
 | flt b => obtain ⟨t,e⟩ := (show ∃ t,u = Value.float b t from r); cases e; rfl
 | ref a => cases (show u = Value.ref a from r); rfl
 | ty n => cases (show u = Value.type n from r); rfl
section
variable {P : Program} {w : World} {H H' : Hp} {h h' : Heap} {a C dx : Addr} {fs fs' : List (Str × V)}
theorem Q8V (hok : HOk P w H h) (e : H a = some (.ins C dx fs)) : ∃ mA,ObjM h a dx C mA /\ (∀ f,RelO (fs.lookup f) (mA f)) /\ PySem.Within mA (fs.map (·.1)) /\ fs.length <= 1000 /\ H dx = some (.own a) := by
 obtain ⟨d,z,ne,ob,mA,n,r,q⟩ := (show Q1Y P w H h a (.ins C dx fs) from hok a _ e)
 exact ⟨mA,⟨ob,n,ne⟩,r,q,z,d⟩
end
structure Cls (K : PySem.W.Frag) (C : Addr) : Prop where
 pg : PySem.W.plainGet K C Str.empty = true
 hd : PySem.W.hasDictIn K C = true
 po : PySem.W.plainOver K C = true
 sa : PySem.W.findIn K (.ref C) "__setattr__" = some (some (.builtin "object.__setattr__"))
theorem Cls.get {K : PySem.W.Frag} {C : Addr} (c : Cls K C) (f : Str) : PySem.W.plainGet K C f = true := c.pg
def Q0l (K : PySem.W.Frag) (C : Addr) (f : Str) : Prop := PySem.W.findIn K (.ref C) f = some none
theorem Q0l.taker {K : PySem.W.Frag} {C : Addr} {f : Str} (n : Q0l K C f) : PySem.W.takerIn K C f = some none := by
 unfold PySem.W.takerIn
 rw [show PySem.W.findIn K (.ref C) f = some none from n]
 rfl
structure Meth (K : PySem.W.Frag) (C : Addr) (m : Str) (f : Addr) : Prop where
 at_ : PySem.W.findIn K (.ref C) m = some (some (.ref f))
 fn : PySem.W.isFn K (.ref f) = true
 kp : PySem.W.keepIn K (.ref f) = true
section
variable {X : Cx} {pins : List (Addr × Obj)} {σ : St} {H : Hp} {s : Shared} {a C dx : Addr} {fs : List (Str × V)} {f : Str} {v : V} {A : Around} {E : Value -> Shared -> Prop}
theorem Z3D {b : Bool} {Q : Value -> Shared -> Prop} (I : Inv X pins σ H s) (e : H a = some (.ins C dx fs)) (c : Cls X.K C) (n : Q0l X.K C f) (l : fs.lookup f = some v)
  (h : ∀ u s',Inv X pins σ H s' -> RelV v u -> Q u s') : wpAny (model X.prog X.w) A (getAttr (.ref a) f b) Q E s := by
 obtain ⟨mA,O,r,_,_,_⟩ := Q8V I.hok e
 obtain ⟨u,hu,ru⟩ := RelO.some_of (v := v) (o := mA f) (by rw [<- l]; exact r f)
 exact Z9J I.kIn O (c.get f) c.hd n hu (Z5A ru) (h u _ (I.tok _) ru)
theorem Q7Z {m : Str} {g : Addr} {pl : Sem Bool} {Q : Value × List Value -> Shared -> Prop} (I : Inv X pins σ H s) (e : H a = some (.ins C dx fs)) (c : Cls X.K C) (k : Meth X.K C m g) (l : fs.lookup m = none)
  (h : Q (.ref g,[.ref a]) s) : wpAny (model X.prog X.w) A (getMethod (.ref a) m pl) Q E s := by
 obtain ⟨mA,O,r,_,_,_⟩ := Q8V I.hok e
 have hn : mA m = none := RelO.none_of (by rw [<- l]; exact r m)
 exact Z7C I.kIn O (c.get m) k.at_ k.fn hn h
theorem Q7R {y : V} {u : Value} {Q : Unit -> Shared -> Prop} (I : Inv X pins σ H s) (e : H a = some (.ins C dx fs)) (c : Cls X.K C) (n : Q0l X.K C f) (hl : fs.length < 1000) (ry : RelV y u)
  (h : ∀ s',Inv X pins σ (upd H a (.ins C dx (putF f y fs))) s' -> Q () s') : wpAny (model X.prog X.w) A (setAttr (.ref a) f u) Q E s := by
 obtain ⟨mA,O,r,wi,_,ho⟩ := Q8V I.hok e
 have hz : (fs.map (·.1)).length <= sizeLine := by rw [List.length_map,sizeLine_eq]; omega
 refine Z8V I.kIn O c.sa c.po n.taker c.hd wi hz λ h' O' sb => h _ ?_
 have hd : ∃ o,h'.get? dx = some o := let ⟨o,_,_,e',_⟩ := O'.ns; ⟨o,e'⟩
 refine I.write (x := a) (e := dx) (by rw [e]; exact True.intro) (.inr ho) (λ b q hb z => (sb.2 b hb).trans z) hd ?_
 refine ⟨by rw [Q0w O.ne]; exact ho,?_,O.ne,O'.obj,_,O'.ns,λ g => ?_,λ g hg => ?_⟩
 ·have := Q6J f y fs; omega
 ·show RelO ((putF f y fs).lookup g) (if g = f then some u else mA g)
  rw [Q6I]
  by_cases q : g = f
  ·rw [if_pos q,if_pos q]; exact ry
  ·rw [if_neg q,if_neg q]; exact r g
 ·by_cases q : g = f
  ·rw [q]; exact (Q6L f y fs).1
  ·refine (Q6L f y fs).2 g (wi g λ z => hg ?_)
   show (if g = f then some u else mA g) = none
   rw [if_neg q]; exact z
theorem Inv.made (I : Inv X pins σ H s) : Inv X pins σ (upd (upd H s.heap.objs.size (.own (s.heap.objs.size + 1))) (s.heap.objs.size + 1) (.ins C s.heap.objs.size []))
  { s with heap := (s.heap.push PySem.W.emptyDict).push (PySem.W.instObj C s.heap.objs.size) } := by
 have e1 : (s.heap.push PySem.W.emptyDict).get? s.heap.objs.size = some PySem.W.emptyDict := Heap.get?_push_size s.heap rfl
 have e2 : ((s.heap.push PySem.W.emptyDict).push (PySem.W.instObj C s.heap.objs.size)).get? (s.heap.objs.size + 1) = some (PySem.W.instObj C s.heap.objs.size) := by
  have := Heap.get?_push_size (s.heap.push PySem.W.emptyDict) (o := PySem.W.instObj C s.heap.objs.size) rfl
  rwa [Heap.size_push] at this
 have e3 : (s.heap.push PySem.W.emptyDict).Ns s.heap.objs.size (λ _ => none) := ⟨PySem.W.emptyDict,#[],_,e1,rfl,(λ e he => absurd he (by simp)),λ _ => rfl⟩
 have I1 := I.laid (a := s.heap.objs.size) (o := .own (s.heap.objs.size + 1)) (h' := s.heap.push PySem.W.emptyDict) (t' := s.toks) (λ b u q => Heap.get?_push_of_some _ q) (Nat.le_refl _) ⟨_,e1⟩
 refine I1.laid (a := s.heap.objs.size + 1) (o := .ins C s.heap.objs.size []) (t' := s.toks) (λ b u q => Heap.get?_push_of_some _ q) (Nat.le_of_eq (Heap.size_push _ _)) ?_
 have ne : s.heap.objs.size ≠ s.heap.objs.size + 1 := Nat.ne_of_lt (Nat.lt_succ_self _)
 refine ⟨by rw [Q0w ne,Q0u],Nat.zero_le _,ne,e2,λ _ => none,(Heap.Ns1.of_empty e3).at λ o q => Heap.get?_push_of_some _ q,λ _ => True.intro,λ y hy => absurd rfl hy⟩
theorem Y0e {prog : Program} {w : World} {env : Env} {e : Expr} {f : Str} {pos : Pos} {s : Shared} {Q : Value -> Shared -> Prop} (hb : attributeBase e f env (eval e env) = eval e env)
  (h : wpAny (model prog w) A (eval e env) (λ o s₁ => wpAny (model prog w) A (getAttr o f true) Q E s₁) E s) : wpAny (model prog w) A (eval (.Attribute e f pos) env) Q E s :=
 Attribute_any_ h (by rw [arm_eval_Attribute,hb])
end
def tFld (K : PySem.W.Frag) (ta : TE) (f : Str) : TE := λ σ H Q => ta σ H λ x H1 => ∃ a C dx fs v,x = .ref a /\ H1 a = some (.ins C dx fs) /\ Cls K C /\ Q0l K C f /\ fs.lookup f = some v /\ Q v H1
section
variable {X : Cx} {o e value : Expr} {f : Str} {pos pos' tpos : Pos} {ta tv : TE}
theorem Y0W (he : PE X e ta) (hb : attributeBase e f X.env (eval e X.env) = eval e X.env) : PE X (.Attribute e f pos) (tFld X.K ta f) := by
 intro pins s σ H Q I h
 refine Y0e hb (thn (he pins s σ H _ I h) λ u s1 ⟨x,H1,I1,rx,a,C,dx,fs,v,ex,ea,c,n,l,q⟩ => ?_)
 subst ex
 obtain rfl : u = Value.ref a := rx
 exact Z3D I1 ea c n l λ u' s2 I2 ru => ⟨v,H1,I2,ru,q⟩
end
section
variable {X : Cx} {pins : List (Addr × Obj)} {σ : St} {H : Hp} {s : Shared} {A : Around} {E : Value -> Shared -> Prop} {Q : Value -> Shared -> Prop} {c : Value} {b : Bool}
inductive TyOf (K : PySem.W.Frag) (H : Hp) : V -> Value -> Prop where
 | non : TyOf K H .non (.type "NoneType")
 | bl (x : Bool) : TyOf K H (.bl x) (.type "bool")
 | int (i : Int) : TyOf K H (.int i) (.type "int")
 | str (x : Str) : TyOf K H (.str x) (.type "str")
 | flt (x : UInt64) : TyOf K H (.flt x) (.type "float")
 | lst {a : Addr} {xs : List V} (e : H a = some (.lst xs)) : TyOf K H (.ref a) (.type "list")
 | frz {a : Addr} {o : Obj} {xs : List V} (e : H a = some (.frz o (.lst xs))) : TyOf K H (.ref a) (.type "list")
 | tup {a : Addr} {xs : List V} (e : H a = some (.tup xs)) : TyOf K H (.ref a) (.type "tuple")
 | dK {a : Addr} {kvs : List (Key × V)} (e : H a = some (.dK kvs)) : TyOf K H (.ref a) (.type "dict")
 | dT {a : Addr} {kvs : List (List Key × V)} (e : H a = some (.dT kvs)) : TyOf K H (.ref a) (.type "dict")
 | ins {a C dx : Addr} {fs : List (Str × V)} (e : H a = some (.ins C dx fs)) (cl : Cls K C) (ha : PySem.W.findIn K (.ref C) "__class__" = some (some (.builtin "object.__class__")))
   (hn : PySem.W.specialIn K (.builtin "object.__class__") "__get__" = some (some (.builtin "getset_descriptor.__get__"))) (htk : PySem.W.takesIn K (.builtin "object.__class__") = some true)
   (hm : PySem.W.mroIn K C (.type "object") = some true) : TyOf K H (.ref a) (.ref C)
theorem Z5w {x : V} {u t : Value} (I : Inv X pins σ H s) (rx : RelV x u) (ty : TyOf X.K H x t) (e : PySem.W.kitOne X.K t c = some b) (h : ∀ tk,Q (.bool b) { s with toks := tk }) :
  wpAny (model X.prog X.w) A (call (.builtin "isinstance") [u,c]) Q E s := by
 cases ty with
 | non => cases (show u = Value.none from rx); exact PySem.W.kia_one PySem.W.kitx_none I.kIn True.intro e (λ z => nomatch z) h
 | bl y => cases (show u = Value.bool y from rx); exact PySem.W.kia_one PySem.W.kitx_bool I.kIn True.intro e (λ z => nomatch z) h
 | int i => obtain ⟨t,q⟩ := (show ∃ t,u = Value.int i t from rx); cases q; exact PySem.W.kia_one PySem.W.kitx_int I.kIn True.intro e (λ z => nomatch z) h
 | str y => obtain ⟨t,q⟩ := (show ∃ t,u = Value.str y t from rx); cases q; exact PySem.W.kia_one PySem.W.kitx_str I.kIn True.intro e (λ z => nomatch z) h
 | flt y => obtain ⟨t,q⟩ := (show ∃ t,u = Value.float y t from rx); cases q; exact PySem.W.kia_one PySem.W.kitx_float I.kIn True.intro e (λ z => nomatch z) h
 | @lst a xs ea =>
  cases (show u = Value.ref a from rx)
  obtain ⟨_,_,n,_,h1⟩ := (show Q1Y X.prog X.w H s.heap a (.lst xs) from I.hok a _ ea)
  exact PySem.W.kia_one PySem.W.kitx_list I.kIn ⟨_,h1,rfl⟩ e (λ z => nomatch z) h
 | @frz a ob xs ea =>
  cases (show u = Value.ref a from rx)
  obtain ⟨_,_,_,n,_,h1⟩ := (show Q1Y X.prog X.w H s.heap a (.frz ob (.lst xs)) from I.hok a _ ea)
  exact PySem.W.kia_one PySem.W.kitx_list I.kIn ⟨_,h1,rfl⟩ e (λ z => nomatch z) h
 | @tup a xs ea =>
  cases (show u = Value.ref a from rx)
  obtain ⟨_,_,_,p⟩ := (show Q1Y X.prog X.w H s.heap a (.tup xs) from I.hok a _ ea)
  obtain ⟨o,h1,h2,_⟩ := p.t
  exact PySem.W.kia_one PySem.W.kitx_tuple I.kIn ⟨o,h1,h2⟩ e (λ z => nomatch z) h
 | @dK a kvs ea =>
  cases (show u = Value.ref a from rx)
  obtain ⟨_,_,vs,_,p⟩ := (show Q1Y X.prog X.w H s.heap a (.dK kvs) from I.hok a _ ea)
  obtain ⟨o,es,ep,h1,h2,_⟩ := p
  exact PySem.W.kia_one PySem.W.kitx_dict I.kIn ⟨o,h1,h2.1⟩ e (λ z => nomatch z) h
 | @dT a kvs ea =>
  cases (show u = Value.ref a from rx)
  obtain ⟨_,_,xs,_,o,es,ep,h1,h2,_⟩ := (show Q1Y X.prog X.w H s.heap a (.dT kvs) from I.hok a _ ea)
  exact PySem.W.kia_one PySem.W.kitx_dict I.kIn ⟨o,h1,h2.1⟩ e (λ z => nomatch z) h
 | @ins a C dx fs ea cl ha hn htk hm =>
  cases (show u = Value.ref a from rx)
  obtain ⟨mA,O,_⟩ := Q8V I.hok ea
  obtain ⟨od,J,_⟩ := O.look
  exact PySem.W.kia_one (PySem.W.kitx_own (cl.get _) cl.hd ha hn htk hm) I.kIn J e (λ z => nomatch z) h
end
end L2
namespace L2
open PySem PySem.Spec PyProof.Rows
structure Room (k : Nat) (A : Around) : Prop where
 hd : A.handled = none
 dp : A.depth + 3 * k + 5 < recursionLimit
 un : A.units + 16 * k + 200 < cLine
theorem Room.mono {j k : Nat} {A : Around} (r : Room k A) (h : j <= k) : Room j A := ⟨r.hd,by have := r.dp; omega,by have := r.un; omega⟩
theorem Room.deeper {k : Nat} {A : Around} (r : Room (k + 1) A) (env : Env) : Room k (A.deeper env) :=
 ⟨r.hd,by have := r.dp; show A.depth + 1 + 3 * k + 5 < _; omega,by have := r.un; show A.units + 3 + 16 * k + 200 < _; omega⟩
theorem Z3x {A : Around} {C : Addr} {us : List Value} {kw : List (Str × Value)} : (A.under (.builtin "type.__call__" ⟨.ref C :: us,kw⟩)).depth = A.depth + 1 := by
 first | rfl | simp [Around.under,Code.weight,Code.isCreation,Code.isGuard,Code.isCaller,Code.frames,Code.isFrame,guardIds]
theorem Z3w {A : Around} {C : Addr} {us : List Value} {kw : List (Str × Value)} : (A.under (.builtin "type.__call__" ⟨.ref C :: us,kw⟩)).units = A.units + 1 := by
 first | rfl | simp [Around.under,Code.cUnits,Code.frames,Code.isFrame]
theorem Room.make {k : Nat} {A : Around} (r : Room (k + 1) A) (C : Addr) (us : List Value) (kw : List (Str × Value)) : Room k (A.under (.builtin "type.__call__" ⟨.ref C :: us,kw⟩)) :=
 ⟨r.hd,by have := r.dp; rw [Z3x]; omega,by have := r.un; rw [Z3w]; omega⟩
theorem Room.depth {k : Nat} {A : Around} (r : Room k A) : A.depth < recursionLimit := by have := r.dp; omega
theorem Room.units {k : Nat} {A : Around} (r : Room k A) : A.units + 64 < cLine := by have := r.un; omega
def tNil : TA := λ _ H Q => Q [] H
def tCons (ta : TE) (tr : TA) : TA := λ σ H Q => ta σ H λ x H1 => tr σ H1 λ xs H2 => Q (x :: xs) H2
section
variable {X : Cx} {e : Expr} {es : List Expr} {te : TE} {t : TA} {pos : Pos}
theorem Z2h : PA X [] tNil := λ _ _ _ _ H Q I h => Calls.spliced_nil ⟨[],H,I,.nil,h⟩
theorem Q4Q (ha : PE X e te) (hr : PA X es t) (hs : starEach (e :: es) X.env = (false,eval e X.env) :: starEach es X.env := by rfl) : PA X (e :: es) (tCons te t) := by
 intro pos pins s σ H Q I h
 rw [hs]
 show wpAny _ _ (spliced ((false,eval e X.env) :: backTo pos (starEach es X.env))) _ _ s
 refine Calls.spliced_cons (thn (ha pins s σ H _ I h) λ u s1 ⟨x,H1,I1,r1,q1⟩ => ?_)
 exact thn (hr pos pins s1 σ H1 _ I1 q1) λ us s2 ⟨xs,H2,I2,r2,q2⟩ => ⟨x :: xs,H2,I2,.cons r1 r2,q2⟩
def tTup (t : TA) : TE := λ σ H Q => t σ H λ xs H1 => xs.length <= sizeLine /\ ∀ p,H1 p = none -> Q (.ref p) (upd H1 p (.tup xs))
def tLst (t : TA) : TE := λ σ H Q => t σ H λ xs H1 => xs.length <= sizeLine /\ ∀ p,H1 p = none -> Q (.ref p) (upd H1 p (.lst xs))
theorem Z8p {x1} (h : PA X es t) : PE X (.Tuple es x1 pos) (tTup t) := by
 intro pins s σ H Q I hq
 refine wpAny_Tuple_spliced (thn (h pos pins s σ H _ I hq) λ us s1 ⟨xs,H1,I1,r,z,q⟩ => ⟨by rw [<- r.length]; exact z,?_⟩)
 have hf : H1 s1.heap.objs.size = none := I1.hok.fresh (Nat.le_refl _)
 refine ⟨.ref s1.heap.objs.size,upd H1 s1.heap.objs.size (.tup xs),I1.laid (t' := s1.toks) (λ b u e => Heap.get?_push_of_some _ e) (Nat.le_refl _) ?_,rfl,q _ hf⟩
 exact ⟨z,us,r,TupN.new _ _⟩
theorem Z8q (h : PA X es t) : PE X (.List es pos) (tLst t) := by
 intro pins s σ H Q I hq
 refine wpAny_List_spliced (thn (h pos pins s σ H _ I hq) λ us s1 ⟨xs,H1,I1,r,z,q⟩ => ⟨by rw [<- r.length]; exact z,?_⟩)
 have hf : H1 s1.heap.objs.size = none := I1.hok.fresh (Nat.le_refl _)
 refine ⟨.ref s1.heap.objs.size,upd H1 s1.heap.objs.size (.lst xs),I1.laid (t' := s1.toks) (λ b u e => Heap.get?_push_of_some _ e) (Nat.le_refl _) ?_,rfl,q _ hf⟩
 exact ⟨z,us,0,r,Heap.get?_push_size _ rfl⟩
end
abbrev Sp := List V -> Hp -> VK -> XK -> Prop
abbrev CXT := List Env -> Hp -> Shared -> XK -> Value -> Shared -> Prop
structure Env0 (P : Program) (w : World) (K : PySem.W.Frag) (mg : Str -> Option Value) (base : Heap) (A : Around) (outer : List Env) (s : Shared) (H : Hp) : Prop where
 frames : A.frames = some outer
 mod : Mod K mg base
 bs : ∀ b o,base.get? b = some o -> s.heap.get? b = some o /\ H b = none
 bsz : base.objs.size <= s.heap.objs.size
 funs : s.heap.FunFrames base outer
 frf : ∀ b ∈ frs outer,H b = none
 hok : HOk P w H s.heap
 bare : AllBare s.gens
def CE (outer : List Env) (P : Program) (w : World) (H : Hp) (s : Shared) (Q : VK) (u : Value) (s' : Shared) : Prop :=
 ∃ v H',s'.os = s.os /\ AllBare s'.gens /\ Un (frs outer) [] H H' s.heap s'.heap /\ HOk P w H' s'.heap /\ RelV v u /\ Q v H'
def CR (CX : CXT) (outer : List Env) (P : Program) (w : World) (H : Hp) (s : Shared) (Q : VK) (E : XK) (r : Result) (s' : Shared) : Prop :=
 match r with
 | .ok (.ret u) => CE outer P w H s Q u s'
 | .ok _ => False
 | .error e => CX outer H s E e s'
structure FnOk (P : Program) (w : World) (K : PySem.W.Frag) (mg : Str -> Option Value) (base : Heap) (CX : CXT) (k : Nat) (f : Addr) (fd : FuncData) (ps : List Str) (sp : Sp) : Prop where
 len : ∀ vs H Q E,sp vs H Q E -> vs.length = ps.length
 run : ∀ (A : Around) (outer : List Env) (s : Shared) (H : Hp) (args : Args) (us : List Value) (vs : List V) (Q : VK) (E : XK),Room k A -> Env0 P w K mg base A outer s H -> BindsTo s fd args (ps.zip us) -> Vals vs us -> sp vs H Q E ->
  codeAny (model P w) A (.call (.ref f) args) (CR CX outer P w H s Q E) s
theorem FnOk.mono {P : Program} {w : World} {K : PySem.W.Frag} {mg : Str -> Option Value} {base : Heap} {CX : CXT} {j k : Nat} {f : Addr} {fd : FuncData} {ps : List Str} {sp : Sp} (F : FnOk P w K mg base CX j f fd ps sp) (h : j <= k) :
  FnOk P w K mg base CX k f fd ps sp := ⟨F.len,λ A outer s H args us vs Q E hr => F.run A outer s H args us vs Q E (hr.mono h)⟩
theorem Env0.make {P : Program} {w : World} {K : PySem.W.Frag} {mg : Str -> Option Value} {base : Heap} {A : Around} {outer : List Env} {s : Shared} {H : Hp} (e : Env0 P w K mg base A outer s H) (C : Addr) (us : List Value) (kw : List (Str × Value)) :
  Env0 P w K mg base (A.under (.builtin "type.__call__" ⟨.ref C :: us,kw⟩)) outer s H := ⟨by first | exact e.frames | (simpa [Around.under,Code.envs,Code.isFrame,pushEnvs] using e.frames),e.mod,e.bs,e.bsz,e.funs,e.frf,e.hok,e.bare⟩
section
variable {X : Cx} {pins : List (Addr × Obj)} {σ : St} {H : Hp} {s s' : Shared}
theorem Inv.env0 (I : Inv X pins σ H s) : Env0 X.prog X.w X.K X.mg X.base X.A X.stack s H :=
 ⟨I.ok.frames,I.ok.mod,I.bs,Nat.le_trans I.ok.bsz I.sz,I.stack,I.stkFree,I.hok,I.bare⟩
theorem Inv.after {Q : VK} {u : Value} (I : Inv X pins σ H s) (h : CE X.stack X.prog X.w H s Q u s') : EP X pins σ Q u s' := by
 obtain ⟨v,H',os,bare,un,hok,r,q⟩ := h
 obtain ⟨hh,g,d,t,os'⟩ := s'
 obtain rfl : os' = s.os := os
 exact ⟨v,H',I.call (h' := hh) (g' := g) (d' := d) (t' := t) (ch := []) un hok bare (λ b z => absurd z (by simp)),r,q⟩
end
def tCall (sp : Sp) (dvs : List V) (E : XK) (t : TA) : TE := λ σ H Q => t σ H λ vs H1 => sp (vs ++ dvs) H1 Q E
def Y0v (C : Addr) (m : Str) (sp : Sp) (dvs : List V) (E : XK) (ta : TE) (t : TA) : TE := λ σ H Q => ta σ H λ x H1 => ∃ a dx fs,x = .ref a /\ H1 a = some (.ins C dx fs) /\ fs.lookup m = none /\
 t σ H1 λ vs H2 => sp (x :: (vs ++ dvs)) H2 Q E
def tMake (C : Addr) (sp : Sp) (dvs : List V) (E : XK) (t : TA) : TE := λ σ H Q => t σ H λ vs H1 => ∀ x dx,H1 x = none -> H1 dx = none -> dx ≠ x ->
 sp (.ref x :: (vs ++ dvs)) (upd (upd H1 dx (.own x)) x (.ins C dx [])) (λ v H2 => v = .non /\ Q (.ref x) H2) E
def Q0A (K : PySem.W.Frag) (fd : FuncData) (ps : List Str) (ds : List Value) : Prop :=
 ∀ (s : Shared) (us : List Value),K.In s.heap -> (us ++ ds).length = ps.length -> BindsTo s fd ⟨us,[]⟩ (ps.zip (us ++ ds))
theorem Q0A.all {K : PySem.W.Frag} {fd : FuncData} {ps : List Str} (h : ∀ us : List Value,us.length = ps.length -> bindArgs fd ⟨us,[]⟩ = pure (ps.zip us)) : Q0A K fd ps [] := λ s us _ hl => by
 rw [List.append_nil] at hl ⊢
 exact .of_eq (h us hl)
def Q6W (CX : CXT) (X : Cx) (E : XK) : Prop := ∀ (pins : List (Addr × Obj)) (σ : St) (H : Hp) (s : Shared) (e : Value) (s' : Shared),Inv X pins σ H s -> CX X.stack H s E e s' -> X.xe e s'
section
variable {X : Cx} {CX : CXT} {k : Nat} {f C : Addr} {fd : FuncData} {ps : List Str} {sp : Sp} {dvs : List V} {ds : List Value} {E : XK} {x m : Str} {p pos apos : Pos} {e o : Expr} {es : List Expr} {ta : TE} {t : TA}
theorem Z1Z {pins : List (Addr × Obj)} {σ : St} {H : Hp} {s : Shared} {Q : VK} {us : List Value} {vs : List V} (F : FnOk X.prog X.w X.K X.mg X.base CX k f fd ps sp) (hr : Room k X.A) (hb : Q0A X.K fd ps ds) (hd : Vals dvs ds) (hx : Q6W CX X E)
  (I : Inv X pins σ H s) (r : Vals vs us) (h : sp (vs ++ dvs) H Q E) : wpAny (model X.prog X.w) X.A (call (.ref f) us) (EP X pins σ Q) X.xe s := by
 have r2 : Vals (vs ++ dvs) (us ++ ds) := r.append hd
 have hl : (us ++ ds).length = ps.length := by rw [<- r2.length]; exact F.len _ _ _ _ h
 refine wpAny_call (codeAny_mono (F.run X.A X.stack s H ⟨us,[]⟩ (us ++ ds) (vs ++ dvs) Q E hr I.env0 (hb s us I.kIn hl) r2 h) λ r s' hq => ?_)
 cases r with
 | error e => exact hx pins σ H s e s' I hq
 | ok fl =>
  cases fl with
  | ret u => exact I.after hq
  | next => exact False.elim hq
  | brk => exact False.elim hq
  | cont => exact False.elim hq
theorem Z9n (F : FnOk X.prog X.w X.K X.mg X.base CX k f fd ps sp) (hr : Room k X.A) (hg : Gl X x) (hm : X.mg x = some (.ref f)) (hk : PySem.W.keepIn X.K (.ref f) = true) (hb : Q0A X.K fd ps ds) (hd : Vals dvs ds) (hx : Q6W CX X E)
  (ha : PA X (e :: es) t) (hdb : (x == ("__debug__" : Str)) = false := by decide) (he : starEach (e :: es) X.env = (false,eval e X.env) :: starEach es X.env := by rfl) (hpl : (backTo pos (starEach es X.env)).any (·.1) = false := by rfl) :
  PE X (.Call (.Name x p) (e :: es) [] pos) (tCall sp dvs E t) := by
 intro pins s σ H Q I h
 refine wpAny_Call_Name_kw (Q8U I hg hm ?_ hdb)
 refine PySem.W.callWith_K (h₀ := X.base) I.ok.mod.kin hk (thn (ha pos pins s σ H _ I h) λ us s1 ⟨vs,H1,I1,r,q⟩ => ⟨I1.kIn,?_⟩) he hpl
 exact Z1Z F hr hb hd hx I1 r q
theorem Z9m {pl : Sem Bool} (he : PE X o ta) (c : Cls X.K C) (hm : Meth X.K C m f) (F : FnOk X.prog X.w X.K X.mg X.base CX k f fd ps sp) (hr : Room k X.A) (hb : Q0A X.K fd ps ds) (hd : Vals dvs ds) (hx : Q6W CX X E) (ha : PA X (e :: es) t)
  (hst : starEach (e :: es) X.env = (false,eval e X.env) :: starEach es X.env := by rfl) (hpl : (backTo pos (starEach es X.env)).any (·.1) = false := by rfl)
  (ht : eval (.Call (.Attribute o m apos) (e :: es) [] pos) X.env = (do
   let ov <- eval o X.env
   standAt apos.atName
   let (f,first) <- holding [ov] (getMethod ov m pl)
   callWith pos f first (backTo pos (starEach (e :: es) X.env)) (backToKw pos (keywordEach [] X.env))) := by rfl) :
  PE X (.Call (.Attribute o m apos) (e :: es) [] pos) (Y0v C m sp dvs E ta t) := by
 intro pins s σ H Q I h
 refine PySem.W.methodCall_KW (pl := pl) (thn (he pins s σ H _ I h) λ u s1 ⟨x,H1,I1,rx,a,dx,fs,ex,ea,l,q⟩ => ?_) ht
 subst ex
 obtain rfl : u = Value.ref a := rx
 refine Q7Z I1 ea c hm l ?_
 refine PySem.W.callWith_K (first := [.ref a]) (h₀ := X.base) I.ok.mod.kin hm.kp (thn (ha pos pins s1 σ H1 _ I1 q) λ us s2 ⟨vs,H2,I2,r,q2⟩ => ⟨I2.kIn,?_⟩) hst hpl
 exact Z1Z (us := .ref a :: us) (vs := .ref a :: vs) F hr hb hd hx I2 (.cons rfl r) q2
theorem Z7o {pl : Sem Bool} (he : PE X o ta) (c : Cls X.K C) (hm : Meth X.K C m f) (F : FnOk X.prog X.w X.K X.mg X.base CX k f fd ps sp) (hr : Room k X.A) (hb : Q0A X.K fd ps ds) (hd : Vals dvs ds) (hx : Q6W CX X E)
  (ht : eval (.Call (.Attribute o m apos) [] [] pos) X.env = (do
   let ov <- eval o X.env
   standAt apos.atName
   let (f,first) <- holding [ov] (getMethod ov m pl)
   callWith pos f first (backTo pos (starEach [] X.env)) (backToKw pos (keywordEach [] X.env))) := by rfl) :
  PE X (.Call (.Attribute o m apos) [] [] pos) (Y0v C m sp dvs E ta tNil) := by
 intro pins s σ H Q I h
 refine PySem.W.methodCall_KW (pl := pl) (thn (he pins s σ H _ I h) λ u s1 ⟨x,H1,I1,rx,a,dx,fs,ex,ea,l,q⟩ => ?_) ht
 subst ex
 obtain rfl : u = Value.ref a := rx
 refine Q7Z I1 ea c hm l ?_
 exact PySem.W.callWith_K0 (first := [.ref a]) I1.kIn hm.kp (Z1Z (us := [.ref a]) (vs := [.ref a]) F hr hb hd hx I1 (.cons rfl .nil) q)
structure Mk (K : PySem.W.Frag) (C f : Addr) : Prop where
 makes : PySem.W.makesIn K C = true
 init : PySem.W.findIn K (.ref C) "__init__" = some (some (.ref f))
 fn : PySem.W.isFn K (.ref f) = true
 kp : PySem.W.keepIn K (.ref C) = true
theorem Z7c {pins : List (Addr × Obj)} {σ : St} {H : Hp} {s : Shared} {Q : VK} {us : List Value} {vs : List V} (M : Mk X.K C f) (F : FnOk X.prog X.w X.K X.mg X.base CX k f fd ps sp) (hr : Room (k + 1) X.A) (hb : Q0A X.K fd ps ds) (hd : Vals dvs ds)
  (hx : Q6W CX X E) (I : Inv X pins σ H s) (r : Vals vs us)
  (h : ∀ x dx,H x = none -> H dx = none -> dx ≠ x -> sp (.ref x :: (vs ++ dvs)) (upd (upd H dx (.own x)) x (.ins C dx [])) (λ v H2 => v = .non /\ Q (.ref x) H2) E) :
  wpAny (model X.prog X.w) X.A (call (.ref C) us) (EP X pins σ Q) X.xe s := by
 have hq := h (s.heap.objs.size + 1) s.heap.objs.size (I.hok.fresh (Nat.le_succ _)) (I.hok.fresh (Nat.le_refl _)) (Nat.ne_of_lt (Nat.lt_succ_self _))
 have I2 := Inv.made (C := C) I
 have r2 : Vals (V.ref (s.heap.objs.size + 1) :: (vs ++ dvs)) (Value.ref (s.heap.objs.size + 1) :: (us ++ ds)) := .cons rfl (r.append hd)
 have hl : (Value.ref (s.heap.objs.size + 1) :: us ++ ds).length = ps.length := by
  have e := r2.length
  rw [F.len _ _ _ _ hq] at e
  exact e.symm
 refine wpAny_call (Z7w (f := f) I.kIn M.makes M.init (beq_iff_eq.mp M.fn) (codeAny_mono (F.run _ X.stack _ _ ⟨Value.ref (s.heap.objs.size + 1) :: us,[]⟩ (Value.ref (s.heap.objs.size + 1) :: (us ++ ds)) _ _ E (hr.make C us [])
  (I2.env0.make C us []) (hb _ (Value.ref (s.heap.objs.size + 1) :: us) I2.kIn hl) r2 hq) λ r s' hq' => ?_))
 cases r with
 | error e => exact hx pins σ _ _ e s' I2 hq'
 | ok fl =>
  cases fl with
  | ret u =>
   obtain ⟨v,H',I3,rv,ev,q3⟩ := I2.after hq'
   subst ev
   exact ⟨rv,⟨V.ref (s.heap.objs.size + 1),H',I3,rfl,q3⟩⟩
  | next => exact False.elim hq'
  | brk => exact False.elim hq'
  | cont => exact False.elim hq'
theorem Z4X (M : Mk X.K C f) (F : FnOk X.prog X.w X.K X.mg X.base CX k f fd ps sp) (hr : Room (k + 1) X.A) (hg : Gl X x) (hm : X.mg x = some (.ref C)) (hb : Q0A X.K fd ps ds) (hd : Vals dvs ds) (hx : Q6W CX X E)
  (ha : PA X (e :: es) t) (hdb : (x == ("__debug__" : Str)) = false := by decide) (he : starEach (e :: es) X.env = (false,eval e X.env) :: starEach es X.env := by rfl) (hpl : (backTo pos (starEach es X.env)).any (·.1) = false := by rfl) :
  PE X (.Call (.Name x p) (e :: es) [] pos) (tMake C sp dvs E t) := by
 intro pins s σ H Q I h
 refine wpAny_Call_Name_kw (Q8U I hg hm ?_ hdb)
 refine PySem.W.callWith_K (h₀ := X.base) I.ok.mod.kin M.kp (thn (ha pos pins s σ H _ I h) λ us s1 ⟨vs,H1,I1,r,q⟩ => ⟨I1.kIn,?_⟩) he hpl
 exact Z7c M F hr hb hd hx I1 r q
end
section
variable {X : Cx} {CX : CXT} {k : Nat} {f C : Addr} {fd : FuncData} {ps ks : List Str} {sp : Sp} {E : XK} {x m : Str} {p pos apos kpos : Pos} {e o : Expr} {es : List Expr} {kws : List Keyword} {te ta : TE} {t tk : TA} {nm : Option Str}
variable {g : List Value -> List Value -> List Value} {gV : List V -> List V -> List V}
end
structure Q0k (N P : List Str) (sc : Scope) : Prop where
 kind : sc.kind = .function
 co : sc.isCoroutine = false
 gen : sc.isGenerator = false
 nd : N.Nodup
 pre : N.take P.length = P
 par : ∀ x ∈ P,sc.names.lookup x = some .local \/ sc.names.lookup x = some .cell
 nofree : ∀ y ∈ sc.names,y.2 ≠ .free
theorem Z0r {kindOf : Str -> Option NameKind} {x : Str} : ∀ {binds : List (Str × Value)} {m : Str -> Option Value},(∀ v,(x,v) ∉ binds) -> bindL kindOf binds m x = m x
 | [],_,_ => rfl
 | (n,v) :: r,m,h => by
  unfold bindL
  rw [Z0r λ w hw => h w (List.mem_cons_of_mem _ hw)]
  split
  ·have : x ≠ n := by rintro rfl; exact h v List.mem_cons_self
   simp [this]
  ·rfl
theorem Z0t {kindOf : Str -> Option NameKind} {x : Str} : ∀ {binds : List (Str × Value)} {m : Str -> Option Value},(∀ v,(x,v) ∉ binds) -> bindC kindOf binds m x = m x
 | [],_,_ => rfl
 | (n,v) :: r,m,h => by
  unfold bindC
  rw [Z0t λ w hw => h w (List.mem_cons_of_mem _ hw)]
  split
  ·rfl
  ·have : x ≠ n := by rintro rfl; exact h v List.mem_cons_self
   simp [this]
theorem Z0s {kindOf : Str -> Option NameKind} {x : Str} {v : Value} : ∀ {P : List Str} {vs : List Value} {i : Nat} {m : Str -> Option Value},P.Nodup -> P[i]? = some x -> vs[i]? = some v -> kindOf x = some .local ->
  bindL kindOf (P.zip vs) m x = some v
 | [],_,_,_,_,h,_,_ => by simp at h
 | _ :: _,[],_,_,_,_,h,_ => by simp at h
 | p :: P,w :: vs,0,m,nd,h1,h2,hk => by
  simp at h1 h2; subst h1; subst h2
  show bindL kindOf ((p,w) :: P.zip vs) m p = _
  unfold bindL
  rw [Z0r λ v hv => (List.nodup_cons.mp nd).1 (List.of_mem_zip hv).1,if_pos hk]
  simp
 | p :: P,w :: vs,i + 1,m,nd,h1,h2,hk => by
  show bindL kindOf ((p,w) :: P.zip vs) m x = _
  unfold bindL
  exact Z0s (i := i) (List.nodup_cons.mp nd).2 (by simpa using h1) (by simpa using h2) hk
theorem Z0u {kindOf : Str -> Option NameKind} {x : Str} {v : Value} : ∀ {P : List Str} {vs : List Value} {i : Nat} {m : Str -> Option Value},P.Nodup -> P[i]? = some x -> vs[i]? = some v -> kindOf x ≠ some .local ->
  bindC kindOf (P.zip vs) m x = some v
 | [],_,_,_,_,h,_,_ => by simp at h
 | _ :: _,[],_,_,_,_,h,_ => by simp at h
 | p :: P,w :: vs,0,m,nd,h1,h2,hk => by
  simp at h1 h2; subst h1; subst h2
  show bindC kindOf ((p,w) :: P.zip vs) m p = _
  unfold bindC
  rw [Z0t λ v hv => (List.nodup_cons.mp nd).1 (List.of_mem_zip hv).1,if_neg hk]
  simp
 | p :: P,w :: vs,i + 1,m,nd,h1,h2,hk => by
  show bindC kindOf ((p,w) :: P.zip vs) m x = _
  unfold bindC
  exact Z0u (i := i) (List.nodup_cons.mp nd).2 (by simpa using h1) (by simpa using h2) hk
def start (N : List Str) (vs : List V) : St := vs.map some ++ List.replicate (N.length - vs.length) none
def cxOf (CX : CXT) (P : Program) (w : World) (K : PySem.W.Frag) (mg : Str -> Option Value) (base : Heap) (N : List Str) (qual : Str) (scope : Scope) (f : Addr) (cd : Value) (A : Around) (outer : List Env) (s : Shared) (H : Hp) (E : XK) : Cx where
 prog := P
 w := w
 K := K
 mg := mg
 base := base
 A := A.deeper (envOfC qual scope s.heap.objs.size f cd)
 N := N
 s₀ := s
 H₀ := H
 env := envOfC qual scope s.heap.objs.size f cd
 outer := outer
 stack := envOfC qual scope s.heap.objs.size f cd :: outer
 ex := []
 calm := true
 fn := λ _ => true
 pn := []
 xe := λ e s' => wpAny (model P w) (A.deeper (envOfC qual scope s.heap.objs.size f cd)) (leaving (envOfC qual scope s.heap.objs.size f cd) e) (λ _ s'' => CX outer H s E e s'') (λ e' s'' => CX outer H s E e' s'') s'
theorem Z2E {sc : Scope} {n : Nat} {x : Str} (h : sc.names.lookup x = some .cell) : ∃ c,(cellsFrom n sc.names []).lookup x = some c := by
 have q := PySem.W.cellsFrom_some sc.names n [] (.inl h)
 exact Option.isSome_iff_exists.mp q
theorem Z5x {CX : CXT} {P : Program} {w : World} {K : PySem.W.Frag} {mg : Str -> Option Value} {base : Heap} {N ps : List Str} {qual : Str} {scope : Scope} {f : Addr} {cd : Value} {A : Around} {outer : List Env} {s s1 : Shared} {H : Hp} {E : XK} {us : List Value} {vs : List V}
  (S : Q0k N ps scope) (hd : A.handled = none) (e0 : Env0 P w K mg base A outer s H) (hl : vs.length = ps.length) (r : Vals vs us)
  (x : InCallC s s.heap.objs.size (bindL (envOfC qual scope s.heap.objs.size f cd).kindOf (ps.zip us) λ _ => none) (cellsFrom (s.heap.objs.size + 1) scope.names []) (bindC (envOfC qual scope s.heap.objs.size f cd).kindOf (ps.zip us) λ _ => none) s1) :
  Inv (cxOf CX P w K mg base N qual scope f cd A outer s H E) [] (start N vs) H s1 := by
 have hpl : ps.length <= N.length := by have := congrArg List.length S.pre; rw [List.length_take] at this; omega
 obtain ⟨h1,tk,rfl,hk⟩ := x.done
 have noA : ∀ b : Addr,b ∉ (cxOf CX P w K mg base N qual scope f cd A outer s H E).ex := λ b z => absurd (show b ∈ ([] : List Addr) from z) (by simp)
 refine ⟨⟨e0.mod,S.kind,rfl,rfl,Nat.le_refl _,λ y z c h1 h2 => ?_,λ y hy => ?_,λ y c _ h => ?_,λ _ => hd,Around.frames_deeper e0.frames,.inr ⟨rfl,rfl⟩,λ b z => absurd z (noA b),e0.bs,e0.bsz,λ b _ _ => noA b,λ b z => absurd z (noA b),e0.funs,e0.frf⟩,
  rfl,e0.bare,Un.kept hk,⟨_,x.toInCall.ns,λ i y v h1 h2 h3 => ?_⟩,λ y c h => ⟨_,x.cell y c h⟩,e0.hok.fresh (Nat.le_refl _),λ y c h => ?_,λ p hp => absurd (show p ∈ ([] : List (Addr × Obj)) from hp) (by simp),e0.hok.kept hk,?_⟩
 ·exact name_of_addr x.apart (PySem.mem_of_lookup h1) (PySem.mem_of_lookup h2)
 ·have hy : scope.names.lookup y = some .cell \/ scope.names.lookup y = some .free := hy
  rcases hy with hy | hy
  ·exact Z2E hy
  ·exact absurd rfl (S.nofree _ (PySem.mem_of_lookup hy))
 ·exact Nat.le_of_lt (x.above y c (PySem.mem_of_lookup h))
 ·have hi : i < vs.length := by
   unfold start at h2
   by_cases hi : i < vs.length
   ·exact hi
   ·rw [List.getElem?_append_right (by simpa using hi)] at h2
    rw [List.getElem?_replicate] at h2
    split at h2 <;> cases h2
  have ha : vs[i]? = some v := by
   unfold start at h2
   rw [List.getElem?_append_left (by simpa using hi),List.getElem?_map] at h2
   cases e : vs[i]? with
   | none => rw [e] at h2; cases h2
   | some a => rw [e] at h2; cases h2; rfl
  obtain ⟨u,hu,rv⟩ := r.get ha
  have hp : ps[i]? = some y := by
   rw [<- S.pre,List.getElem?_take_of_lt wF]; exact h1
  have ndP : ps.Nodup := by rw [<- S.pre]; exact S.nd.sublist (List.take_sublist _ _)
  refine ⟨u,rv,?_⟩
  rcases S.par y (List.mem_of_getElem? hp) with k | k
  ·exact .inl ⟨k,Z0s ndP hp hu k⟩
  ·obtain ⟨c,e⟩ := Z2E (n := s.heap.objs.size + 1) k
   refine .inr ⟨.inl k,c,e,?_⟩
   have q := x.cell y c e
   rw [Z0u ndP hp hu (by show scope.names.lookup y ≠ _; rw [k]; decide)] at q
   exact q
 ·exact e0.hok.fresh (Nat.le_of_lt (x.above y c (PySem.mem_of_lookup h)))
 ·unfold start
  show _ = N.length
  rw [List.length_append,List.length_map,List.length_replicate]
  omega
theorem Y1q {CX : CXT} {P : Program} {w : World} {K : PySem.W.Frag} {mg : Str -> Option Value} {base : Heap} {k : Nat} {f : Addr} {name qual : Str} {params : Arguments} {body : List Stmt} {scope : Scope} {dV kV doc pm cdv ct oc : Value} {an od : Option Addr}
  {osl : Array (Option Value)} {N ps : List Str} {sp : Sp} (lk : K.lookup f = some ⟨oc,od,.func (PySem.W.fnOf name qual params body scope dV kV doc pm an cdv ct),osl⟩) (hcd : PySem.W.codeIn K cdv qual = true) (S : Q0k N ps scope)
  (len : ∀ vs H Q E,sp vs H Q E -> vs.length = ps.length)
  (hbody : ∀ (A : Around) (outer : List Env) (s : Shared) (H : Hp) (vs : List V) (Q : VK) (E : XK),Room k (A.deeper (envOfC qual scope s.heap.objs.size f cdv)) -> sp vs H Q E ->
   ∃ t,PSs (cxOf CX P w K mg base N qual scope f cdv A outer s H E) body t /\ t { nx := λ _ H' => Q .non H',rt := Q } (start N vs) H) :
  FnOk P w K mg base CX (k + 1) f (PySem.W.fnOf name qual params body scope dV kV doc pm an cdv ct) ps sp := by
 refine ⟨len,λ A outer s H args us vs Q E hr e0 hb r hsp => ?_⟩
 have hl := len _ _ _ _ hsp
 have KX : K.In s.heap := e0.mod.kin.keeps λ b o e => (e0.bs b o e).1
 have lim : s.heap.NoLimit := e0.mod.nolimit.keeps λ b o e => (e0.bs b o e).1
 have hkind : ∀ y ∈ ps.zip us,scope.names.lookup y.1 = some .local \/ (scope.names.lookup y.1 = some .cell /\ ((cellsFrom (s.heap.objs.size + 1) scope.names []).lookup y.1).isSome = true) := λ ⟨n,v⟩ hy => by
  rcases S.par n (List.of_mem_zip hy).1 with q | q
  ·exact .inl q
  ·exact .inr ⟨q,PySem.W.cellsFrom_some _ _ _ (.inl q)⟩
 refine codeAny_call_function hr.depth (KX _ _ lk) rfl S.co S.gen rfl (PySem.W.codeRec_of KX hcd) (hb _ _ _ _ ?_)
 refine wpAny_newFunctionEnv_cells S.kind hkind λ env he s1 x => ?_
 subst he
 refine ⟨lim.keeps x.toInCall.keep,codeAny_func ?_⟩
 obtain ⟨t,ht,hq⟩ := hbody A outer s H vs Q E (hr.deeper _) hsp
 have I : Inv (cxOf CX P w K mg base N qual scope f cdv A outer s H E) [] (start N vs) H s1 := Z5x S hr.hd e0 hl r x
 refine wpAny_mono (ht [] s1 (start N vs) H _ I hq) (λ fl s' hs => ?_) λ e s' hs => hs
 have fin : ∀ {σ' : St} {H' : Hp} {v : V} {u : Value},Inv (cxOf CX P w K mg base N qual scope f cdv A outer s H E) [] σ' H' s' -> RelV v u -> Q v H' -> CE outer P w H s Q u s' :=
  λ {σ' H' v u} J rv q => ⟨v,H',J.os,J.bare,J.base,J.hok,rv,q⟩
 cases fl with
 | ret u =>
  obtain ⟨v,σ',H',J,rv,q⟩ := hs
  exact fin J rv q
 | next =>
  obtain ⟨σ',H',J,q⟩ := hs
  exact fin (v := V.non) (u := Value.none) J rfl q
 | brk =>
  obtain ⟨_,_,_,q⟩ := hs
  exact False.elim q
 | cont =>
  obtain ⟨_,_,_,q⟩ := hs
  exact False.elim q
end L2
namespace L2
open PySem PySem.Spec PyProof.Rows
section
variable {X : Cx} {x : Str} {p pos : Pos} {e : Expr} {es : List Expr} {t : TA} {id T : String} {r : List V -> Hp -> VK -> Prop}
def tCB (r : List V -> Hp -> VK -> Prop) (t : TA) : TE := λ σ H Q => t σ H λ vs H1 => r vs H1 Q
theorem Z2g (hc : Q7e X (.builtin id) r) (hg : Gl X x) (hm : X.mg x = none) (hv : bootBuiltins x = some (.builtin id)) (ha : PA X (e :: es) t) (hn : x ≠ "__name__" := by decide) (hdb : (x == ("__debug__" : Str)) = false := by decide)
  (he : starEach (e :: es) X.env = (false,eval e X.env) :: starEach es X.env := by rfl) (hpl : (backTo pos (starEach es X.env)).any (·.1) = false := by rfl) : PE X (.Call (.Name x p) (e :: es) [] pos) (tCB r t) := by
 intro pins s σ H Q I h
 refine wpAny_Call_Name_kw (Q5b I hg hm hv ?_ hn hdb)
 exact PyProof.Rows.callWith_builtin1 (thn (ha pos pins s σ H _ I h) λ us s1 ⟨vs,H1,I1,r1,q1⟩ => hc pins s1 σ H1 vs us Q I1 r1 q1) he hpl
theorem Q9S (hc : Q7e X (.type T) r) (hg : Gl X x) (hm : X.mg x = none) (hv : bootBuiltins x = some (.type T)) (ha : PA X (e :: es) t) (hn : x ≠ "__name__" := by decide) (hdb : (x == ("__debug__" : Str)) = false := by decide)
  (he : starEach (e :: es) X.env = (false,eval e X.env) :: starEach es X.env := by rfl) (hpl : (backTo pos (starEach es X.env)).any (·.1) = false := by rfl) : PE X (.Call (.Name x p) (e :: es) [] pos) (tCB r t) := by
 intro pins s σ H Q I h
 refine wpAny_Call_Name_kw (Q5b I hg hm hv ?_ hn hdb)
 exact PyProof.Rows.callWith_type1 (thn (ha pos pins s σ H _ I h) λ us s1 ⟨vs,H1,I1,r1,q1⟩ => hc pins s1 σ H1 vs us Q I1 r1 q1) he hpl
end
end L2
namespace HT
open PySem PyProof.Rows
def lexLt : List Int -> List Int -> Bool
 | [],[] => false
 | [],_ :: _ => true
 | _ :: _,[] => false
 | x :: xs,y :: ys => if x = y then lexLt xs ys else decide (x < y)
section
open PySem.SeqAt
open PySem.AutoSeq1 (wpAny_loadPart')
open PySem.MeetsSeq PySem.MeetsSeq2 PySem.MeetsSeq3
end
section
variable {prog : Program} {w : World} {A : Around} {E : Value -> Shared -> Prop} {s : Shared}
theorem cat_tup {t b : Addr} {vs ws : List Value} {Q : Value -> Shared -> Prop} (ht : IsTup s.heap t vs.toArray) (hb : IsTup s.heap b ws.toArray) (hv : vs ≠ [])
  (h1 : ws = [] -> Q (.ref t) s) (h2 : ws ≠ [] -> Q (.ref s.heap.objs.size) { s with heap := s.heap.push { cls := .type "tuple",data := .seq (vs ++ ws).toArray } })
  (hsz : vs.length + ws.length <= sizeLine) : wpAny (model prog w) A (binaryOp .Add (.ref t) (.ref b)) Q E s := by
 obtain ⟨⟨cls,dd,data,sl⟩,ho,hc,n,hd⟩ := id ht
 obtain ⟨⟨cls2,dd2,data2,sl2⟩,ho2,hc2,n2,hd2⟩ := id hb
 simp only at hc hd hc2 hd2
 subst hc hd hc2 hd2
 have e : vs.toArray ++ ws.toArray = (vs ++ ws).toArray := by simp
 by_cases hw : ws = []
 ·exact concat_meets ⟨_,ho,rfl⟩ ⟨_,ho2,rfl⟩ noFill_tuple_add seq_tuple_add PySem.F.slot_tuple_add PySem.F.entry_tuple_add (PySem.F.args_tuple_add_2 _ _)
   (tuple_addW1 t b vs.toArray ws.toArray n n2 dd dd2 sl sl2 (by simpa using hv) (by simp [hw])) ⟨ho,ho2,h1 hw⟩
 ·refine concat_meets ⟨_,ho,rfl⟩ ⟨_,ho2,rfl⟩ noFill_tuple_add seq_tuple_add PySem.F.slot_tuple_add PySem.F.entry_tuple_add (PySem.F.args_tuple_add_2 _ _)
   (tuple_addW2 t b vs.toArray ws.toArray n n2 dd dd2 sl sl2 (by simpa using hv) (by simpa using hw) (by rw [List.size_toArray,List.size_toArray]; exact hsz)) ⟨ho,ho2,?_⟩
  rw [e]
  exact h2 hw
def sIx (n d : Nat) : Option Int -> Nat
 | none => d
 | some v => if v < 0 then (v + (n : Int)).toNat else min v.toNat n
theorem sIx_none (n d : Nat) : sIx n d none = d := rfl
theorem sIx_nat (n d k : Nat) : sIx n d (some (k : Int)) = min k n := by
 show (if (k : Int) < 0 then ((k : Int) + (n : Int)).toNat else min (k : Int).toNat n) = min k n
 rw [if_neg wF,Int.toNat_natCast]
theorem Y0C (n d : Nat) (hd : d <= n) (o : Option Int) : sIx n d o <= n := by
 cases o with
 | none => exact hd
 | some v =>
  show (if v < 0 then (v + (n : Int)).toNat else min v.toNat n) <= n
  by_cases hv : v < 0
  ·rw [if_pos hv]; omega
  ·rw [if_neg hv]; exact Nat.min_le_right _ _
theorem Z6b (v : Int) (n d : Nat) : (if v < 0 then max (v + (n : Int)) 0 else min v (n : Int)) = ((sIx n d (some v) : Nat) : Int) := by
 show (if v < 0 then max (v + (n : Int)) 0 else min v (n : Int)) = (((if v < 0 then (v + (n : Int)).toNat else min v.toNat n) : Nat) : Int)
 by_cases hv : v < 0
 ·simp only [if_pos hv]; omega
 ·simp only [if_neg hv]; omega
theorem Z3N (lo hi : Option Int) (n : Nat) : Builtin.Slice.sliceAdjust lo hi 1 (n : Int) = (((sIx n 0 lo : Nat) : Int),((sIx n n hi : Nat) : Int)) := by
 have h1 : ¬ ((1 : Int) < 0) := by omega
 unfold Builtin.Slice.sliceAdjust
 simp only [h1,if_false]
 refine Prod.ext ?_ ?_
 ·cases lo with
  | none => rfl
  | some v => exact Z6b v n 0
 ·cases hi with
  | none => rfl
  | some v => exact Z6b v n n
theorem Z3h (i j : Nat) : Builtin.Slice.slicePlaces (i : Int) (j : Int) 1 = j - i := by
 unfold Builtin.Slice.slicePlaces
 have h1 : (1 : Int) > 0 := by omega
 simp only [h1,if_true,Int.ediv_one]
 split <;> omega
theorem Q7P {v : Value} {o : Option Int} {Q : Option Int -> Shared -> Prop} (p : IsPart v o) (h : Q o s) : wpAny (model prog w) A (Builtin.Slice.slicePartIndex v) Q E s := by
 cases p with
 | none => exact slicePart_none h
 | int i t => exact slicePart_int h
theorem sliceApplied_gen {sl : Addr} {vl vu : Value} {lo hi : Option Int} {n : Nat} {Q : Int × Int × Nat -> Shared -> Prop} (hs : s.heap.IsSliceOf sl vl vu .none) (pl : IsPart vl lo) (pu : IsPart vu hi)
  (h : Q (((sIx n 0 lo : Nat) : Int),1,sIx n n hi - sIx n 0 lo) s) : wpAny (model prog w) A (Builtin.Slice.sliceApplied (.ref sl) (pure (n : Int))) Q E s := by
 obtain ⟨os,hos,hcs,hds⟩ := id hs
 unfold Builtin.Slice.sliceApplied Builtin.Slice.sliceFields
 refine wpAny_bind (wpAny_bind (wpAny_field hos hds (x := vl) rfl (wpAny_bind (wpAny_field hos hds (x := vu) rfl (wpAny_bind (wpAny_field hos hds (x := .none) rfl (wpAny_pure ?_)))))))
 refine wpAny_bind (slicePart_none ?_)
 show wpAny _ _ (if ((1 : Int) == 0) = true then _ else _) _ _ s
 rw [if_neg wE]
 refine wpAny_bind (Q7P pl (wpAny_bind (Q7P pu (wpAny_bind (wpAny_pure ?_)))))
 show wpAny _ _ (match Builtin.Slice.sliceAdjust lo hi 1 (n : Int) with | (lo,hi) => pure (lo,(1 : Int),Builtin.Slice.slicePlaces lo hi 1)) _ _ s
 rw [Z3N lo hi n]
 show wpAny _ _ (pure (((sIx n 0 lo : Nat) : Int),(1 : Int),Builtin.Slice.slicePlaces ((sIx n 0 lo : Nat) : Int) ((sIx n n hi : Nat) : Int) 1)) _ _ s
 rw [Z3h]
 exact wpAny_pure h
theorem Z7l (xs : Array Value) (i k : Nat) : ((List.range k).filterMap λ (m : Nat) => xs[((i : Int) + (m : Int) * 1).toNat]?).toArray = ((xs.toList.drop i).take k).toArray := by
 have e : (λ (m : Nat) => xs[((i : Int) + (m : Int) * 1).toNat]?) = λ m => xs[i + m]? := by
  funext m
  have : ((i : Int) + (m : Int) * 1).toNat = i + m := by omega
  rw [this]
 rw [e]
 have := pick_run xs i k
 rw [List.filterMap_map] at this
 have e2 : ((λ x => xs[x]?) ∘ λ x => i + x) = λ m => xs[i + m]? := rfl
 rw [e2] at this
 rw [this]
theorem getItem_tuple_cut {t sl : Addr} {items : Array Value} {vl vu : Value} {lo hi : Option Int} {Q : Value -> Shared -> Prop} (ht : IsTup s.heap t items) (hs : s.heap.IsSliceOf sl vl vu .none) (pl : IsPart vl lo) (pu : IsPart vu hi)
  (hw : ¬ (sIx items.size 0 lo = 0 /\ sIx items.size items.size hi = items.size))
  (h : Q (.ref s.heap.objs.size) { s with heap := s.heap.push { cls := .type "tuple",data := .seq ((items.toList.drop (sIx items.size 0 lo)).take (sIx items.size items.size hi - sIx items.size 0 lo)).toArray } })
  (hsz : items.size <= sizeLine) : wpAny (model prog w) A (getItem (.ref t) (.ref sl)) Q E s := by
 have htake : sizeOk (.seq ((items.toList.drop (sIx items.size 0 lo)).take (sIx items.size items.size hi - sIx items.size 0 lo)).toArray) := by
  show ((items.toList.drop (sIx items.size 0 lo)).take (sIx items.size items.size hi - sIx items.size 0 lo)).toArray.size <= sizeLine
  rw [List.size_toArray,List.length_take,List.length_drop,Array.length_toList]
  omega
 have hj : sIx items.size items.size hi <= items.size := Y0C _ _ (Nat.le_refl _) hi
 obtain ⟨os,hos,hcs,hds⟩ := id hs
 have hTs : s.TypeIs (.ref sl) "slice" := ⟨os,hos,hcs⟩
 unfold getItem
 try with_reducible refine wpAny_holding ?_
 first | refine wpAny_bind (wpAny_pure ?_) | skip
 refine wpAny_bind (wpAny_sequenceKey ht.typeIs wE ?_)
 refine wpAny_bind (wpAny_callSpecial?_slot (name := Str.ofString "__getitem__") ht.typeIs PyProof.Rows.slot_tuple_getitem
  (wpAny_call_entry PyProof.Rows.slot_tuple_getitem ht.typeIs entry_tuple_getitem ?_ (args_tuple_getitem _ _)))
 show wpAny _ _ (Builtin.Tuple.tupleItemsOf (.ref t) >>= _) _ _ s
 refine wpAny_bind (tupleItemsOf_ ht ?_)
 refine wpAny_bind (wpAny_typeOf hTs ?_)
 rw [if_pos wE]
 refine wpAny_bind (sliceApplied_gen hs pl pu ?_)
 have hno : ¬ ((((sIx items.size 0 lo : Nat) : Int) == 0 && (1 : Int) == 1 && (sIx items.size items.size hi - sIx items.size 0 lo) == items.size) = true) := by
  intro q
  rw [Bool.and_eq_true,Bool.and_eq_true] at q
  have q1 : ((sIx items.size 0 lo : Nat) : Int) = 0 := eq_of_beq q.1.1
  have q2 : sIx items.size items.size hi - sIx items.size 0 lo = items.size := eq_of_beq q.2
  exact hw ⟨by omega,by omega⟩
 show wpAny _ _ (if (((sIx items.size 0 lo : Nat) : Int) == 0 && (1 : Int) == 1 && (sIx items.size items.size hi - sIx items.size 0 lo) == items.size) = true then _ else _) _ _ s
 rw [if_neg hno,Z7l]
 first
  | exact wpAny_bind (m := Builtin.Tuple.tupleExact _) (wpAny_newObj_type (wpAny_pure ⟨_,rfl,wpAny_pure h⟩) htake)
  | exact wpAny_bind (m := Builtin.Tuple.tupleExact _) (wpAny_newObj_type (wpAny_bind (wpAny_pure (wpAny_pure ⟨_,rfl,wpAny_pure h⟩))) htake)
  | exact wpAny_bind (wpAny_bind (m := Builtin.Tuple.tupleExact _) (wpAny_newObj_type (wpAny_pure (wpAny_pure ⟨_,rfl,wpAny_pure h⟩)) htake))
  | exact wpAny_bind (wpAny_bind (m := Builtin.Tuple.tupleExact _) (wpAny_newObj_type (wpAny_pure ⟨_,rfl,wpAny_pure h⟩) htake))
end
end HT
namespace L2
open PySem PySem.Spec PyProof.Rows
abbrev TO := St -> Hp -> (Option Int -> Hp -> Prop) -> Prop
def PO (X : Cx) (e : Option Expr) (t : TO) : Prop :=
 ∀ (pins : List (Addr × Obj)) (s : Shared) (σ : St) (H : Hp) (Q : Option Int -> Hp -> Prop),Inv X pins σ H s -> t σ H Q ->
  wpAny (model X.prog X.w) X.A (evalPart e X.env) (λ u s' => ∃ o H',Inv X pins σ H' s' /\ IsPart u o /\ Q o H') X.xe s
def Z8L : TO := λ _ H Q => Q none H
def tPart (t : TE) : TO := λ σ H Q => t σ H λ x H1 => ∃ i,x = .int i /\ Q (some i) H1
section
variable {X : Cx} {e : Expr} {te : TE} {lo hi : Option Expr} {tl th : TO} {pos p2 : Pos}
theorem Z9j : PO X none Z8L := by
 intro pins s σ H Q I h
 rw [evalPart_none]
 exact wpAny_pure ⟨none,H,I,.none,h⟩
theorem Z9i (h : PE X e te) : PO X (some e) (tPart te) := by
 intro pins s σ H Q I hw
 rw [evalPart_some]
 refine thn (h pins s σ H _ I hw) λ u s1 ⟨x,H1,I1,r1,q1⟩ => ?_
 obtain ⟨i,rfl,q⟩ := q1
 obtain ⟨t,rfl⟩ := r1
 exact ⟨some i,H1,I1,.int i t,q⟩
def SlR (X : Cx) (r : V -> Option Int -> Option Int -> Hp -> VK -> Prop) : Prop :=
 ∀ (pins : List (Addr × Obj)) (s : Shared) (σ : St) (H : Hp) (x : V) (v vl vu : Value) (lo hi : Option Int) (sl : Addr) (Q : VK),Inv X pins σ H s -> RelV x v -> s.heap.IsSliceOf sl vl vu .none -> IsPart vl lo -> IsPart vu hi -> r x lo hi H Q ->
  ∃ T id,typeLookup (.type T) "__getitem__" = pure (some (.builtin id)) /\ s.TypeIs v T /\ wpAny (model X.prog X.w) X.A (getItem v (.ref sl)) (EP X pins σ Q) X.xe s
theorem SlR.or {r r' : V -> Option Int -> Option Int -> Hp -> VK -> Prop} (h : SlR X r) (h' : SlR X r') : SlR X (λ x lo hi H Q => r x lo hi H Q \/ r' x lo hi H Q) := by
 intro pins s σ H x v vl vu lo hi sl Q I rx hs pl pu q
 rcases q with q | q
 ·exact h pins s σ H x v vl vu lo hi sl Q I rx hs pl pu q
 ·exact h' pins s σ H x v vl vu lo hi sl Q I rx hs pl pu q
def tSl (r : V -> Option Int -> Option Int -> Hp -> VK -> Prop) (te : TE) (tl th : TO) : TE := λ σ H Q => te σ H λ x H1 => tl σ H1 λ l H2 => th σ H2 λ u H3 => r x l u H3 Q
theorem Z7n {r : V -> Option Int -> Option Int -> Hp -> VK -> Prop} (hr : SlR X r) (he : PE X e te) (hl : PO X lo tl) (hu : PO X hi th) : PE X (.Subscript e (.Slice lo hi none p2) pos) (tSl r te tl th) := by
 intro pins s σ H Q I h
 refine Subscript_ (thn (he pins s σ H _ I h) λ v s1 ⟨x,H1,I1,r1,q1⟩ => ?_)
 refine wpAny_Slice (thn (hl pins s1 σ H1 _ I1 q1) λ vl s2 ⟨l,H2,I2,pl,q2⟩ => thn (hu pins s2 σ H2 _ I2 q2) λ vu s3 ⟨u,H3,I3,pu,q3⟩ => ?_)
 rw [evalPart_none]
 refine wpAny_pure ?_
 have I4 : Inv X pins σ H3 { s3 with heap := s3.heap.push { cls := .type "slice",data := .fields #[vl,vu,.none] } } := I3.kept (t' := s3.toks) λ b ob q => Heap.get?_push_of_some _ q
 obtain ⟨T,id,hT,ht,hg⟩ := hr pins { s3 with heap := s3.heap.push { cls := .type "slice",data := .fields #[vl,vu,.none] } } σ H3 x v vl vu l u s3.heap.objs.size Q I4 r1 (Heap.IsSliceOf.new ..) pl pu q3
 show wpAny (model X.prog X.w) X.A (subscriptTail e (.Slice lo hi none p2) v (.ref s3.heap.objs.size)) (EP X pins σ Q) X.xe { s3 with heap := s3.heap.push { cls := .type "slice",data := .fields #[vl,vu,.none] } }
 exact tail_any (ops := [.ref s3.heap.objs.size,v]) ht hT hg (by with_unfolding_all rfl)
def cutV (xs : List V) (lo hi : Option Int) : List V := (xs.drop (HT.sIx xs.length 0 lo)).take (HT.sIx xs.length xs.length hi - HT.sIx xs.length 0 lo)
theorem Z1u (xs : List V) (lo hi : Option Int) : (cutV xs lo hi).length <= xs.length := by
 unfold cutV
 rw [List.length_take,List.length_drop]
 omega
def rSlT (K : PySem.W.Frag) : V -> Option Int -> Option Int -> Hp -> VK -> Prop := λ x lo hi H Q => ∃ a xs,x = .ref a /\ SqT K H a xs /\
 ¬ (HT.sIx xs.length 0 lo = 0 /\ HT.sIx xs.length xs.length hi = xs.length) /\ ∀ p,H p = none -> Q (.ref p) (upd H p (.tup (cutV xs lo hi)))
theorem Y0A : SlR X (rSlT X.K) := by
 intro pins s σ H x v vl vu lo hi sl Q I rx hs pl pu h
 obtain ⟨a,xs,rfl,hx,hw,q⟩ := h
 cases rx
 obtain ⟨its,r,ht,hz⟩ := I.tuple hx
 have hlen : its.toArray.size = xs.length := by rw [List.size_toArray]; exact r.length.symm
 refine ⟨"tuple",_,PyProof.Rows.slot_tuple_getitem.lookup,ht.typeIs,?_⟩
 refine HT.getItem_tuple_cut ht hs pl pu (by rw [hlen]; exact hw) ?_ (by rw [hlen]; exact hz)
 rw [hlen]
 refine ⟨.ref s.heap.objs.size,_,I.laid (t' := s.toks) (o := .tup (cutV xs lo hi)) (λ b ob q => Heap.get?_push_of_some _ q) (Nat.le_refl _) ?_,rfl,q _ (I.hok.fresh (Nat.le_refl _))⟩
 exact ⟨Nat.le_trans (Z1u xs lo hi) hz,_,(r.drop (HT.sIx xs.length 0 lo)).take (HT.sIx xs.length xs.length hi - HT.sIx xs.length 0 lo),TupN.new _ _⟩
def rCatT (K : PySem.W.Frag) : R2 := λ x y H Q => ∃ a b xs ys,x = .ref a /\ y = .ref b /\ SqT K H a xs /\ SqT K H b ys /\ xs ≠ [] /\ xs.length + ys.length <= sizeLine /\
 (ys = [] -> Q (.ref a) H) /\ (ys ≠ [] -> ∀ p,H p = none -> Q (.ref p) (upd H p (.tup (xs ++ ys))))
theorem Vals.nil_iff {xs : List V} {us : List Value} (r : Vals xs us) : us = [] ↔ xs = [] := by
 cases r with
 | nil => simp
 | cons _ _ => simp
theorem Z9s : OpR X (binaryOp .Add) (rCatT X.K) := by
 intro pins s σ H x y v u Q I rx ry h
 obtain ⟨a,b,xs,ys,rfl,rfl,ha,hb,hx,hz,q1,q2⟩ := h
 cases rx
 cases ry
 obtain ⟨its,r1,p1,_⟩ := I.tuple ha
 obtain ⟨its2,r2,p2,_⟩ := I.tuple hb
 refine HT.cat_tup p1 p2 (λ z => hx (r1.nil_iff.mp z)) (λ z => ⟨.ref a,H,I,rfl,q1 (r2.nil_iff.mp z)⟩) (λ z => ?_) (by rw [<- r1.length,<- r2.length]; exact hz)
 refine ⟨.ref s.heap.objs.size,_,I.laid (t' := s.toks) (o := .tup (xs ++ ys)) (λ b ob q => Heap.get?_push_of_some _ q) (Nat.le_refl _) ?_,rfl,q2 (λ w => z (r2.nil_iff.mpr w)) _ (I.hok.fresh (Nat.le_refl _))⟩
 exact ⟨by rw [List.length_append]; exact hz,_,r1.append r2,TupN.new _ _⟩
end
end L2
namespace L2
open PySem PySem.Spec PyProof.Rows
def ixN (n : Nat) (i : Int) : Option Nat := if 0 <= i then (if i < n then some i.toNat else none) else if -(n : Int) <= i then some (i + n).toNat else none
def atI {α : Type} (xs : List α) (i : Int) : Option α := (ixN xs.length i).bind λ j => xs[j]?
theorem Z9D {n : Nat} {i : Int} {j : Nat} (h : ixN n i = some j) : seqIndex? i n = some j /\ j < n /\ -(n : Int) <= i /\ i < n := by
 unfold ixN at h
 by_cases h0 : 0 <= i
 ·rw [if_pos h0] at h
  by_cases h1 : i < n
  ·rw [if_pos h1] at h
   have e : i.toNat = j := Option.some.inj h
   exact ⟨by rw [seqIndex_of h0 h1,e],by omega,by omega,h1⟩
  ·rw [if_neg h1] at h; cases h
 ·rw [if_neg h0] at h
  by_cases h1 : -(n : Int) <= i
  ·rw [if_pos h1] at h
   have e : (i + n).toNat = j := Option.some.inj h
   exact ⟨by rw [seqIndex_neg wF h1,e],by omega,h1,by omega⟩
  ·rw [if_neg h1] at h; cases h
theorem Z6o {α : Type} {xs : List α} {i : Int} {v : α} (h : atI xs i = some v) : ∃ j,seqIndex? i xs.length = some j /\ xs[j]? = some v /\ j < xs.length /\ -(xs.length : Int) <= i /\ i < xs.length := by
 unfold atI at h
 cases e : ixN xs.length i with
 | none => rw [e] at h; cases h
 | some j =>
  rw [e] at h
  obtain ⟨h1,h2,h3,h4⟩ := Z9D e
  exact ⟨j,h1,h,h2,h3,h4⟩
theorem Q2S {α : Type} {xs : List α} {j : Nat} {v : α} (h : xs[j]? = some v) : atI xs (j : Int) = some v := by
 have hj : j < xs.length := (List.getElem?_eq_some_iff.mp h).1
 have e : ixN xs.length (j : Int) = some j := by
  unfold ixN
  rw [if_pos wF,if_pos wF]; simp
 unfold atI; rw [e]; exact h
def Z6t (b : Expr) : Prop := ∀ o i,subscripted b false o i = operate [o,i] (getItem o i)
def IxR (X : Cx) (r : R2) : Prop :=
 ∀ (value slice : Expr) (pins : List (Addr × Obj)) (s : Shared) (σ : St) (H : Hp) (x y : V) (v u : Value) (Q : VK),Inv X pins σ H s -> RelV x v -> RelV y u -> r x y H Q ->
  subscripted slice false v u = operate [v,u] (getItem v u) -> wpAny (model X.prog X.w) X.A (subscriptTail value slice v u) (EP X pins σ Q) X.xe s
def MtR (X : Cx) (id : String) (r : V -> List V -> Hp -> VK -> Prop) : Prop :=
 ∀ (pins : List (Addr × Obj)) (s : Shared) (σ : St) (H : Hp) (x : V) (xs : List V) (v : Value) (us : List Value) (Q : VK),Inv X pins σ H s -> RelV x v -> Vals xs us -> r x xs H Q ->
  wpAny (model X.prog X.w) X.A (call (.builtin id) (v :: us)) (EP X pins σ Q) X.xe s
section
variable {X : Cx} {a b : Expr} {ta tb : TE} {pos : Pos}
def rIxL (K : PySem.W.Frag) : R2 := λ x y H Q => ∃ p xs i v,x = .ref p /\ y = .int i /\ SqL K H p xs /\ atI xs i = some v /\ Q v H
def rIxT (K : PySem.W.Frag) : R2 := λ x y H Q => ∃ p xs i v,x = .ref p /\ y = .int i /\ SqT K H p xs /\ atI xs i = some v /\ Q v H
theorem Z9C : IxR X (rIxL X.K) := by
 intro value slice pins s σ H x y v u Q I rx ry h hs
 obtain ⟨p,xs,i,z,rfl,rfl,hq,he,q⟩ := h
 cases rx
 obtain ⟨t,rfl⟩ := ry
 obtain ⟨its,r,pl,hz⟩ := I.list hq
 obtain ⟨j,h1,h2,h3,h4,h5⟩ := Z6o he
 obtain ⟨w,ew,rw'⟩ := r.get h2
 have hl := r.length
 have hn := Z2m
 have fin : EP X pins σ Q w s := ⟨z,H,I,rw',q⟩
 by_cases h0 : 0 <= i
 ·have hj : i.toNat = j := by
   rw [seqIndex_of h0 h5] at h1
   exact Option.some.inj h1
  exact item_listR pl.isList h0 wF (by rw [hj]; simpa using ew) fin hs
 ·have hj : (i + (its.toArray.size : Int)).toNat = j := by
   rw [seqIndex_neg wF h4] at h1
   rw [List.size_toArray,<- hl]
   exact Option.some.inj h1
  exact subscriptTail_builtinR (x := w) pl.isList.typeIs slot_list_getitem.lookup
   (wpAny_getItem_list_neg (Q := λ r s' => r = w /\ EP X pins σ Q r s') pl.isList wF (by rw [List.size_toArray] <;> omega) wF (by rw [hj]; simpa using ew) ⟨rfl,fin⟩) hs
theorem Y1l : IxR X (rIxT X.K) := by
 intro value slice pins s σ H x y v u Q I rx ry h hs
 obtain ⟨p,xs,i,z,rfl,rfl,hq,he,q⟩ := h
 cases rx
 obtain ⟨t,rfl⟩ := ry
 obtain ⟨its,r,pl,hz⟩ := I.tuple hq
 obtain ⟨j,h1,h2,h3,h4,h5⟩ := Z6o he
 obtain ⟨w,ew,rw'⟩ := r.get h2
 have hl := r.length
 have hn := Z2m
 have fin : EP X pins σ Q w s := ⟨z,H,I,rw',q⟩
 exact subscriptTail_builtinR (x := w) pl.typeIs slot_tuple_getitem.lookup
  (getItem_tuple (j := j) (Q := λ r s' => r = w /\ EP X pins σ Q r s') pl wF wF (by rw [List.size_toArray,<- hl]; exact h1) (by simpa using ew) ⟨rfl,fin⟩) hs
theorem Z0p : Q7e X (.builtin "len") (λ xs H Q => ∃ p ys,xs = [.ref p] /\ (SqL X.K H p ys \/ SqT X.K H p ys) /\ Q (.int ys.length) H) := by
 intro pins s σ H xs us Q I r h
 obtain ⟨p,ys,rfl,hq,q⟩ := h
 obtain ⟨u,rfl,rx⟩ := Q7f r
 cases rx
 have hn := Z2m
 rcases hq with hq | hq
 ·obtain ⟨its,r',pl,hz⟩ := I.list hq
  have hlen := r'.length
  exact Calls.call_len_list pl.isList (by simp only [List.size_toArray] <;> omega) ⟨.int ys.length,H,I.tok _,⟨s.toks + 1,by rw [List.size_toArray,hlen]⟩,q⟩
 ·obtain ⟨its,r',pl,hz⟩ := I.tuple hq
  have hlen := r'.length
  exact len_tuple pl (by simp only [List.size_toArray] <;> omega) ⟨.int ys.length,H,I.tok _,⟨s.toks + 1,by rw [List.size_toArray,hlen]⟩,q⟩
theorem Z0o : Q7e X (.type "list") (λ xs H Q => ∃ p ys,xs = [.ref p] /\ (SqL X.K H p ys \/ SqT X.K H p ys) /\ ∀ l,H l = none -> Q (.ref l) (upd H l (.lst ys))) := by
 intro pins s σ H xs us Q I r h
 obtain ⟨p,ys,rfl,hq,q⟩ := h
 obtain ⟨u,rfl,rx⟩ := Q7f r
 cases rx
 have fin : ∀ (its : List Value),Vals ys its -> ys.length <= sizeLine -> ∀ (h' : Heap) (c' : Nat),(∀ b o',s.heap.get? b = some o' -> h'.get? b = some o') ->
   h'.get? s.heap.objs.size = some { cls := .type "list",dict := none,data := .seq its.toArray c',slots := #[] } -> EP X pins σ Q (.ref s.heap.objs.size) { s with heap := h' } := λ its r' hz h' c' kp e =>
  ⟨.ref s.heap.objs.size,_,I.laid (t' := s.toks) kp (Nat.le_refl _) (show Q1Y X.prog X.w _ h' _ (.lst ys) from ⟨hz,its,c',r',e⟩),rfl,q _ (I.hok.fresh (Nat.le_refl _))⟩
 rcases hq with hq | hq
 ·obtain ⟨its,r',pl,hz⟩ := I.list hq
  have hlen := r'.length
  obtain ⟨o,ho,hc,n,hd⟩ := pl.isList
  exact call_list_seq p (.inl rfl) ho hc hd (λ h' c' kp e => fin its r' hz h' c' kp e) (by simp only [List.size_toArray] <;> omega)
 ·obtain ⟨its,r',pl,hz⟩ := I.tuple hq
  have hlen := r'.length
  obtain ⟨o,ho,hc,n,hd⟩ := pl
  exact call_list_seq p (.inr rfl) ho hc hd (λ h' c' kp e => fin its r' hz h' c' kp e) (by simp only [List.size_toArray] <;> omega)
theorem Q9i : Q7e X (.type "tuple") (λ xs H Q => ∃ p ys,xs = [.ref p] /\ ((SqL X.K H p ys /\ ∀ l,H l = none -> Q (.ref l) (upd H l (.tup ys))) \/ (SqT X.K H p ys /\ Q (.ref p) H))) := by
 intro pins s σ H xs us Q I r h
 obtain ⟨p,ys,rfl,h⟩ := h
 obtain ⟨u,rfl,rx⟩ := Q7f r
 cases rx
 rcases h with ⟨hq,q⟩ | ⟨hq,q⟩
 ·obtain ⟨its,r',pl,hz⟩ := I.list hq
  have hlen := r'.length
  refine call_tuple_list pl.isList (λ h' kp => ?_) (by simp only [List.size_toArray] <;> omega)
  have I1 : Inv X pins σ H { s with heap := h' } := I.kept (t' := s.toks) kp
  have I2 : Inv X pins σ (upd H h'.objs.size (.tup ys)) { s with heap := h'.push { cls := .type "tuple",data := .seq its.toArray } } :=
   I1.laid (t' := s.toks) (λ b o e => Heap.get?_push_of_some _ e) (Nat.le_refl _) (show Q1Y X.prog X.w _ _ _ (.tup ys) from ⟨hz,its,r',TupN.new _ _⟩)
  exact ⟨.ref h'.objs.size,_,I2,rfl,q _ (I1.hok.fresh (Nat.le_refl _))⟩
 ·obtain ⟨its,r',pl,hz⟩ := I.tuple hq
  exact call_tuple_same pl ⟨.ref p,H,I,rfl,q⟩
def tyV (K : PySem.W.Frag) (T : String) (x : V) (H : Hp) : Prop := match x with
 | .str _ => T = "str"
 | .int _ => T = "int"
 | .ref p => (T = "list" /\ ∃ xs,SqL K H p xs) \/ (T = "tuple" /\ ∃ xs,SqT K H p xs) \/
   (T = "dict" /\ ((∃ kvs,H p = some (.dK kvs)) \/ ∃ kvs,H p = some (.dT kvs))) \/ (T = "set" /\ ∃ S n,H p = some (.set S n))
 | _ => False
theorem Y0q {pins : List (Addr × Obj)} {σ : St} {H : Hp} {s : Shared} {T : String} {x : V} {v : Value} (I : Inv X pins σ H s) (r : RelV x v) (ty : tyV X.K T x H) :
  s.TypeIs v T /\ ∀ a,v = .ref a -> ∃ ob,s.heap.get? a = some ob /\ ob.dict = none := by
 cases x with
 | str z =>
  obtain ⟨t,rfl⟩ := r
  cases (show T = "str" from ty)
  exact ⟨typeIs_str s z t,λ _ e => nomatch e⟩
 | int i =>
  obtain ⟨t,rfl⟩ := r
  cases (show T = "int" from ty)
  exact ⟨typeIs_int s i t,λ _ e => nomatch e⟩
 | ref p =>
  cases r
  rcases ty with ⟨rfl,xs,hq⟩ | ⟨rfl,xs,hq⟩ | ⟨rfl,hk⟩ | ⟨rfl,S,n,hk⟩
  ·obtain ⟨its,_,pl,_⟩ := I.list hq
   refine ⟨pl.isList.typeIs,λ a e => ?_⟩
   cases e
   obtain ⟨o,n,e,c,hd,_⟩ := pl
   exact ⟨o,e,hd⟩
  ·obtain ⟨its,_,⟨o,e1,hd,hc,_⟩,_⟩ := I.tupN hq
   refine ⟨⟨o,e1,hc⟩,λ a e => ?_⟩
   cases e
   exact ⟨o,e1,hd⟩
  ·have z : ∃ o,s.heap.get? p = some o /\ o.ExactDict := by
    rcases hk with ⟨kvs,hk⟩ | ⟨kvs,hk⟩
    ·obtain ⟨_,_,_,_,o,_,_,e,ex,_⟩ := I.hok p _ hk
     exact ⟨o,e,ex⟩
    ·obtain ⟨_,_,_,_,o,_,_,e,ex,_⟩ := I.hok p _ hk
     exact ⟨o,e,ex⟩
   obtain ⟨o,e,ex⟩ := z
   refine ⟨⟨o,e,ex.1⟩,λ a e2 => ?_⟩
   cases e2
   exact ⟨o,e,ex.2.1⟩
  ·obtain ⟨o,_,_,_,e,ex,_⟩ := I.hok p _ hk
   refine ⟨⟨o,e,ex.1⟩,λ a e2 => ?_⟩
   cases e2
   exact ⟨o,e,ex.2.1⟩
 | _ => exact False.elim ty
def tBM (K : PySem.W.Frag) (T : String) (r : V -> List V -> Hp -> VK -> Prop) (to : TE) (t : TA) : TE := λ σ H Q => to σ H λ x H1 => tyV K T x H1 /\ t σ H1 λ xs H2 => r x xs H2 Q
variable {o e : Expr} {es : List Expr} {to : TE} {t : TA} {name : Str} {apos cpos : Pos} {T id : String} {r : V -> List V -> Hp -> VK -> Prop}
theorem Y0X (pa : PlainAttrs T) (slot : Slot T name id) (hty : typeOf (.builtin id) = pure (.type "method_descriptor")) (hm : MtR X id r) (ho : PE X o to) (ha : PA X (e :: es) t)
  (hbase : attributeBase o name X.env (eval o X.env) = eval o X.env := by rfl)
  (hfew : ((backTo cpos (starEach (e :: es) X.env)).all (λ x => !x.1) && (backToKw cpos (keywordEach [] X.env)).all (λ x => x.1.isSome)
   && decide ((e :: es).length + ([] : List Keyword).length + (if ([] : List Keyword).isEmpty then 0 else 1) < 30)) = true := by rfl)
  (hline : (apos.endLine == cpos.line) = true := by rfl) (hs : starEach (e :: es) X.env = (false,eval e X.env) :: starEach es X.env := by rfl) (hplain : (backTo cpos (starEach es X.env)).any (·.1) = false := by rfl) :
  PE X (.Call (.Attribute o name apos) (e :: es) [] cpos) (tBM X.K T r to t) := by
 intro pins s σ H Q I h
 refine wpAny_Call_method_late hbase hfew hline rfl (thn (ho pins s σ H _ I h) λ v s1 ⟨x,H1,I1,r1,ty,q1⟩ => ?_)
 obtain ⟨h1,h2⟩ := Y0q I1 r1 ty
 refine ⟨T,id,pa,slot,hty,h1,h2,?_⟩
 have hA := ha cpos pins s1 σ H1 _ I1 q1
 rw [hs] at hA ⊢
 refine Calls.callWith_builtin (by show (false || (backTo cpos (starEach es X.env)).any (·.1)) = false; rw [hplain] <;> rfl) (Calls.evalArgs_plain ?_)
 exact thn hA λ us s2 ⟨vs,H2,I2,r2,q2⟩ => hm pins s2 σ H2 x vs v us Q I2 r1 r2 q2
end
end L2
namespace L2
open PySem PySem.Spec PyProof.Rows
def MtM (X : Cx) (id : String) (r : V -> List V -> Hp -> VK -> Prop) : Prop :=
 ∀ (pins : List (Addr × Obj)) (s : Shared) (σ : St) (H : Hp) (x : V) (xs : List V) (v : Value) (us : List Value) (Q : VK),Inv X pins σ H s -> RelV x v -> Vals xs us -> r x xs H Q ->
  wpAny (model X.prog X.w) X.A (call (.builtin id) (v :: us)) (EP X pins σ Q) X.xe s
theorem Vals.one : ∀ {x : V} {us : List Value},Vals [x] us -> ∃ u,us = [u] /\ RelV x u
 | _,_,.cons r .nil => ⟨_,rfl,r⟩
theorem Vals.rep {xs : List V} {us : List Value} (h : Vals xs us) : ∀ k : Nat,Vals (List.replicate k xs).flatten (List.replicate k us).flatten
 | 0 => .nil
 | k + 1 => by
  rw [List.replicate_succ,List.replicate_succ,List.flatten_cons,List.flatten_cons]
  exact Vals.append h (Vals.rep h k)
theorem Z0g (its : List Value) : ∀ (k : Nat) (acc : List Value),
  List.foldl (λ x1 x2 => x1 ++ x2) acc.toArray (List.replicate k its.toArray) = (acc ++ (List.replicate k its).flatten).toArray
 | 0,acc => by simp
 | k + 1,acc => by
  have e : acc.toArray ++ its.toArray = (acc ++ its).toArray := by simp
  have e2 : (acc ++ its) ++ (List.replicate k its).flatten = acc ++ (List.replicate (k + 1) its).flatten := by
   rw [List.replicate_succ,List.flatten_cons,List.append_assoc]
  rw [<- e2,<- Z0g its k (acc ++ its),<- e,List.replicate_succ,List.foldl_cons]
section
variable {X : Cx} {pins : List (Addr × Obj)} {σ : St} {H : Hp} {s : Shared} {l b : Addr} {xs ys zs : List V}
theorem Inv.lset {its its' : List Value} {n : Nat} {f : Array Value -> Array Value} {t' : Nat} (I : Inv X pins σ H s) (hH : H l = some (.lst xs))
  (e : s.heap.get? l = some { cls := .type "list",data := .seq its.toArray n }) (hf : f its.toArray = its'.toArray) (hv : Vals ys its') (hz : ys.length <= sizeLine) :
  Inv X pins σ (upd H l (.lst ys)) { s with heap := s.heap.update l (Obj.mapSeq f),toks := t' } := by
 have q := PySem.IsL.update e f
 rw [hf] at q
 refine I.write (x := l) (e := l) (by rw [hH]; exact trivial) (.inl rfl) (λ b' u hb hu => (Heap.get?_update_other s.heap (Obj.mapSeq f) (Ne.symm hb)).trans hu) ⟨_,q⟩ ?_
 exact ⟨hz,its',_,hv,q⟩
theorem Inv.lstM (I : Inv X pins σ H s) (hH : H l = some (.lst xs)) : xs.length <= sizeLine /\ ∃ (its : List Value) (n : Nat),Vals xs its /\ xs.length = its.length /\ s.heap.get? l = some { cls := .type "list",data := .seq its.toArray n } := by
 obtain ⟨z,its,n,r,e⟩ := I.hok l _ hH
 exact ⟨z,its,n,r,r.length,e⟩
end
section
variable {X : Cx}
def Z9d : V -> List V -> Hp -> VK -> Prop := λ x vs H Q => ∃ l xs y,x = .ref l /\ vs = [y] /\ H l = some (.lst xs) /\ xs.length < sizeLine /\ Q .non (upd H l (.lst (xs ++ [y])))
theorem Z0e : MtM X "list.append" Z9d := by
 intro pins s σ H x vs v us Q I rx rv h
 obtain ⟨l,xs,y,rfl,rfl,hH,hz,q⟩ := h
 cases rx
 obtain ⟨u,rfl,ru⟩ := rv.one
 obtain ⟨z,its,n,r,hl,e⟩ := I.lstM hH
 refine call_meets F.slot_list_append ⟨_,e,rfl⟩ F.entry_list_append (F.args_list_append_2 _ _) (PySem.list_append l its.toArray n u (by rw [List.size_toArray]; omega)) ⟨e,?_⟩
 refine ⟨.non,_,I.lset (its' := its ++ [u]) hH e (by simp) (r.append (.cons ru .nil)) ?_,rfl,q⟩
 rw [List.length_append,List.length_singleton]
 omega
theorem Z5q {α : Type} (xs : List α) (k : Nat) : (List.replicate k xs).flatten.length = k * xs.length := by
 induction k with
 | zero => simp
 | succ k ih => rw [List.replicate_succ,List.flatten_cons,List.length_append,ih,Nat.succ_mul,Nat.add_comm]
end
section
variable {prog : Program} {w : World} {A : Around} {E : Value -> Shared -> Prop} {s : Shared}
end
section
variable {X : Cx}
end
end L2
namespace Att
open PySem PySem.W PySem.Calls PyProof.Rows
theorem Q6M {P : Params} {h : Heap} : ∀ (ns : List Int) (vs : List Value),WellAll P h vs (ns.map WData.int) -> IntsAre vs ns := by
 intro ns
 induction ns with
 | nil =>
  intro vs w
  rw [List.map_nil] at w
  cases w
  exact .nil
 | cons n ns ih =>
  intro vs w
  rw [List.map_cons] at w
  cases w with
  | cons a b =>
   cases a
   exact .cons _ _ (ih _ b)
theorem Z4D {l : OpenLaw} {n : Nat} (hn : l.most = some n) {P : Params} {h : Heap} {args : List WData} {vals : List Value}
  (hpre : l.row.toRowW.claim.pre args = true) (hwl : WellAll P h vals args) :
  ∃ a vs ns,vals = [Value.ref a] /\ args = [WData.list (ns.map WData.int)] /\ h.get? a = some { cls := .type "list",data := .seq vs.toArray } /\ IntsAre vs ns /\ ns.length <= n := by
 have hsh : WShape.hasAll [] args [.list .int] = true := (pre_splitW hpre).1
 have hc : l.pre.holds [] { args := args } = true := (pre_splitW hpre).2
 obtain ⟨d,r,rfl,h1,h2⟩ := hasAllW_cons hsh
 obtain rfl := hasAllW_nil h2
 obtain ⟨xs,rfl,h3⟩ := hasW_list h1
 obtain ⟨ns,rfl⟩ := items_int h3
 have hlen : ns.length <= n := by
  unfold OpenLaw.pre at hc
  have h4 : (WTm.not (.lt (.lit (.int (n : Int))) (.len (.arg 0)))).holds [] { args := [.list (ns.map .int)] } = true := by
   have h4 := (holds_andW hc).1
   rw [hn] at h4
   exact h4
  have h5 := condW_of h4 (w_not (w_lt w_lit (w_len_list (w_arg rfl))))
  rw [List.length_map] at h5
  refine Nat.le_of_not_lt λ q => ?_
  have q' : (n : Int) < ((ns.length : Nat) : Int) := by omega
  first
   | (rw [decide_eq_true q'] at h5; exact absurd h5 wE)
   | (simp at h5; omega)
 cases hwl with
 | cons w1 w2 =>
  cases w2
  cases w1 with
  | list ho hall => exact ⟨_,_,ns,rfl,rfl,ho,Q6M ns _ hall,hlen⟩
theorem Z4S (l : OpenLaw) (args : List WData) : l.row.toRowW.claim.post args (.bool true) args = true :=
 postW_of (r := l.row.toRowW) (X := (true == true))
  (show WShape.has [] (.bool true) .bool = true by first | rfl | decide | simp [WShape.has,WShape.arms,WShape.armsAll])
  (show (WTm.eq .res (.lit (.bool true))).value [] { args := args,res := some (.bool true),after := args } = some (.bool (true == true)) from w_eq_bool (w_res rfl) w_lit) rfl
theorem attach_call {l : OpenLaw} {n : Nat} {q : Program} {loose : List Str} {XP : (Str -> Option Value) -> Heap -> Prop} {YP : World -> Heap -> Prop} {d : DefRec}
  (hn : l.most = some n) (hdf : d.params.defaults = [])
  (call : ∀ (w : World) (s₀ s₁ : Shared) (mg mb : Str -> Option Value) (fa : Addr) (o : Obj) (pm cd doc : Value) (a : Addr) (vs : List Value) (ns : List Int),
   Ground q loose [] XP w s₀ mg mb s₁.heap -> YP w s₁.heap ->
   s₁.heap.get? fa = some o -> o.data = .func (docDef d.name d.params d.body d.scope pm cd doc) -> s₁.heap.CodeRec cd d.name -> mg d.name = some (.ref fa) ->
   s₁.heap.get? a = some { cls := .type "list",data := .seq vs.toArray } -> IntsAre vs ns -> ns.length <= n -> s₁.gens = #[] ->
   codeAny (model l.prog w) callerA (.call (.ref fa) ⟨[.ref a],[]⟩) (λ r s' => r = .ok (.ret (.bool true)) /\ OldK s₁.heap s'.heap /\ s'.os = s₁.os /\ AllBare s'.gens) s₁) :
  WalkO q loose XP YP l.row.toRowW d [] (λ f vs => PySem.call f vs) := by
 intro w s₀ s₁ mg mb G Y fa o pm cd doc dV kV ho hd hcd hD hmg hg args vals as hpre hlay hrd hwl hlo
 obtain rfl : dV = .none := Dflts.none hD hdf
 obtain rfl : kV = .none := Dflts.noKw hD
 obtain ⟨a,vs,ns,rfl,rfl,hobj,hints,hlen⟩ := Z4D hn hpre hwl
 refine enter_call (codeAny_mono (call w s₀ s₁ mg mb fa o pm cd doc a vs ns G Y ho (fd_plain hd) hcd hmg hobj hints hlen hg) λ r s' hq => ?_)
 obtain ⟨rfl,h2,h3,h4⟩ := hq
 exact ⟨.inl ⟨.bool true,.bool true,[],rfl,λ _ => rfl,.bool true,Z4S l _,λ _ => ⟨List.Pairwise.nil,λ _ hm => (nomatch hm)⟩⟩,h2,h3,h4⟩
section
variable {prog : Program} {w : World} {A : Around} {E : Value -> Shared -> Prop} {s : Shared} {K : Frag}
end
end Att
namespace L2
open PySem PySem.Spec PyProof.Rows
theorem Q9x : ∀ {vs : List Value} {ns : List Int},IntsAre vs ns -> Vals (ns.map V.int) vs
 | _,_,.nil => .nil
 | _,_,.cons n t h => .cons ⟨t,rfl⟩ (Q9x h)
def Only (H : Hp) : Prop := ∀ b,H b = none \/ ∃ o xs,H b = some (.frz o (.lst xs))
theorem Z7y {P : Program} {w : World} {K : PySem.W.Frag} {mg mb : Str -> Option Value} {CX : CXT} {k : Nat} {fa a : Addr} {fd : FuncData} {x : Str} {sp : Sp} {s₁ : Shared} {vs : List Value} {ns : List Int}
  (KX : K.In s₁.heap) (hns : s₁.heap.Ns mainGlobals mg) (hb : s₁.heap.Ns builtinsNs mb) (hbb : ∀ x : Str,x ≠ "__name__" -> mb x = bootBuiltins x) (hlim : s₁.heap.NoLimit) (hg : s₁.gens = #[])
  (ha : s₁.heap.get? a = some { cls := .type "list",data := .seq vs.toArray }) (hi : IntsAre vs ns) (hl : ns.length <= sizeLine) (hr : Room k callerA)
  (F : ∀ base : Heap,K.In base -> base.Ns mainGlobals mg -> FnOk P w K mg base CX k fa fd [x] sp) (hbind : ∀ (s : Shared) (u : Value),BindsTo s fd ⟨[u],[]⟩ [(x,u)])
  (hsp : ∀ H : Hp,Only H -> SqL K H a (ns.map V.int) -> sp [.ref a] H (λ v _ => v = .bl true) λ _ _ _ => False)
  (hCX : ∀ H e s',CX [] H s₁ (λ _ _ _ => False) e s' -> False) :
  codeAny (model P w) callerA (.call (.ref fa) ⟨[.ref a],[]⟩) (λ r s' => r = .ok (.ret (.bool true)) /\ OldK s₁.heap s'.heap /\ s'.os = s₁.os /\ AllBare s'.gens) s₁ := by
 have rv := Q9x hi
 have lenV := hi.length
 -- from an abstract heap in which nothing but the script may be tracked
 have core : ∀ H : Hp,Only H -> SqL K H a (ns.map V.int) -> HOk P w H s₁.heap -> (∀ b,H b ≠ none -> b = a) -> (H a ≠ none -> K.lookup a = none) ->
   codeAny (model P w) callerA (.call (.ref fa) ⟨[.ref a],[]⟩) (λ r s' => r = .ok (.ret (.bool true)) /\ OldK s₁.heap s'.heap /\ s'.os = s₁.os /\ AllBare s'.gens) s₁ := by
  intro H hO hS hok hA hK
  have base_of : ∀ {b : Addr} {o : Obj},s₁.heap.get? b = some o -> H b = none -> (hidT s₁.heap H).get? b = some o := λ e n => Z7z e n
  have noA : ∀ {b : Addr} {o : Obj} {es : Array DictEntry} {ep : Nat},s₁.heap.get? b = some o -> o.data = .dict es ep -> H b = none := λ {b o es ep} e d => by
   cases q : H b with
   | none => rfl
   | some u =>
    have e' : b = a := hA b (by rw [q]; simp)
    subst e'
    rw [ha] at e; cases e
    have d' : Data.seq vs.toArray _ = Data.dict es ep := d
    cases d'
  have nsK : ∀ {b : Addr} {m : Str -> Option Value},s₁.heap.Ns b m -> (hidT s₁.heap H).Ns b m := λ {b m} ⟨o,es,ep,e,d,r⟩ => ⟨o,es,ep,base_of e (noA e d),d,r⟩
  have hKb : K.In (hidT s₁.heap H) := λ b o e => base_of (KX b o e) (by
   cases q : H b with
   | none => rfl
   | some u =>
    have e' : b = a := hA b (by rw [q]; simp)
    subst e'
    rw [hK (by rw [q]; simp)] at e; cases e)
  have hM : Mod K mg (hidT s₁.heap H) := ⟨hKb,nsK hns,⟨mb,nsK hb,hbb⟩,let ⟨mc,h1,h2⟩ := hlim; ⟨mc,nsK h1,h2⟩⟩
  have e0 : Env0 P w K mg (hidT s₁.heap H) callerA [] s₁ H := ⟨rfl,hM,λ b o e => Z9t e,Nat.le_of_eq (Z5z _ _),trivial,λ b hb => absurd (show b ∈ ([] : List Addr) from hb) (by simp),hok,.of_eq hg⟩
  refine codeAny_mono ((F _ hKb (nsK hns)).run callerA [] s₁ H ⟨[.ref a],[]⟩ [.ref a] [.ref a] _ _ hr e0 (hbind s₁ (.ref a)) (.cons rfl .nil) (hsp H hO hS)) λ r s' h => ?_
  cases r with
  | error e => exact (hCX H e s' h).elim
  | ok fl =>
   cases fl with
   | next => exact False.elim h
   | brk => exact False.elim h
   | cont => exact False.elim h
   | ret u =>
    obtain ⟨v,H',os,bare,un,hok',r',q⟩ := h
    have q' : v = .bl true := q
    subst q'
    obtain rfl : u = Value.bool true := r'
    refine ⟨rfl,OldK.of_keep λ b o e => ?_,os,bare⟩
    cases q : H b with
    | none => exact un.keep b o e q (by intro z; exact absurd (show b ∈ ([] : List Addr) from z) (by simp)) (by simp)
    | some u =>
     rcases hO b with z | ⟨ob,xs,z⟩
     ·rw [q] at z; cases z
     ·have z2 := un.frzs b ob _ z
      obtain ⟨e1,_⟩ := hok b _ z
      obtain ⟨e2,_⟩ := hok' b _ z2
      rw [e] at e1; cases e1
      exact e2
 cases hk : K.lookup a with
 | some o =>
  -- the script is one of the module's own objects
  have e := KX a o hk
  rw [ha] at e
  cases e
  refine core (λ _ => none) (λ _ => .inl rfl) (.inr ⟨_,vs.toArray,_,hk,rfl,rfl,rfl,by rw [List.size_toArray,lenV]; exact hl,by simpa using rv⟩) (λ b u z => by have z' : (none : Option HO) = some u := z; cases z') (λ b z => absurd rfl z) λ z => absurd rfl z
 | none =>
  refine core (λ b => if b = a then some (.frz { cls := .type "list",data := .seq vs.toArray } (.lst (ns.map V.int))) else none) (λ b => ?_) (.inl (.inr ⟨{ cls := .type "list",data := .seq vs.toArray },if_pos rfl⟩)) (λ b u z => ?_) (λ b z => ?_) λ _ => hk
  ·by_cases hb : b = a
   ·exact .inr ⟨_,_,if_pos hb⟩
   ·exact .inl (if_neg hb)
  ·by_cases hb : b = a
   ·have z' := (if_pos hb).symm.trans z
    cases z'
    subst hb
    exact ⟨ha,by rw [List.length_map]; exact hl,vs,_,rv,ha⟩
   ·have z' := (if_neg hb).symm.trans z
    cases z'
  ·by_cases hb : b = a
   ·exact hb
   ·exact absurd (if_neg hb) z
end L2
namespace L2
open PySem PySem.Spec PyProof.Rows
theorem walk_of {l : PySem.W.OpenLaw} {n k : Nat} {q : Program} {loose : List Str} {XP : (Str -> Option Value) -> Heap -> Prop} {YP : World -> Heap -> Prop} {d : DefRec} {K : Params -> PySem.W.Frag} {CX : World -> CXT} {sp : World -> Sp} {x : Str}
  (hn : l.most = some n) (hn2 : n <= sizeLine) (hdf : d.params.defaults = []) (hr : Room k callerA)
  (hY : ∀ (w : World) (h : Heap),YP w h -> (K w.params).In h)
  (F : ∀ (w : World) (mg : Str -> Option Value) (fa : Addr) (h : Heap),(K w.params).In h -> h.Ns mainGlobals mg -> mg d.name = some (.ref fa) ->
   ∃ fd : FuncData,(∀ (s : Shared) (u : Value),BindsTo s fd ⟨[u],[]⟩ [(x,u)]) /\
    ∀ base : Heap,(K w.params).In base -> base.Ns mainGlobals mg -> FnOk l.prog w (K w.params) mg base (CX w) k fa fd [x] (sp w))
  (hsp : ∀ (w : World) (H : Hp) (a : Addr) (ns : List Int),ns.length <= n -> Only H -> SqL (K w.params) H a (ns.map V.int) -> sp w [.ref a] H (λ v _ => v = .bl true) λ _ _ _ => False)
  (hCX : ∀ (w : World) (H : Hp) (s : Shared) (e : Value) (s' : Shared),CX w [] H s (λ _ _ _ => False) e s' -> False) :
  PySem.W.WalkO q loose XP YP l.row.toRowW d [] (λ f vs => PySem.call f vs) := by
 refine Att.attach_call hn hdf λ w s₀ s₁ mg mb fa o pm cd doc a vs ns G Y ho hd hcd hmg hobj hints hlen hg => ?_
 have KX := hY w _ Y
 obtain ⟨fd,hb,hF⟩ := F w mg fa _ KX G.T.g hmg
 exact Z7y KX G.T.g G.T.b G.T.builtins G.T.nolimit hg hobj hints (Nat.le_trans hlen hn2) hr hF hb (λ H hO hS => hsp w H a ns hlen hO hS) λ H e s' => hCX w H s₁ e s'
end L2
namespace L2
open PySem PySem.Spec PyProof.Rows
def Q0z (s : Stmt) (j : Nat) : Stmt := match s with
 | .ClassDef _ _ _ body _ _ _ _ _ _ _ => body.getD j (.Pass ⟨0,0,0,0⟩)
 | _ => .Pass ⟨0,0,0,0⟩
def Q1A (s : Stmt) : Arguments := match s with
 | .FunctionDef _ a _ _ _ _ _ _ _ _ => a
 | _ => { posonlyargs := [],args := [],vararg := none,kwonlyargs := [],kw_defaults := [],kwarg := none,defaults := [] }
def Q0Y (s : Stmt) : List Stmt := match s with
 | .FunctionDef _ _ b _ _ _ _ _ _ _ => b
 | _ => []
def Q0f (s : Stmt) : Scope := match s with
 | .FunctionDef _ _ _ _ _ _ sc _ _ _ => sc
 | _ => { kind := .function,names := [],isGenerator := false,isCoroutine := false }
abbrev CX0 : CXT := λ _ _ _ _ _ _ => False
abbrev E0 : XK := λ _ _ _ => False
theorem Z3i {X : Cx} : Q6W CX0 X E0 := λ _ _ _ _ _ _ _ h => h.elim
structure Fun (K : PySem.W.Frag) (x qual : Str) (st : Stmt) (f : Addr) (fd : FuncData) : Prop where
 ex : ∃ (oc : Value) (od : Option Addr) (kV doc pm : Value) (an : Option Addr) (cdv ct : Value) (osl : Array (Option Value)),
  fd = PySem.W.fnOf x qual (Q1A st) (Q0Y st) (Q0f st) .none kV doc pm an cdv ct /\ K.lookup f = some ⟨oc,od,.func fd,osl⟩ /\ PySem.W.codeIn K cdv qual = true
 kp : PySem.W.keepIn K (.ref f) = true
section
variable {P : Program} {w : World} {K : PySem.W.Frag} {mg : Str -> Option Value} {base : Heap}
theorem Fun.ok {x qual : Str} {st : Stmt} {f : Addr} {fd : FuncData} {N ps : List Str} {k : Nat} {sp : Sp} (F : Fun K x qual st f fd) (S : Q0k N ps (Q0f st)) (len : ∀ vs H Q E,sp vs H Q E -> vs.length = ps.length)
  (hbody : ∀ (cdv : Value) (A : Around) (outer : List Env) (s : Shared) (H : Hp) (vs : List V) (Q : VK) (E : XK),Room k (A.deeper (envOfC qual (Q0f st) s.heap.objs.size f cdv)) -> sp vs H Q E ->
   ∃ t,PSs (cxOf CX0 P w K mg base N qual (Q0f st) f cdv A outer s H E).nox (Q0Y st) t /\ t { nx := λ _ H' => Q .non H',rt := Q } (start N vs) H) : FnOk P w K mg base CX0 (k + 1) f fd ps sp := by
 obtain ⟨oc,od,kV,doc,pm,an,cdv,ct,osl,rfl,lk,hcd⟩ := F.ex
 refine Y1q lk hcd S len λ A outer s H vs Q E hr hsp => ?_
 obtain ⟨t,h,q⟩ := hbody cdv A outer s H vs Q E hr hsp
 exact ⟨t,h.nox,q⟩
theorem Fun.binds {x qual : Str} {st : Stmt} {f : Addr} {fd : FuncData} {ps : List Str} (F : Fun K x qual st f fd)
  (h : ∀ (kV doc pm : Value) (an : Option Addr) (cdv ct : Value) (us : List Value),us.length = ps.length -> bindArgs (PySem.W.fnOf x qual (Q1A st) (Q0Y st) (Q0f st) .none kV doc pm an cdv ct) ⟨us,[]⟩ = pure (ps.zip us)) : Q0A K fd ps [] := by
 obtain ⟨oc,od,kV,doc,pm,an,cdv,ct,osl,rfl,lk,hcd⟩ := F.ex
 exact .all (h kV doc pm an cdv ct)
theorem Z8w {x qual : Str} {st : Stmt} {f : Addr} {oc : Value} {od an : Option Addr} {osl : Array (Option Value)} {kV doc pm cdv ct : Value} (l : K.lookup f = some ⟨oc,od,.func (PySem.W.fnOf x qual (Q1A st) (Q0Y st) (Q0f st) .none kV doc pm an cdv ct),osl⟩)
  (c : PySem.W.codeIn K cdv qual = true) (k : PySem.W.keepIn K (.ref f) = true) : Fun K x qual st f (PySem.W.fnOf x qual (Q1A st) (Q0Y st) (Q0f st) .none kV doc pm an cdv ct) := ⟨⟨oc,od,kV,doc,pm,an,cdv,ct,osl,rfl,l,c⟩,k⟩
end
theorem hu_of {A : Around} {k : Nat} (hr : Room k A) : A.units + 1 < cLine := Nat.lt_of_le_of_lt (Nat.add_le_add_left (by decide : 1 <= 64) _) hr.units
section
variable {X : Cx}
end
theorem iteF {A B : Prop} (h : B) : if false = true then A else B := by
 rw [if_neg Bool.false_ne_true]
 exact h
theorem iteT {A B : Prop} (h : A) : if true = true then A else B := by
 rw [if_pos rfl]
 exact h
def Same (H H' : Hp) : Prop := ∀ b o,H b = some o -> H' b = some o
theorem Same.refl (H : Hp) : Same H H := λ _ _ h => h
theorem Same.trans {H H1 H2 : Hp} (a : Same H H1) (b : Same H1 H2) : Same H H2 := λ c o h => b c o (a c o h)
theorem Same.free {H H' : Hp} (e : Same H H') {l : Addr} (h : H' l = Option.none) : H l = Option.none := by
 cases q : H l with
 | none => rfl
 | some o =>
  rw [e l o q] at h
  cases h
theorem Same.seq {K : PySem.W.Frag} {H H' : Hp} {a : Addr} {xs : List V} (e : Same H H') (h : SqL K H a xs) : SqL K H' a xs := by
 rcases h with (h | ⟨o,h⟩) | h
 ·exact .inl (.inl (e _ _ h))
 ·exact .inl (.inr ⟨o,e _ _ h⟩)
 ·exact .inr h
end L2
namespace L2
open PySem PySem.Spec PyProof.Rows
section
variable {κ : Type} [DecidableEq κ]
end
section
variable {P : Program} {w : World} {H : Hp} {h : Heap} {a : Addr}
end
section
variable {X : Cx} {pins : List (Addr × Obj)} {σ : St} {H : Hp} {s : Shared} {a : Addr} {y v : V} {u r : Value} {o : Option V} {A : Around} {E : Value -> Shared -> Prop}
end
section
variable {X : Cx} {pins : List (Addr × Obj)} {σ : St} {H : Hp} {s : Shared} {a : Addr} {kvs : List (Key × V)} {k : Key} {u : Value} {A : Around} {E : Value -> Shared -> Prop}
end
section
variable {X : Cx} {o i e value : Expr} {pos pos' tpos : Pos} {td ty tv : TE}
end
section
variable {X : Cx} {pos : Pos}
end
def Y0u : List (TE × TE) -> St -> Hp -> (List (V × V) -> Hp -> Prop) -> Prop
 | [],_,H,Q => Q [] H
 | (tk,tv) :: r,σ,H,Q => tk σ H λ x H1 => tv σ H1 λ y H2 => Y0u r σ H2 λ ps H3 => Q ((x,y) :: ps) H3
structure M1 (X : Cx) (o : Expr) (m : Str) (apos : Pos) (e : Expr) (cpos : Pos) : Prop where
 base : attributeBase o m X.env (eval o X.env) = eval o X.env
 few : ((backTo cpos (starEach [e] X.env)).all (λ x => !x.1) && (backToKw cpos (keywordEach [] X.env)).all (λ x => x.1.isSome)
  && decide (([e] : List Expr).length + ([] : List Keyword).length + (if ([] : List Keyword).isEmpty then 0 else 1) < 30)) = true
 line : (apos.endLine == cpos.line) = true
 trees : backTo cpos (starEach [e] X.env) = [(false,eval e X.env)]
structure M2 (X : Cx) (o : Expr) (m : Str) (apos : Pos) (e f : Expr) (cpos : Pos) : Prop where
 base : attributeBase o m X.env (eval o X.env) = eval o X.env
 few : ((backTo cpos (starEach [e,f] X.env)).all (λ x => !x.1) && (backToKw cpos (keywordEach [] X.env)).all (λ x => x.1.isSome)
  && decide (([e,f] : List Expr).length + ([] : List Keyword).length + (if ([] : List Keyword).isEmpty then 0 else 1) < 30)) = true
 line : (apos.endLine == cpos.line) = true
 trees : backTo cpos (starEach [e,f] X.env) = [(false,eval e X.env),(false,eval f X.env)]
section
variable {X : Cx} {pins : List (Addr × Obj)} {σ : St} {H : Hp} {s : Shared} {a : Addr} {y d : V} {u r : Value} {o : Option V} {A : Around} {E : Value -> Shared -> Prop}
end
section
variable {X : Cx} {o e f : Expr} {apos cpos : Pos} {td ty tx : TE}
end
section
variable {X : Cx} {pins : List (Addr × Obj)} {σ : St} {H : Hp} {s : Shared} {a : Addr} {kvs : List (Key × V)} {A : Around} {E : Value -> Shared -> Prop}
end
section
variable {X : Cx} {pins : List (Addr × Obj)} {σ : St} {H : Hp} {s : Shared} {a : Addr} {y : V} {u : Value} {A : Around} {E : Value -> Shared -> Prop}
end
section
variable {X : Cx}
end
section
variable {κ : Type} [DecidableEq κ]
end
end L2
namespace DL
open PySem PySem.Spec PyProof.Rows L2
inductive D where
 | non | bl (b : Bool) | int (i : Int) | str (x : Str) | tup (xs : List D) | lst (xs : List D) | scr (xs : List D) | ptr (n : Nat) | ty (n : String) | fn (a : Addr) | dct (ks : List Key) (xs : List D)
structure Wd where
 g : Hp
 l : List Addr
structure Ext (G G' : Wd) : Prop where
 g : Same G.g G'.g
 l : ∃ t,G'.l = G.l ++ t
theorem Ext.refl (G : Wd) : Ext G G := ⟨Same.refl _,[],(List.append_nil _).symm⟩
theorem Ext.trans {G G' G'' : Wd} (a : Ext G G') (b : Ext G' G'') : Ext G G'' := ⟨a.g.trans b.g,by
 obtain ⟨t,e⟩ := a.l; obtain ⟨u,e'⟩ := b.l; exact ⟨t ++ u,by rw [e',e,List.append_assoc]⟩⟩
theorem Ext.at {G G' : Wd} {n : Nat} {a : Addr} (e : Ext G G') (h : G.l[n]? = some a) : G'.l[n]? = some a := by
 obtain ⟨t,e⟩ := e.l
 rw [e,List.getElem?_append_left (List.getElem?_eq_some_iff.mp h).1,h]
mutual
inductive Is (K : PySem.W.Frag) (G : Wd) : D -> V -> Prop
 | non : Is K G .non .non
 | bl (b : Bool) : Is K G (.bl b) (.bl b)
 | int (i : Int) : Is K G (.int i) (.int i)
 | str (x : Str) : Is K G (.str x) (.str x)
 | tup {a : Addr} {ds : List D} {vs : List V} (h : SqT K G.g a vs) (r : Iss K G ds vs) : Is K G (.tup ds) (.ref a)
 | lst {a : Addr} {ds : List D} {vs : List V} (h : G.g a = some (.lst vs)) (r : Iss K G ds vs) : Is K G (.lst ds) (.ref a)
 | scr {a : Addr} {ds : List D} {vs : List V} (h : SqL K G.g a vs) (r : Iss K G ds vs) : Is K G (.scr ds) (.ref a)
 | ptr {a : Addr} (n : Nat) (h : G.l[n]? = some a) : Is K G (.ptr n) (.ref a)
 | ty (n : String) : Is K G (.ty n) (.ty n)
 | fn (a : Addr) : Is K G (.fn a) (.ref a)
 | dct {a : Addr} {ks : List Key} {ds : List D} {vs : List V} {ob : Obj} (h : G.g a = some (.frz ob (.dK (ks.zip vs)))) (hl : ks.length = vs.length) (r : Iss K G ds vs) : Is K G (.dct ks ds) (.ref a)
inductive Iss (K : PySem.W.Frag) (G : Wd) : List D -> List V -> Prop
 | nil : Iss K G [] []
 | cons {d : D} {v : V} {ds : List D} {vs : List V} (h : Is K G d v) (r : Iss K G ds vs) : Iss K G (d :: ds) (v :: vs)
end
theorem Q0V {K : PySem.W.Frag} {H H' : Hp} {a : Addr} {xs : List V} (e : Same H H') (h : SqT K H a xs) : SqT K H' a xs := by
 rcases h with (h | ⟨o,h⟩) | h
 ·exact .inl (.inl (e _ _ h))
 ·exact .inl (.inr ⟨o,e _ _ h⟩)
 ·exact .inr h
mutual
theorem Is.ext {K : PySem.W.Frag} {G G' : Wd} (e : Ext G G') : ∀ {d : D} {v : V},Is K G d v -> Is K G' d v
 | _,_,.non => .non
 | _,_,.bl b => .bl b
 | _,_,.int i => .int i
 | _,_,.str x => .str x
 | _,_,.tup h r => .tup (Q0V e.g h) (Iss.ext e r)
 | _,_,.lst h r => .lst (e.g _ _ h) (Iss.ext e r)
 | _,_,.scr h r => .scr (e.g.seq h) (Iss.ext e r)
 | _,_,.ptr n h => .ptr n (e.at h)
 | _,_,.ty n => .ty n
 | _,_,.fn n => .fn n
 | _,_,.dct h hl r => .dct (e.g _ _ h) hl (Iss.ext e r)
theorem Iss.ext {K : PySem.W.Frag} {G G' : Wd} (e : Ext G G') : ∀ {ds : List D} {vs : List V},Iss K G ds vs -> Iss K G' ds vs
 | _,_,.nil => .nil
 | _,_,.cons h r => .cons (Is.ext e h) (Iss.ext e r)
end
section
variable {K : PySem.W.Frag} {G G' : Wd}
theorem Iss.length : ∀ {ds : List D} {vs : List V},Iss K G ds vs -> ds.length = vs.length
 | _,_,.nil => rfl
 | _,_,.cons _ r => by rw [List.length_cons,List.length_cons,r.length]
theorem Iss.append : ∀ {ds es : List D} {vs us : List V},Iss K G ds vs -> Iss K G es us -> Iss K G (ds ++ es) (vs ++ us)
 | _,_,_,_,.nil,q => q
 | _,_,_,_,.cons h r,q => .cons h (Iss.append r q)
theorem Iss.get : ∀ {ds : List D} {vs : List V} {i : Nat} {d : D},Iss K G ds vs -> ds[i]? = some d -> ∃ v,vs[i]? = some v /\ Is K G d v
 | _,_,_,_,.nil,e => by simp at e
 | _,_,0,_,.cons h r,e => by simp at e; subst e; exact ⟨_,rfl,h⟩
 | _,_,i + 1,d,.cons h r,e => by
  obtain ⟨v,e1,h1⟩ := Iss.get (i := i) (d := d) r (by simpa using e)
  exact ⟨v,by simpa using e1,h1⟩
theorem Iss.getV : ∀ {ds : List D} {vs : List V} {i : Nat} {v : V},Iss K G ds vs -> vs[i]? = some v -> ∃ d,ds[i]? = some d /\ Is K G d v
 | _,_,_,_,.nil,e => by simp at e
 | _,_,0,_,.cons h r,e => by simp at e; subst e; exact ⟨_,rfl,h⟩
 | _,_,i + 1,d,.cons h r,e => by
  obtain ⟨v,e1,h1⟩ := Iss.getV (i := i) (v := d) r (by simpa using e)
  exact ⟨v,by simpa using e1,h1⟩
theorem Iss.take : ∀ {ds : List D} {vs : List V} (n : Nat),Iss K G ds vs -> Iss K G (ds.take n) (vs.take n)
 | _,_,0,_ => .nil
 | _,_,_ + 1,.nil => .nil
 | _,_,n + 1,.cons h r => .cons h (Iss.take n r)
theorem Iss.drop : ∀ {ds : List D} {vs : List V} (n : Nat),Iss K G ds vs -> Iss K G (ds.drop n) (vs.drop n)
 | _,_,0,h => h
 | _,_,_ + 1,.nil => .nil
 | _,_,n + 1,.cons h r => Iss.drop n r
theorem Iss.ints : ∀ {ns : List Int},Iss K G (ns.map D.int) (ns.map V.int)
 | [] => .nil
 | n :: ns => .cons (.int n) (Iss.ints (ns := ns))
theorem Iss.toInts : ∀ {ns : List Int} {vs : List V},Iss K G (ns.map D.int) vs -> vs = ns.map V.int
 | [],_,.nil => rfl
 | n :: ns,_,.cons h r => by cases h; rw [Iss.toInts r]; rfl
end
def _root_.L2.ctxOf (o : Obj) : Option Value := match o.data with | .fields vs => vs[2]? | _ => none
inductive MO where
 | lst (xs : List D)
 | ins (C : Addr) (fs : List (Str × D))
 | exc (C : Addr) (fs : List (Str × D)) (h : Option Addr := none)
 | dct (ks : List Key) (xs : List D)
 | pin (ob : Obj) (vs : List V) (ks : List Key) (xs : List D)
abbrev Sto := List (Option MO)
inductive FsIs (K : PySem.W.Frag) (G : Wd) : List (Str × D) -> List (Str × V) -> Prop
 | nil : FsIs K G [] []
 | cons {f : Str} {d : D} {v : V} {fs : List (Str × D)} {vs : List (Str × V)} (h : Is K G d v) (r : FsIs K G fs vs) : FsIs K G ((f,d) :: fs) ((f,v) :: vs)
theorem FsIs.ext {K : PySem.W.Frag} {G G' : Wd} (e : Ext G G') : ∀ {fs : List (Str × D)} {vs : List (Str × V)},FsIs K G fs vs -> FsIs K G' fs vs
 | _,_,.nil => .nil
 | _,_,.cons h r => .cons (h.ext e) (FsIs.ext e r)
def MOk (K : PySem.W.Frag) (G : Wd) (H : Hp) (p : Addr) : MO -> Prop
 | .lst xs => ∃ vs,H p = some (.lst vs) /\ Iss K G xs vs
 | .ins C fs => ∃ dx vs,H p = some (.ins C dx vs) /\ FsIs K G fs vs
 | .exc C fs h => ∃ ob,H p = some (.ext λ h => h.get? p = some ob) /\ (ob.cls = .ref C /\ ∃ ws,ob.data = .fields ws) /\ (fs = [] \/ ∃ dx vs,ob.dict = some dx /\ G.g dx = some (.xd vs) /\ FsIs K G fs vs) /\ ∀ a,h = some a -> p = a /\ L2.ctxOf ob = some .none
 | .dct ks xs => ∃ vs,H p = some (.dK (ks.zip vs)) /\ ks.length = vs.length /\ Iss K G xs vs
 | .pin ob vs ks xs => H p = some (.frz ob (.dK (ks.zip vs))) /\ ks.length = vs.length /\ Iss K G xs vs
structure SA (K : PySem.W.Frag) (G : Wd) (H : Hp) (O : Sto) : Prop where
 sub : Same G.g H
 len : G.l.length = O.length
 nd : G.l.Nodup
 liv : ∀ a ∈ G.l,∃ o,H a = some o
 mt : ∀ (n : Nat) (m : MO),O[n]? = some (some m) -> ∃ a,G.l[n]? = some a /\ G.g a = none /\ MOk K G H a m
section
variable {K : PySem.W.Frag} {G G' : Wd} {H H' : Hp} {O : Sto}
theorem MOk.ext {p : Addr} {m : MO} (e : Ext G G') (q : H' p = H p) (h : MOk K G H p m) : MOk K G' H' p m := by
 cases m with
 | lst xs => obtain ⟨vs,h1,h2⟩ := h; exact ⟨vs,by rw [q]; exact h1,h2.ext e⟩
 | ins C fs => obtain ⟨dx,vs,h1,h2⟩ := h; exact ⟨dx,vs,by rw [q]; exact h1,h2.ext e⟩
 | exc C fs ha =>
  obtain ⟨ob,h1,h2,h3,h4⟩ := h
  refine ⟨ob,by rw [q]; exact h1,h2,h3.imp id ?_,h4⟩
  rintro ⟨dx,vs,a1,a2,a3⟩
  exact ⟨dx,vs,a1,e.g _ _ a2,a3.ext e⟩
 | dct ks xs => obtain ⟨vs,h1,hl,h2⟩ := h; exact ⟨vs,by rw [q]; exact h1,hl,h2.ext e⟩
 | pin ob vs ks xs => obtain ⟨h1,hl,h2⟩ := h; exact ⟨by rw [q]; exact h1,hl,h2.ext e⟩
theorem MOk.some {p : Addr} {m : MO} (h : MOk K G H p m) : ∃ o,H p = some o := by
 cases m with
 | lst xs => obtain ⟨vs,h1,h2⟩ := h; exact ⟨_,h1⟩
 | ins C fs => obtain ⟨dx,vs,h1,h2⟩ := h; exact ⟨_,h1⟩
 | exc C fs ha => obtain ⟨ob,h1,_⟩ := h; exact ⟨_,h1⟩
 | dct ks xs => obtain ⟨vs,h1,_⟩ := h; exact ⟨_,h1⟩
 | pin ob vs ks xs => exact ⟨_,h.1⟩
theorem SA.free {p : Addr} (s : SA K G H O) (h : H p = none) : G.g p = none := s.sub.free h
theorem SA.grow (s : SA K G H O) (e : Same H H') : SA K G H' O :=
 ⟨s.sub.trans e,s.len,s.nd,λ a ha => let ⟨o,h⟩ := s.liv a ha; ⟨o,e _ _ h⟩,λ n m h => by
  obtain ⟨a,h1,h2,h3⟩ := s.mt n m h
  obtain ⟨o,h4⟩ := h3.some
  exact ⟨a,h1,h2,h3.ext (Ext.refl _) (by rw [h4,e _ _ h4])⟩⟩
theorem Q4m {p : Addr} {o : HO} (h : H p = none) : Same H (upd H p o) := λ b u q => by
 rw [Q0w]; exact q
 rintro rfl; rw [h] at q; cases q
theorem SA.laid {p : Addr} {o : HO} (s : SA K G H O) (h : H p = none) : Ext G ⟨upd G.g p o,G.l⟩ /\ SA K ⟨upd G.g p o,G.l⟩ (upd H p o) O := by
 have e : Ext G ⟨upd G.g p o,G.l⟩ := ⟨Q4m (s.free h),[],(List.append_nil _).symm⟩
 refine ⟨e,⟨λ b u q => ?_,s.len,s.nd,λ a ha => let ⟨o,q⟩ := s.liv a ha; ⟨o,Q4m h _ _ q⟩,λ n m hq => ?_⟩⟩
 ·by_cases hb : b = p
  ·subst hb
   have q : upd G.g b o b = some u := q
   rw [Q0u] at q; rw [Q0u]; exact q
  ·have q : upd G.g p o b = some u := q
   rw [Q0w hb] at q ⊢; exact s.sub b u q
 ·obtain ⟨a,h1,h2,h3⟩ := s.mt n m hq
  have ne : a ≠ p := by
   rintro rfl; obtain ⟨o,h4⟩ := h3.some; rw [h] at h4; cases h4
  exact ⟨a,h1,by show upd G.g p o a = none; rw [Q0w ne]; exact h2,h3.ext e (Q0w ne)⟩
theorem SA.new {p : Addr} {o : HO} {m : MO} (s : SA K G H O) (h : H p = none) (r : MOk K ⟨G.g,G.l ++ [p]⟩ (upd H p o) p m) : Ext G ⟨G.g,G.l ++ [p]⟩ /\ SA K ⟨G.g,G.l ++ [p]⟩ (upd H p o) (O ++ [some m]) := by
 have e : Ext G ⟨G.g,G.l ++ [p]⟩ := ⟨Same.refl _,[p],rfl⟩
 have hp : p ∉ G.l := λ z => by obtain ⟨o,q⟩ := s.liv p z; rw [h] at q; cases q
 refine ⟨e,⟨s.sub.trans (Q4m h),?_,?_,?_,?_⟩⟩
 ·simp [s.len]
 ·exact List.nodup_append.mpr ⟨s.nd,List.nodup_cons.mpr ⟨List.not_mem_nil,List.nodup_nil⟩,λ a ha b hb => by
   rw [List.mem_singleton] at hb; subst hb; rintro rfl; exact hp ha⟩
 ·intro a ha
  rcases List.mem_append.mp ha with ha | ha
  ·obtain ⟨u,q⟩ := s.liv a ha; exact ⟨u,Q4m h _ _ q⟩
  ·rw [List.mem_singleton] at ha; subst ha; exact ⟨_,Q0u⟩
 ·intro n m' hq
  by_cases hn : n < O.length
  ·rw [List.getElem?_append_left hn] at hq
   obtain ⟨a,h1,h2,h3⟩ := s.mt n m' hq
   have ne : a ≠ p := by rintro rfl; exact hp (List.mem_of_getElem? h1)
   exact ⟨a,e.at h1,h2,h3.ext e (Q0w ne)⟩
  ·have e1 : n = O.length := by
    have := (List.getElem?_eq_some_iff.mp hq).1
    rw [List.length_append,List.length_singleton] at this
    omega
   subst e1
   rw [List.getElem?_append_right (Nat.le_refl _),Nat.sub_self] at hq
   cases hq
   exact ⟨p,by show (G.l ++ [p])[O.length]? = _; rw [<- s.len,List.getElem?_append_right (Nat.le_refl _),Nat.sub_self]; rfl,s.free h,r⟩
theorem SA.put {n : Nat} {p : Addr} {o : HO} {m m' : MO} (s : SA K G H O) (h : O[n]? = some (some m)) (hp : G.l[n]? = some p) (r : MOk K G (upd H p o) p m') : SA K G (upd H p o) (O.set n (some m')) := by
 obtain ⟨a,h1,h2,h3⟩ := s.mt n m h
 obtain rfl : p = a := Option.some.inj (hp.symm.trans h1)
 refine ⟨λ b u q => ?_,by simp [s.len],s.nd,λ b hb => ?_,λ k m2 hk => ?_⟩
 ·rw [Q0w]; exact s.sub b u q
  rintro rfl; rw [h2] at q; cases q
 ·by_cases hbp : b = p
  ·subst hbp; exact ⟨_,Q0u⟩
  ·obtain ⟨u,q⟩ := s.liv b hb; exact ⟨u,by rw [Q0w hbp]; exact q⟩
 ·by_cases hkn : n = k
  ·subst hkn
   rw [List.getElem?_set_self (List.getElem?_eq_some_iff.mp h).1] at hk
   cases hk
   exact ⟨p,hp,h2,r⟩
  ·rw [List.getElem?_set_ne hkn] at hk
   obtain ⟨b,g1,g2,g3⟩ := s.mt k m2 hk
   have ne : b ≠ p := by
    rintro rfl
    exact hkn ((List.getElem?_inj (List.getElem?_eq_some_iff.mp hp).1 s.nd).mp (hp.trans g1.symm))
   exact ⟨b,g1,g2,g3.ext (Ext.refl _) (Q0w ne)⟩
end
abbrev Rho := List (Option D)
structure EnvR (K : PySem.W.Frag) (G : Wd) (σ : L2.St) (ρ : Rho) : Prop where
 len : σ.length = ρ.length
 get : ∀ (i : Nat) (d : D),ρ[i]? = some (some d) -> ∃ v,σ[i]? = some (some v) /\ Is K G d v
theorem EnvR.ext {K : PySem.W.Frag} {G G' : Wd} {σ : L2.St} {ρ : Rho} (e : Ext G G') (h : EnvR K G σ ρ) : EnvR K G' σ ρ :=
 ⟨h.len,λ i d q => let ⟨v,h1,h2⟩ := h.get i d q; ⟨v,h1,h2.ext e⟩⟩
theorem EnvR.set {K : PySem.W.Frag} {G : Wd} {σ : L2.St} {ρ : Rho} {d : D} {v : V} (i : Nat) (h : EnvR K G σ ρ) (q : Is K G d v) : EnvR K G (σ.set i (some v)) (ρ.set i (some d)) := by
 refine ⟨by simp [h.len],λ j e hj => ?_⟩
 by_cases hij : i = j
 ·subst hij
  by_cases hl : i < ρ.length
  ·rw [List.getElem?_set_self hl] at hj
   cases hj
   exact ⟨v,List.getElem?_set_self (by rw [h.len]; exact hl),q⟩
  ·rw [List.getElem?_eq_none (by simp; omega)] at hj; cases hj
 ·rw [List.getElem?_set_ne hij] at hj ⊢
  exact h.get j e hj
def Ev (X : Cx) (ρ : Rho) (O : Sto) (e : Expr) (R : D -> Sto -> Prop) : Prop :=
 ∀ G,PE X e (λ σ H Q => SA X.K G H O /\ EnvR X.K G σ ρ /\ ∀ v d O' G' H',Ext G G' -> SA X.K G' H' O' -> Is X.K G' d v -> R d O' -> Q v H')
def EvP (X : Cx) (ρ : Rho) (O : Sto) (e : Expr) (d : D) : Prop :=
 ∀ G,PE X e (λ σ H Q => SA X.K G H O /\ EnvR X.K G σ ρ /\ ∀ v G' H',Ext G G' -> SA X.K G' H' O -> Is X.K G' d v -> Q v H')
def EvT (X : Cx) (ρ : Rho) (O : Sto) (e : Expr) (b : Bool) : Prop :=
 ∀ G,PT X e (λ σ H Q => SA X.K G H O /\ EnvR X.K G σ ρ /\ ∀ G' H',Ext G G' -> SA X.K G' H' O -> Q b H')
def EvW (X : Cx) (ρ : Rho) (O : Sto) (e : Expr) (b : Bool) : Prop :=
 ∀ G,PW X e (λ σ H Q => SA X.K G H O /\ EnvR X.K G σ ρ /\ ∀ G' H',Ext G G' -> SA X.K G' H' O -> Q b H')
def EvAs (X : Cx) (ρ : Rho) (O : Sto) (es : List Expr) (R : List D -> Sto -> Prop) : Prop :=
 ∀ G,PA X es (λ σ H Q => SA X.K G H O /\ EnvR X.K G σ ρ /\ ∀ vs ds O' G' H',Ext G G' -> SA X.K G' H' O' -> Iss X.K G' ds vs -> R ds O' -> Q vs H')
theorem _root_.L2.PE.imp {X : Cx} {e : Expr} {t u : TE} (h : PE X e t) (k : ∀ σ H Q,u σ H Q -> t σ H Q) : PE X e u := λ pins s σ H Q I q => h pins s σ H Q I (k _ _ _ q)
theorem _root_.L2.PT.imp {X : Cx} {e : Expr} {t u : TT} (h : PT X e t) (k : ∀ σ H Q,u σ H Q -> t σ H Q) : PT X e u := λ pins s σ H Q I q => h pins s σ H Q I (k _ _ _ q)
theorem _root_.L2.PA.imp {X : Cx} {es : List Expr} {t u : TA} (h : PA X es t) (k : ∀ σ H Q,u σ H Q -> t σ H Q) : PA X es u := λ pos pins s σ H Q I q => h pos pins s σ H Q I (k _ _ _ q)
theorem _root_.L2.PS.imp {X : Cx} {e : Stmt} {t u : TS} (h : PS X e t) (k : ∀ D σ H,u D σ H -> t D σ H) : PS X e u := λ pins s σ H D I q => h pins s σ H D I (k _ _ _ q)
theorem _root_.L2.PSs.imp {X : Cx} {e : List Stmt} {t u : TS} (h : PSs X e t) (k : ∀ D σ H,u D σ H -> t D σ H) : PSs X e u := λ pins s σ H D I q => h pins s σ H D I (k _ _ _ q)
section
variable {X : Cx} {ρ : Rho} {O : Sto} {e a b c : Expr} {d da db : D} {R : D -> Sto -> Prop} {pos : Pos}
theorem EvP.ev (h : EvP X ρ O e d) (r : R d O) : Ev X ρ O e R := λ G => (h G).imp λ σ H Q ⟨s,n,k⟩ => ⟨s,n,λ v G' H' e1 s' i => k v d O G' H' e1 s' i r⟩
theorem Ev.evp (h : Ev X ρ O e λ d' O' => d' = d /\ O' = O) : EvP X ρ O e d := λ G => (h G).imp λ σ H Q ⟨s,n,k⟩ => ⟨s,n,λ v d' O' G' H' e1 s' i r => by obtain ⟨rfl,rfl⟩ := r; exact k v G' H' e1 s' i⟩
theorem EvP.cast {d' : D} (h : EvP X ρ O e d) (q : d = d') : EvP X ρ O e d' := q ▸ h
theorem EvW.t (h : EvW X ρ O e b') : EvT X ρ O e b' := λ G => (h G).pt
theorem EvT.cast {k k' : Bool} (h : EvT X ρ O e k) (q : k = k') : EvT X ρ O e k' := q ▸ h
theorem Q0b (i : Nat) {x : Str} {p : Pos} (hr : ρ[i]? = some (some d) := by rfl) (hN : X.N[i]? = some x := by rfl) (hv : Vis X.env.scope x := by first | exact Or.inl rfl | exact Or.inr (Or.inl rfl) | exact Or.inr (Or.inr rfl))
  (hd : (x == ("__debug__" : Str)) = false := by decide) (hcd : (x == ("__classdict__" : Str)) = false := by decide) : EvP X ρ O (.Name x p) d := λ G =>
 PE.imp (Y0Q hN hv hd hcd) λ σ H Q ⟨s,n,k⟩ => by
  obtain ⟨v,e1,i1⟩ := n.get i d hr
  exact ⟨v,e1,k v G H (Ext.refl _) s i1⟩
theorem Q0g {i : Int} {j : Nat} : EvP X ρ O (.Constant (.int i) j pos) (.int i) := λ G => PE.imp Y0V λ σ H Q ⟨s,n,k⟩ => k _ G H (Ext.refl _) s (.int i)
theorem Z3H {i : Bool} {j : Nat} : EvP X ρ O (.Constant (.bool i) j pos) (.bl i) := λ G => PE.imp pe_bl λ σ H Q ⟨s,n,k⟩ => k _ G H (Ext.refl _) s (.bl i)
theorem Q4w {j : Nat} : EvP X ρ O (.Constant .none j pos) .non := λ G => PE.imp Y0U λ σ H Q ⟨s,n,k⟩ => k _ G H (Ext.refl _) s .non
theorem Q6Q {x : Str} {j : Nat} : EvP X ρ O (.Constant (.str x) j pos) (.str x) := λ G => PE.imp Y0R λ σ H Q ⟨s,n,k⟩ => k _ G H (Ext.refl _) s (.str x)
def Op2 (X : Cx) (O : Sto) (f : Value -> Value -> Sem Value) (da db d : D) : Prop :=
 ∀ G,OpR X f (λ v u H Q => SA X.K G H O /\ Is X.K G da v /\ Is X.K G db u /\ ∀ w G' H',Ext G G' -> SA X.K G' H' O -> Is X.K G' d w -> Q w H')
theorem Op2.of {f : Value -> Value -> Sem Value} {r : R2} (ho : OpR X f r)
  (k : ∀ G v u H Q,SA X.K G H O -> Is X.K G da v -> Is X.K G db u -> (∀ w G' H',Ext G G' -> SA X.K G' H' O -> Is X.K G' d w -> Q w H') -> r v u H Q) : Op2 X O f da db d :=
 λ G pins s σ H x y v u Q I rx ry ⟨h1,h2,h3,h4⟩ => ho pins s σ H x y v u Q I rx ry (k G _ _ _ _ h1 h2 h3 h4)
theorem Q0m {op : Operator} (ha : EvP X ρ O a da) (hb : EvP X ρ O b db) (ho : Op2 X O (binaryOp op) da db d) : EvP X ρ O (.BinOp a op b pos) d := λ G pins s σ H Q I ⟨h1,h2,h3⟩ =>
 wpAny_BinOp (binT (ta := λ σ H Q => SA X.K G H O /\ EnvR X.K G σ ρ /\ ∀ v G' H',Ext G G' -> SA X.K G' H' O -> Is X.K G' da v -> Q v H') (ha G)
  (tb := λ σ H Q => ∃ G1 v0,SA X.K G1 H O /\ EnvR X.K G1 σ ρ /\ ∀ v G' H',Ext G1 G' -> SA X.K G' H' O -> Is X.K G' db v -> Q v H') (λ pins s σ H Q I ⟨G1,_,q⟩ => hb G1 pins s σ H Q I q) I
  (R := λ x y H2 => ∃ G2,Ext G G2 /\ SA X.K G2 H2 O /\ Is X.K G2 da x /\ Is X.K G2 db y)
  ⟨h1,h2,λ v G1 H1 e1 s1 i1 => ⟨G1,(0 : Nat),s1,h2.ext e1,λ u G2 H2 e2 s2 i2 => ⟨G2,e1.trans e2,s2,i1.ext e2,i2⟩⟩⟩
  λ v u s2 x y H2 I2 rx ry ⟨G2,e2,s2',i1,i2⟩ => ho G2 pins s2 σ H2 x y v u Q I2 rx ry ⟨s2',i1,i2,λ w G3 H3 e3 s3 i3 => h3 w G3 H3 (e2.trans e3) s3 i3⟩)
theorem Y1e {f : Value -> Value -> Sem Value} {g : Int -> Int -> Int} {i j : Int} (ho : OpR X f (rI0 λ i j => .int (g i j))) : Op2 X O f (.int i) (.int j) (.int (g i j)) :=
 .of ho λ G v u H Q s h1 h2 k => by cases h1; cases h2; exact ⟨i,j,rfl,rfl,k _ G H (Ext.refl _) s (.int _)⟩
theorem Z5h {f : Value -> Value -> Sem Value} {C : Int -> Int -> Prop} {g : Int -> Int -> Int} {i j : Int} (ho : OpR X f (rI C λ i j => .int (g i j))) (hc : C i j) : Op2 X O f (.int i) (.int j) (.int (g i j)) :=
 .of ho λ G v u H Q s h1 h2 k => by cases h1; cases h2; exact ⟨i,j,rfl,rfl,hc,k _ G H (Ext.refl _) s (.int _)⟩
theorem Z2j {f : Value -> Value -> Sem Value} {g : Int -> Int -> Bool} {i j : Int} (ho : OpR X f (rI0 λ i j => .bl (g i j))) : Op2 X O f (.int i) (.int j) (.bl (g i j)) :=
 .of ho λ G v u H Q s h1 h2 k => by cases h1; cases h2; exact ⟨i,j,rfl,rfl,k _ G H (Ext.refl _) s (.bl _)⟩
theorem Q1X {i j : Int} : Op2 X O (binaryOp .Add) (.int i) (.int j) (.int (i + j)) := Y1e Y1b
theorem Z1j {i j : Int} : Op2 X O (binaryOp .Sub) (.int i) (.int j) (.int (i - j)) := Y1e Y0Y
theorem Z9q : OpR X (binaryOp .Mult) (rI IntMulOk λ i j => .int (i * j)) := opI λ _ _ _ _ _ _ _ hc q => mul_int q hc
theorem Q2Z {i j : Int} (h : IntMulOk i j) : Op2 X O (binaryOp .Mult) (.int i) (.int j) (.int (i * j)) := Z5h Z9q h
theorem Q4r {i j : Int} (h : CDiv i j) : Op2 X O (binaryOp .FloorDiv) (.int i) (.int j) (.int (i / j)) := Z5h Z9r h
theorem Q1Q {i j : Int} (h : 0 < j) : Op2 X O (binaryOp .Mod) (.int i) (.int j) (.int (i % j)) := Z5h (C := λ _ j => 0 < j) Y0Z h
theorem Y1B {i j : Int} : Op2 X O (compareOp .Lt) (.int i) (.int j) (.bl (decide (i < j))) := Z2j op_lt
theorem Z2D {i j : Int} : Op2 X O (compareOp .LtE) (.int i) (.int j) (.bl (decide (i <= j))) := Z2j op_le
theorem Z0n {i j : Int} : Op2 X O (compareOp .Gt) (.int i) (.int j) (.bl (decide (j < i))) := Z2j op_gt
theorem Y1C {i j : Int} : Op2 X O (compareOp .GtE) (.int i) (.int j) (.bl (decide (j <= i))) := Z2j op_ge
theorem Y1z {i j : Int} : decide (V.int i = V.int j) = decide (i = j) := by
 by_cases h : i = j
 ·subst h; rw [decide_eq_true rfl,decide_eq_true rfl]
 ·rw [decide_eq_false h,decide_eq_false]; intro z; injection z with z; exact h z
theorem Q0M {i j : Int} : Op2 X O (compareOp .Eq) (.int i) (.int j) (.bl (decide (i = j))) :=
 .of op_eq λ G v u H Q s h1 h2 k => by cases h1; cases h2; exact ⟨rfl,by rw [Y1z]; exact k _ G H (Ext.refl _) s (.bl _)⟩
theorem Z1w {i j : Int} : Op2 X O (compareOp .NotEq) (.int i) (.int j) (.bl (!decide (i = j))) :=
 .of op_ne λ G v u H Q s h1 h2 k => by cases h1; cases h2; exact ⟨rfl,by rw [Y1z]; exact k _ G H (Ext.refl _) s (.bl _)⟩
def isN : D -> Bool
 | .non => true
 | _ => false
theorem Z8v {K : PySem.W.Frag} {G : Wd} {v : V} (h : Is K G d v) : decide (v = V.non) = isN d := by
 cases h <;> first | rfl | exact decide_eq_false (λ z => by cases z)
theorem Q6U : Op2 X O (compareOp .Is) da .non (.bl (isN da)) :=
 .of Y1a λ G v u H Q s h1 h2 k => by cases h2; exact ⟨rfl,by rw [Z8v h1]; exact k _ G H (Ext.refl _) s (.bl _)⟩
theorem Z5Z : Op2 X O (compareOp .IsNot) da .non (.bl (!isN da)) :=
 .of Z9p λ G v u H Q s h1 h2 k => by cases h2; exact ⟨rfl,by rw [Z8v h1]; exact k _ G H (Ext.refl _) s (.bl _)⟩
theorem Q5d {op : CmpOp} (ha : EvP X ρ O a da) (hb : EvP X ρ O b db) (ho : Op2 X O (compareOp op) da db d) (hm : behindInMarks op b = false := by first | exact Z8t _ | (with_unfolding_all rfl)) : EvP X ρ O (.Compare a [op] [b] pos) d := λ G pins s σ H Q I ⟨h1,h2,h3⟩ =>
 wpAny_Compare1 (binT (ta := λ σ H Q => SA X.K G H O /\ EnvR X.K G σ ρ /\ ∀ v G' H',Ext G G' -> SA X.K G' H' O -> Is X.K G' da v -> Q v H') (ha G)
  (tb := λ σ H Q => ∃ G1 v0,SA X.K G1 H O /\ EnvR X.K G1 σ ρ /\ ∀ v G' H',Ext G1 G' -> SA X.K G' H' O -> Is X.K G' db v -> Q v H') (λ pins s σ H Q I ⟨G1,_,q⟩ => hb G1 pins s σ H Q I q) I
  (R := λ x y H2 => ∃ G2,Ext G G2 /\ SA X.K G2 H2 O /\ Is X.K G2 da x /\ Is X.K G2 db y)
  ⟨h1,h2,λ v G1 H1 e1 s1 i1 => ⟨G1,(0 : Nat),s1,h2.ext e1,λ u G2 H2 e2 s2 i2 => ⟨G2,e1.trans e2,s2,i1.ext e2,i2⟩⟩⟩
  λ v u s2 x y H2 I2 rx ry ⟨G2,e2,s2',i1,i2⟩ => ho G2 pins s2 σ H2 x y v u Q I2 rx ry ⟨s2',i1,i2,λ w G3 H3 e3 s3 i3 => h3 w G3 H3 (e2.trans e3) s3 i3⟩) hm
theorem Q0I {op : CmpOp} {k : Bool} (ha : EvP X ρ O a da) (hb : EvP X ρ O b db) (ho : Op2 X O (compareOp op) da db (.bl k)) (hm : behindInMarks op b = false := by first | exact Z8t _ | (with_unfolding_all rfl)) : EvT X ρ O (.Compare a [op] [b] pos) k := λ G pins s σ H Q I ⟨h1,h2,h3⟩ => by
 refine wpAny_isTrue_Compare1 (thn (ha G pins s σ H _ I ⟨h1,h2,λ v G1 H1 e1 s1 i1 => (⟨G1,e1,s1,i1⟩ : ∃ G1,Ext G G1 /\ SA X.K G1 H1 O /\ Is X.K G1 da v)⟩) λ v s1 ⟨x,H1,I1,r1,G1,e1,sa1,i1⟩ =>
  thn (hb G1 pins s1 σ H1 _ I1 ⟨sa1,h2.ext e1,λ u G2 H2 e2 s2 i2 => (⟨G2,e2,s2,i2⟩ : ∃ G2,Ext G1 G2 /\ SA X.K G2 H2 O /\ Is X.K G2 db u)⟩) λ u s2 ⟨y,H2,I2,r2,G2,e2,sa2,i2⟩ =>
  thn (ho G2 pins s2 σ H2 x y v u _ I2 r1 r2 ⟨sa2,i1.ext e2,i2,λ w G3 H3 e3 s3 i3 => (⟨G3,e3,s3,i3⟩ : ∃ G3,Ext G2 G3 /\ SA X.K G3 H3 O /\ Is X.K G3 (.bl k) w)⟩) λ c s3 ⟨z,H3,I3,r3,G3,e3,sa3,i3⟩ => ?_) hm
 cases i3
 cases r3
 exact wpAny_truthy_bool ⟨H3,I3,h3 G3 H3 ((e1.trans e2).trans e3) sa3⟩
theorem Q2R {k : Bool} (ha : EvP X ρ O a (.bl k)) (he : ∀ whole,isTrue a X.env whole = (do let v <- whole; standAt a.pos; holding [v] (truthy v)) := by intro _; rfl) : EvT X ρ O a k := λ G =>
 (Z2e (ha G) he).imp λ σ H Q ⟨h1,h2,h3⟩ => ⟨h1,h2,λ v G' H' e1 s1 i1 => by cases i1; exact ⟨k,rfl,h3 G' H' e1 s1⟩⟩
theorem Q2x {k : Bool} (ha : EvT X ρ O a k) : EvT X ρ O (.UnaryOp .Not a pos) (!k) := λ G =>
 (Z8m (ha G)).imp λ σ H Q ⟨h1,h2,h3⟩ => ⟨h1,h2,λ G' H' e1 s1 => h3 G' H' e1 s1⟩
theorem Z9R {k : Bool} (ha : EvT X ρ O a k) : EvW X ρ O (.BoolOp .And [a] pos) k := λ G => Z9e (ha G)
theorem Q8b {k : Bool} (ha : EvT X ρ O a k) : EvW X ρ O (.BoolOp .Or [a] pos) k := λ G => Y0E (ha G)
theorem Y1s {k l : Bool} {rest : List Expr} (ha : EvT X ρ O a k) (hb : k = true -> EvW X ρ O (.BoolOp .And (b :: rest) pos) l) : EvW X ρ O (.BoolOp .And (a :: b :: rest) pos) (k && l) := λ G wh pins s σ H Q I ⟨h1,h2,h3⟩ => by
 refine isTrue_and (thn (ha G pins s σ H (λ c H1 => c = k /\ ∃ G1,Ext G G1 /\ SA X.K G1 H1 O) I ⟨h1,h2,λ G1 H1 e1 s1 => ⟨rfl,G1,e1,s1⟩⟩) ?_)
 rintro c s1 ⟨H1,I1,rfl,G1,e1,sa1⟩
 cases c with
 | false => exact ⟨H1,I1,h3 G1 H1 e1 sa1⟩
 | true => exact hb rfl G1 wh pins s1 σ H1 Q I1 ⟨sa1,h2.ext e1,λ G2 H2 e2 s2 => h3 G2 H2 (e1.trans e2) s2⟩
theorem Z3E {k l : Bool} {rest : List Expr} (ha : EvT X ρ O a k) (hb : k = false -> EvW X ρ O (.BoolOp .Or (b :: rest) pos) l) : EvW X ρ O (.BoolOp .Or (a :: b :: rest) pos) (k || l) := λ G wh pins s σ H Q I ⟨h1,h2,h3⟩ => by
 refine isTrue_or (thn (ha G pins s σ H (λ c H1 => c = k /\ ∃ G1,Ext G G1 /\ SA X.K G1 H1 O) I ⟨h1,h2,λ G1 H1 e1 s1 => ⟨rfl,G1,e1,s1⟩⟩) ?_)
 rintro c s1 ⟨H1,I1,rfl,G1,e1,sa1⟩
 cases c with
 | true => exact ⟨H1,I1,h3 G1 H1 e1 sa1⟩
 | false => exact hb rfl G1 wh pins s1 σ H1 Q I1 ⟨sa1,h2.ext e1,λ G2 H2 e2 s2 => h3 G2 H2 (e1.trans e2) s2⟩
theorem Q5c {op : BoolOp} (ha : EvP X ρ O a d) : EvP X ρ O (.BoolOp op [a] pos) d := λ G => Y0S (ha G)
theorem Q4x {k l : Bool} {rest : List Expr} (ha : EvP X ρ O a (.bl k)) (hb : k = true -> EvP X ρ O (.BoolOp .And (b :: rest) pos) (.bl l)) : EvP X ρ O (.BoolOp .And (a :: b :: rest) pos) (.bl (k && l)) := λ G pins s σ H Q I ⟨h1,h2,h3⟩ => by
 refine BoolOp_and (thn (ha G pins s σ H (λ v H1 => ∃ G1,Ext G G1 /\ SA X.K G1 H1 O /\ Is X.K G1 (.bl k) v) I ⟨h1,h2,λ v G1 H1 e1 s1 i1 => ⟨G1,e1,s1,i1⟩⟩) ?_)
 rintro v s1 ⟨x,H1,I1,r1,G1,e1,sa1,i1⟩
 cases i1
 cases r1
 refine wpAny_truthy_bool ?_
 cases k with
 | false => exact ⟨.bl false,H1,I1,rfl,h3 _ G1 H1 e1 sa1 (.bl _)⟩
 | true => exact hb rfl G1 pins s1 σ H1 Q I1 ⟨sa1,h2.ext e1,λ w G2 H2 e2 s2 i2 => h3 w G2 H2 (e1.trans e2) s2 i2⟩
theorem ev_or {k l : Bool} {rest : List Expr} (ha : EvP X ρ O a (.bl k)) (hb : k = false -> EvP X ρ O (.BoolOp .Or (b :: rest) pos) (.bl l)) : EvP X ρ O (.BoolOp .Or (a :: b :: rest) pos) (.bl (k || l)) := λ G pins s σ H Q I ⟨h1,h2,h3⟩ => by
 refine BoolOp_or (thn (ha G pins s σ H (λ v H1 => ∃ G1,Ext G G1 /\ SA X.K G1 H1 O /\ Is X.K G1 (.bl k) v) I ⟨h1,h2,λ v G1 H1 e1 s1 i1 => ⟨G1,e1,s1,i1⟩⟩) ?_)
 rintro v s1 ⟨x,H1,I1,r1,G1,e1,sa1,i1⟩
 cases i1
 cases r1
 refine wpAny_truthy_bool ?_
 cases k with
 | true => exact ⟨.bl true,H1,I1,rfl,h3 _ G1 H1 e1 sa1 (.bl _)⟩
 | false => exact hb rfl G1 pins s1 σ H1 Q I1 ⟨sa1,h2.ext e1,λ w G2 H2 e2 s2 i2 => h3 w G2 H2 (e1.trans e2) s2 i2⟩
theorem Z8y {k : Bool} (ha : EvP X ρ O a (.bl k)) : EvP X ρ O (.UnaryOp .Not a pos) (.bl (!k)) := λ G => (Y0T (ha G)).imp λ σ H Q ⟨h1,h2,h3⟩ => ⟨h1,h2,λ v G1 H1 e1 s1 i1 => by
 cases i1
 exact ⟨k,rfl,h3 _ G1 H1 e1 s1 (.bl _)⟩⟩
theorem ev_if {k : Bool} (hc : EvT X ρ O c k) (ha : k = true -> EvP X ρ O a da) (hb : k = false -> EvP X ρ O b db) : EvP X ρ O (.IfExp c a b pos) (if k = true then da else db) := λ G pins s σ H Q I ⟨h1,h2,h3⟩ => by
 cases k with
 | true =>
  exact (Z2f (tA := λ σ H Q => SA X.K G H O /\ EnvR X.K G σ ρ /\ ∀ G' H',Ext G G' -> SA X.K G' H' O -> Q true H') (hc G) (λ pins s σ H Q I (q : ∃ G1,SA X.K G1 H O /\ EnvR X.K G1 σ ρ /\ ∀ v G' H',Ext G1 G' -> SA X.K G' H' O -> Is X.K G' da v -> Q v H') => let ⟨G1,q⟩ := q; ha rfl G1 pins s σ H Q I q)
   (λ pins s σ H Q I (q : False) => q.elim)) pins s σ H Q I ⟨h1,h2,λ G1 H1 e1 s1 => iteT ⟨G1,s1,h2.ext e1,λ v G2 H2 e2 s2 i2 => h3 v G2 H2 (e1.trans e2) s2 i2⟩⟩
 | false =>
  exact (Z2f (tA := λ σ H Q => SA X.K G H O /\ EnvR X.K G σ ρ /\ ∀ G' H',Ext G G' -> SA X.K G' H' O -> Q false H') (hc G) (λ pins s σ H Q I (q : False) => q.elim)
   (λ pins s σ H Q I (q : ∃ G1,SA X.K G1 H O /\ EnvR X.K G1 σ ρ /\ ∀ v G' H',Ext G1 G' -> SA X.K G' H' O -> Is X.K G' db v -> Q v H') => let ⟨G1,q⟩ := q; hb rfl G1 pins s σ H Q I q)) pins s σ H Q I ⟨h1,h2,λ G1 H1 e1 s1 => iteF ⟨G1,s1,h2.ext e1,λ v G2 H2 e2 s2 i2 => h3 v G2 H2 (e1.trans e2) s2 i2⟩⟩
theorem Z7H {op op' : CmpOp} {k l : Bool} {dc : D} (ha : EvP X ρ O a da) (hb : EvP X ρ O b db) (hc : EvP X ρ O c dc) (ho : Op2 X O (compareOp op) da db (.bl k)) (ho' : k = true -> Op2 X O (compareOp op') db dc (.bl l))
  (hm : lastMarks [op,op'] [b,c] = false := by with_unfolding_all rfl) : EvP X ρ O (.Compare a [op,op'] [b,c] pos) (.bl (k && l)) := λ G pins s σ H Q I ⟨h1,h2,h3⟩ => by
 refine Compare_chain (thn (ha G pins s σ H (λ v H1 => ∃ G1,Ext G G1 /\ SA X.K G1 H1 O /\ Is X.K G1 da v) I ⟨h1,h2,λ v G1 H1 e1 s1 i1 => ⟨G1,e1,s1,i1⟩⟩) ?_) hm
 rintro v s1 ⟨x,H1,I1,r1,G1,e1,sa1,i1⟩
 refine chain_link (thn (hb G1 pins s1 σ H1 (λ v H2 => ∃ G2,Ext G1 G2 /\ SA X.K G2 H2 O /\ Is X.K G2 db v) I1 ⟨sa1,h2.ext e1,λ v G2 H2 e2 s2 i2 => ⟨G2,e2,s2,i2⟩⟩) ?_)
 rintro u s2 ⟨y,H2,I2,r2,G2,e2,sa2,i2⟩
 refine thn (ho G2 pins s2 σ H2 x y v u (λ w H3 => ∃ G3,Ext G2 G3 /\ SA X.K G3 H3 O /\ Is X.K G3 (.bl k) w) I2 r1 r2 ⟨sa2,i1.ext e2,i2,λ w G3 H3 e3 s3 i3 => ⟨G3,e3,s3,i3⟩⟩) ?_
 rintro w s3 ⟨z,H3,I3,r3,G3,e3,sa3,i3⟩
 cases i3
 cases r3
 refine wpAny_truthy_bool ?_
 cases k with
 | false => exact ite_ff ⟨.bl false,H3,I3,rfl,h3 _ G3 H3 ((e1.trans e2).trans e3) sa3 (.bl _)⟩
 | true =>
  refine ite_tt (chain_last (thn (hc G3 pins s3 σ H3 (λ v H4 => ∃ G4,Ext G3 G4 /\ SA X.K G4 H4 O /\ Is X.K G4 dc v) I3 ⟨sa3,h2.ext ((e1.trans e2).trans e3),λ v G4 H4 e4 s4 i4 => ⟨G4,e4,s4,i4⟩⟩) ?_))
  rintro q s4 ⟨z',H4,I4,r4,G4,e4,sa4,i4⟩
  exact ho' rfl G4 pins s4 σ H4 y z' u q Q I4 r2 r4 ⟨sa4,i2.ext (e3.trans e4),i4,λ w G5 H5 e5 s5 i5 => h3 w G5 H5 ((((e1.trans e2).trans e3).trans e4).trans e5) s5 i5⟩
theorem Z7J {op op' : CmpOp} {k l : Bool} {dc : D} (ha : EvP X ρ O a da) (hb : EvP X ρ O b db) (hc : EvP X ρ O c dc) (ho : Op2 X O (compareOp op) da db (.bl k)) (ho' : k = true -> Op2 X O (compareOp op') db dc (.bl l))
  (hm : lastMarks [op,op'] [b,c] = false := by with_unfolding_all rfl) : EvT X ρ O (.Compare a [op,op'] [b,c] pos) (k && l) := λ G pins s σ H Q I ⟨h1,h2,h3⟩ => by
 refine isTrue_chain (thn (ha G pins s σ H (λ v H1 => ∃ G1,Ext G G1 /\ SA X.K G1 H1 O /\ Is X.K G1 da v) I ⟨h1,h2,λ v G1 H1 e1 s1 i1 => ⟨G1,e1,s1,i1⟩⟩) ?_) hm
 rintro v s1 ⟨x,H1,I1,r1,G1,e1,sa1,i1⟩
 refine test_link (thn (hb G1 pins s1 σ H1 (λ v H2 => ∃ G2,Ext G1 G2 /\ SA X.K G2 H2 O /\ Is X.K G2 db v) I1 ⟨sa1,h2.ext e1,λ v G2 H2 e2 s2 i2 => ⟨G2,e2,s2,i2⟩⟩) ?_)
 rintro u s2 ⟨y,H2,I2,r2,G2,e2,sa2,i2⟩
 refine thn (ho G2 pins s2 σ H2 x y v u (λ w H3 => ∃ G3,Ext G2 G3 /\ SA X.K G3 H3 O /\ Is X.K G3 (.bl k) w) I2 r1 r2 ⟨sa2,i1.ext e2,i2,λ w G3 H3 e3 s3 i3 => ⟨G3,e3,s3,i3⟩⟩) ?_
 rintro w s3 ⟨z,H3,I3,r3,G3,e3,sa3,i3⟩
 cases i3
 cases r3
 refine wpAny_truthy_bool ?_
 cases k with
 | false => exact ite_ff ⟨H3,I3,h3 G3 H3 ((e1.trans e2).trans e3) sa3⟩
 | true =>
  refine ite_tt (test_last (thn (hc G3 pins s3 σ H3 (λ v H4 => ∃ G4,Ext G3 G4 /\ SA X.K G4 H4 O /\ Is X.K G4 dc v) I3 ⟨sa3,h2.ext ((e1.trans e2).trans e3),λ v G4 H4 e4 s4 i4 => ⟨G4,e4,s4,i4⟩⟩) ?_))
  rintro q s4 ⟨z',H4,I4,r4,G4,e4,sa4,i4⟩
  refine thn (ho' rfl G4 pins s4 σ H4 y z' u q (λ w H5 => ∃ G5,Ext G4 G5 /\ SA X.K G5 H5 O /\ Is X.K G5 (.bl l) w) I4 r2 r4 ⟨sa4,i2.ext (e3.trans e4),i4,λ w G5 H5 e5 s5 i5 => ⟨G5,e5,s5,i5⟩⟩) ?_
  rintro q' s5 ⟨z2,H5,I5,r5,G5,e5,sa5,i5⟩
  cases i5
  cases r5
  exact wpAny_truthy_bool ⟨H5,I5,h3 G5 H5 ((((e1.trans e2).trans e3).trans e4).trans e5) sa5⟩
end
def LV (O : Sto) (d : D) (xs : List D) : Prop := d = .lst xs \/ d = .scr xs \/ ∃ n,d = .ptr n /\ O[n]? = some (some (.lst xs))
def LT (O : Sto) (d : D) (xs : List D) : Prop := LV O d xs \/ d = .tup xs
theorem LV.sq {K : PySem.W.Frag} {G : Wd} {H : Hp} {O : Sto} {d : D} {xs : List D} {v : V} (h : LV O d xs) (s : SA K G H O) (i : Is K G d v) : ∃ a vs,v = .ref a /\ SqL K H a vs /\ Iss K G xs vs := by
 rcases h with rfl | rfl | ⟨p,rfl,h⟩
 ·cases i with | lst h r => exact ⟨_,_,rfl,SqL.of (s.sub _ _ h),r⟩
 ·cases i with | scr h r => exact ⟨_,_,rfl,s.sub.seq h,r⟩
 ·cases i with
  | ptr _ q =>
   obtain ⟨a,e,_,vs,h1,h2⟩ := s.mt p _ h
   obtain rfl := Option.some.inj (q.symm.trans e)
   exact ⟨_,vs,rfl,SqL.of h1,h2⟩
theorem Q3a {K : PySem.W.Frag} {G : Wd} {H : Hp} {O : Sto} {xs : List D} {v : V} (s : SA K G H O) (i : Is K G (.tup xs) v) : ∃ a vs,v = .ref a /\ SqT K H a vs /\ Iss K G xs vs := by
 cases i with | tup h r => exact ⟨_,_,rfl,Q0V s.sub h,r⟩
def EvPs (X : Cx) (ρ : Rho) (O : Sto) (es : List Expr) (ds : List D) : Prop :=
 ∀ G,PA X es (λ σ H Q => SA X.K G H O /\ EnvR X.K G σ ρ /\ ∀ vs G' H',Ext G G' -> SA X.K G' H' O -> Iss X.K G' ds vs -> Q vs H')
section
variable {X : Cx} {ρ : Rho} {O : Sto} {e a b c : Expr} {es : List Expr} {d da db : D} {ds : List D} {R : D -> Sto -> Prop} {pos p : Pos} {x : Str}
theorem Q0d : EvPs X ρ O [] [] := λ G => PA.imp Z2h λ σ H Q ⟨h1,h2,h3⟩ => h3 _ G H (Ext.refl _) h1 .nil
theorem Q0a (he : EvP X ρ O e d) (hs : EvPs X ρ O es ds) (hst : starEach (e :: es) X.env = (false,eval e X.env) :: starEach es X.env := by rfl) : EvPs X ρ O (e :: es) (d :: ds) := λ G =>
 PA.imp (Q4Q (he G) (t := λ σ H Q => ∃ G1,SA X.K G1 H O /\ EnvR X.K G1 σ ρ /\ ∀ vs G' H',Ext G1 G' -> SA X.K G' H' O -> Iss X.K G' ds vs -> Q vs H') (λ pos pins s σ H Q I ⟨G1,q⟩ => hs G1 pos pins s σ H Q I q) hst)
  λ σ H Q ⟨h1,h2,h3⟩ => ⟨h1,h2,λ v G1 H1 e1 s1 i1 => ⟨G1,s1,h2.ext e1,λ vs G2 H2 e2 s2 i2 => h3 _ G2 H2 (e1.trans e2) s2 (.cons (i1.ext e2) i2)⟩⟩
theorem Q1a {R : List D -> Sto -> Prop} (he : Ev X ρ O e λ d O1 => EvAs X ρ O1 es λ ds O2 => R (d :: ds) O2) (hst : starEach (e :: es) X.env = (false,eval e X.env) :: starEach es X.env := by rfl) : EvAs X ρ O (e :: es) R := λ G =>
 PA.imp (Q4Q (he G) (t := λ σ H Q => ∃ G1 d O1,SA X.K G1 H O1 /\ EnvR X.K G1 σ ρ /\ (EvAs X ρ O1 es λ ds O2 => R (d :: ds) O2) /\ ∀ vs ds O2 G' H',Ext G1 G' -> SA X.K G' H' O2 -> Iss X.K G' ds vs -> R (d :: ds) O2 -> Q vs H') (λ pos pins s σ H Q I ⟨G1,d,O1,q1,q2,q3,q4⟩ => q3 G1 pos pins s σ H Q I ⟨q1,q2,q4⟩) hst)
  λ σ H Q ⟨h1,h2,h3⟩ => ⟨h1,h2,λ v d O1 G1 H1 e1 s1 i1 r1 => ⟨G1,d,O1,s1,h2.ext e1,r1,λ vs ds O2 G2 H2 e2 s2 i2 r2 => h3 _ (d :: ds) O2 G2 H2 (e1.trans e2) s2 (.cons (i1.ext e2) i2) r2⟩⟩
theorem EvPs.as {R : List D -> Sto -> Prop} (h : EvPs X ρ O es ds) (r : R ds O) : EvAs X ρ O es R := λ G => PA.imp (h G) λ σ H Q ⟨h1,h2,h3⟩ => ⟨h1,h2,λ vs G' H' e1 s1 i1 => h3 vs ds O G' H' e1 s1 i1 r⟩
theorem Q2X {x1 : Nat} (h : EvPs X ρ O es ds) (hz : ds.length <= sizeLine := by exact Nat.le_of_ble_eq_true rfl) : EvP X ρ O (.Tuple es x1 pos) (.tup ds) := λ G =>
 PE.imp (Z8p (h G)) λ σ H Q ⟨h1,h2,h3⟩ => ⟨h1,h2,λ vs G1 H1 e1 s1 i1 => ⟨by rw [<- i1.length]; exact hz,λ p hp => by
  obtain ⟨e2,s2⟩ := s1.laid (o := .tup vs) hp
  exact h3 _ _ _ (e1.trans e2) s2 (.tup (SqT.of Q0u) (i1.ext e2))⟩⟩
theorem Z2t (h : EvPs X ρ O es ds) (hz : ds.length <= sizeLine := by exact Nat.le_of_ble_eq_true rfl) : EvP X ρ O (.List es pos) (.lst ds) := λ G =>
 PE.imp (Z8q (h G)) λ σ H Q ⟨h1,h2,h3⟩ => ⟨h1,h2,λ vs G1 H1 e1 s1 i1 => ⟨by rw [<- i1.length]; exact hz,λ p hp => by
  obtain ⟨e2,s2⟩ := s1.laid (o := .lst vs) hp
  exact h3 _ _ _ (e1.trans e2) s2 (.lst Q0u (i1.ext e2))⟩⟩
theorem Q4W (h : EvPs X ρ O es ds) (k : R (.ptr O.length) (O ++ [some (.lst ds)])) (hz : ds.length <= sizeLine := by exact Nat.le_of_ble_eq_true rfl) : Ev X ρ O (.List es pos) R := λ G =>
 PE.imp (Z8q (h G)) λ σ H Q ⟨h1,h2,h3⟩ => ⟨h1,h2,λ vs G1 H1 e1 s1 i1 => ⟨by rw [<- i1.length]; exact hz,λ p hp => by
  have e : Ext G1 ⟨G1.g,G1.l ++ [p]⟩ := ⟨Same.refl _,[p],rfl⟩
  obtain ⟨e2,s2⟩ := s1.new (m := .lst ds) hp ⟨vs,Q0u,i1.ext e⟩
  refine h3 _ _ _ _ _ (e1.trans e2) s2 (.ptr _ ?_) k
  rw [<- s1.len,List.getElem?_append_right (Nat.le_refl _),Nat.sub_self]; rfl⟩⟩
theorem Z5v {xs : List D} {vs : List V} {K : PySem.W.Frag} {G : Wd} {i : Int} (r : Iss K G xs vs) (h : atI xs i = some d) : ∃ v,atI vs i = some v /\ Is K G d v := by
 unfold atI at h ⊢
 rw [<- r.length]
 cases q : ixN xs.length i with
 | none => rw [q] at h; cases h
 | some j =>
  rw [q] at h
  exact r.get h
theorem Z0h {xs : List D} {i : Int} (ha : EvP X ρ O a da) (hl : LV O da xs) (hb : EvP X ρ O b (.int i)) (hi : atI xs i = some d) (hs : Z6t b := by intro _ _; rfl) : EvP X ρ O (.Subscript a b pos) d := λ G pins s σ H Q I ⟨h1,h2,h3⟩ =>
 Subscript_ (binT (ta := λ σ H Q => SA X.K G H O /\ EnvR X.K G σ ρ /\ ∀ v G' H',Ext G G' -> SA X.K G' H' O -> Is X.K G' da v -> Q v H') (ha G)
  (tb := λ σ H Q => ∃ G1,SA X.K G1 H O /\ EnvR X.K G1 σ ρ /\ ∀ v G' H',Ext G1 G' -> SA X.K G' H' O -> Is X.K G' (.int i) v -> Q v H') (λ pins s σ H Q I ⟨G1,q⟩ => hb G1 pins s σ H Q I q) I
  (R := λ x y H2 => ∃ G2,Ext G G2 /\ SA X.K G2 H2 O /\ Is X.K G2 da x /\ Is X.K G2 (.int i) y)
  ⟨h1,h2,λ v G1 H1 e1 s1 i1 => ⟨G1,s1,h2.ext e1,λ u G2 H2 e2 s2 i2 => ⟨G2,e1.trans e2,s2,i1.ext e2,i2⟩⟩⟩
  λ v u s2 x y H2 I2 rx ry ⟨G2,e2,s2',i1,i2⟩ => by
   obtain ⟨p,vs,rfl,q,r⟩ := hl.sq s2' i1
   cases i2
   obtain ⟨w,hw,iw⟩ := Z5v r hi
   exact Z9C a b pins s2 σ H2 _ _ v u Q I2 rx ry ⟨p,vs,i,w,rfl,rfl,q,hw,h3 w G2 H2 e2 s2' iw⟩ (hs _ _))
theorem Q1p {xs : List D} {i : Int} (ha : EvP X ρ O a (.tup xs)) (hb : EvP X ρ O b (.int i)) (hi : atI xs i = some d) (hs : Z6t b := by intro _ _; rfl) : EvP X ρ O (.Subscript a b pos) d := λ G pins s σ H Q I ⟨h1,h2,h3⟩ =>
 Subscript_ (binT (ta := λ σ H Q => SA X.K G H O /\ EnvR X.K G σ ρ /\ ∀ v G' H',Ext G G' -> SA X.K G' H' O -> Is X.K G' (.tup xs) v -> Q v H') (ha G)
  (tb := λ σ H Q => ∃ G1,SA X.K G1 H O /\ EnvR X.K G1 σ ρ /\ ∀ v G' H',Ext G1 G' -> SA X.K G' H' O -> Is X.K G' (.int i) v -> Q v H') (λ pins s σ H Q I ⟨G1,q⟩ => hb G1 pins s σ H Q I q) I
  (R := λ x y H2 => ∃ G2,Ext G G2 /\ SA X.K G2 H2 O /\ Is X.K G2 (.tup xs) x /\ Is X.K G2 (.int i) y)
  ⟨h1,h2,λ v G1 H1 e1 s1 i1 => ⟨G1,s1,h2.ext e1,λ u G2 H2 e2 s2 i2 => ⟨G2,e1.trans e2,s2,i1.ext e2,i2⟩⟩⟩
  λ v u s2 x y H2 I2 rx ry ⟨G2,e2,s2',i1,i2⟩ => by
   obtain ⟨p,vs,rfl,q,r⟩ := Q3a s2' i1
   cases i2
   obtain ⟨w,hw,iw⟩ := Z5v r hi
   exact Y1l a b pins s2 σ H2 _ _ v u Q I2 rx ry ⟨p,vs,i,w,rfl,rfl,q,hw,h3 w G2 H2 e2 s2' iw⟩ (hs _ _))
def Q5U (xs : List D) (lo hi : Option Int) : List D := (xs.drop (HT.sIx xs.length 0 lo)).take (HT.sIx xs.length xs.length hi - HT.sIx xs.length 0 lo)
theorem Y1A {xs : List D} {vs : List V} {K : PySem.W.Frag} {G : Wd} {lo hi : Option Int} (r : Iss K G xs vs) : Iss K G (Q5U xs lo hi) (cutV vs lo hi) := by
 unfold Q5U cutV
 rw [<- r.length]
 exact (r.drop _).take _
def EvO (X : Cx) (ρ : Rho) (O : Sto) (e : Option Expr) (i : Option Int) : Prop :=
 ∀ G,PO X e (λ σ H Q => SA X.K G H O /\ EnvR X.K G σ ρ /\ ∀ G' H',Ext G G' -> SA X.K G' H' O -> Q i H')
theorem _root_.L2.PO.imp {X : Cx} {e : Option Expr} {t u : TO} (h : PO X e t) (k : ∀ σ H Q,u σ H Q -> t σ H Q) : PO X e u := λ pins s σ H Q I q => h pins s σ H Q I (k _ _ _ q)
theorem Z1s : EvO X ρ O none none := λ G => PO.imp Z9j λ σ H Q ⟨h1,h2,h3⟩ => h3 G H (Ext.refl _) h1
theorem Z1r {i : Int} (h : EvP X ρ O e (.int i)) : EvO X ρ O (some e) (some i) := λ G => PO.imp (Z9i (h G)) λ σ H Q ⟨h1,h2,h3⟩ => ⟨h1,h2,λ v G1 H1 e1 s1 i1 => by cases i1; exact ⟨i,rfl,h3 G1 H1 e1 s1⟩⟩
def Q1U (X : Cx) (O : Sto) (f : Value) (ds : List D) (d : D) : Prop :=
 ∀ G,Q7e X f (λ vs H Q => SA X.K G H O /\ Iss X.K G ds vs /\ ∀ w G' H',Ext G G' -> SA X.K G' H' O -> Is X.K G' d w -> Q w H')
theorem Q1U.of {f : Value} {r : List V -> Hp -> VK -> Prop} (ho : Q7e X f r)
  (k : ∀ G vs H Q,SA X.K G H O -> Iss X.K G ds vs -> (∀ w G' H',Ext G G' -> SA X.K G' H' O -> Is X.K G' d w -> Q w H') -> r vs H Q) : Q1U X O f ds d :=
 λ G pins s σ H xs us Q I r ⟨h1,h2,h3⟩ => ho pins s σ H xs us Q I r (k G _ _ _ h1 h2 h3)
theorem Q0s {id : String} (hm : X.mg x = none) (ha : EvPs X ρ O (e :: es) ds) (hc : Q1U X O (.builtin id) ds d) (hg : Gl X x := by rfl) (hv : bootBuiltins x = some (.builtin id) := by first | rfl | decide +kernel) (hn : x ≠ "__name__" := by decide) (hdb : (x == ("__debug__" : Str)) = false := by decide)
  (he : starEach (e :: es) X.env = (false,eval e X.env) :: starEach es X.env := by rfl) (hpl : (backTo pos (starEach es X.env)).any (·.1) = false := by rfl) : EvP X ρ O (.Call (.Name x p) (e :: es) [] pos) d := λ G =>
 PE.imp (Z2g (r := λ vs H Q => ∃ G1,SA X.K G1 H O /\ Iss X.K G1 ds vs /\ ∀ w G' H',Ext G1 G' -> SA X.K G' H' O -> Is X.K G' d w -> Q w H') (λ pins s σ H xs us Q I r ⟨G1,q⟩ => hc G1 pins s σ H xs us Q I r q) hg hm hv (ha G) hn hdb he hpl)
  λ σ H Q ⟨h1,h2,h3⟩ => ⟨h1,h2,λ vs G1 H1 e1 s1 i1 => ⟨G1,s1,i1,λ w G2 H2 e2 s2 i2 => h3 w G2 H2 (e1.trans e2) s2 i2⟩⟩
theorem Q0x {T : String} (hm : X.mg x = none) (ha : EvPs X ρ O (e :: es) ds) (hc : Q1U X O (.type T) ds d) (hg : Gl X x := by rfl) (hv : bootBuiltins x = some (.type T) := by first | rfl | decide +kernel) (hn : x ≠ "__name__" := by decide) (hdb : (x == ("__debug__" : Str)) = false := by decide)
  (he : starEach (e :: es) X.env = (false,eval e X.env) :: starEach es X.env := by rfl) (hpl : (backTo pos (starEach es X.env)).any (·.1) = false := by rfl) : EvP X ρ O (.Call (.Name x p) (e :: es) [] pos) d := λ G =>
 PE.imp (Q9S (r := λ vs H Q => ∃ G1,SA X.K G1 H O /\ Iss X.K G1 ds vs /\ ∀ w G' H',Ext G1 G' -> SA X.K G' H' O -> Is X.K G' d w -> Q w H') (λ pins s σ H xs us Q I r ⟨G1,q⟩ => hc G1 pins s σ H xs us Q I r q) hg hm hv (ha G) hn hdb he hpl)
  λ σ H Q ⟨h1,h2,h3⟩ => ⟨h1,h2,λ vs G1 H1 e1 s1 i1 => ⟨G1,s1,i1,λ w G2 H2 e2 s2 i2 => h3 w G2 H2 (e1.trans e2) s2 i2⟩⟩
theorem Q4z {xs : List D} (h : LT O d xs) : Q1U X O (.builtin "len") [d] (.int xs.length) := .of Z0p λ G vs H Q s i k => by
 cases i with
 | cons i r =>
  cases r
  rcases h with h | rfl
  ·obtain ⟨p,vs,rfl,q,r⟩ := h.sq s i
   exact ⟨p,vs,rfl,.inl q,by rw [<- r.length]; exact k _ G H (Ext.refl _) s (.int _)⟩
  ·obtain ⟨p,vs,rfl,q,r⟩ := Q3a s i
   exact ⟨p,vs,rfl,.inr q,by rw [<- r.length]; exact k _ G H (Ext.refl _) s (.int _)⟩
theorem Q0N {xs : List D} (h : LT O d xs) : Q1U X O (.type "tuple") [d] (.tup xs) := .of Q9i λ G vs H Q s i k => by
 cases i with
 | cons i r =>
  cases r
  rcases h with h | rfl
  ·obtain ⟨p,vs,rfl,q,r⟩ := h.sq s i
   refine ⟨p,vs,rfl,.inl ⟨q,λ l hl => ?_⟩⟩
   obtain ⟨e4,s4⟩ := s.laid (o := .tup vs) hl
   exact k _ _ _ e4 s4 (.tup (SqT.of Q0u) (r.ext e4))
  ·obtain ⟨p,vs,rfl,q,r⟩ := Q3a s i
   exact ⟨p,vs,rfl,.inr ⟨q,k _ G H (Ext.refl _) s i⟩⟩
theorem Y1E {xs : List D} (h : LT O d xs) : Q1U X O (.type "list") [d] (.lst xs) := .of Z0o λ G vs H Q s i k => by
 cases i with
 | cons i r =>
  cases r
  rcases h with h | rfl
  ·obtain ⟨p,vs,rfl,q,r⟩ := h.sq s i
   refine ⟨p,vs,rfl,.inl q,λ l hl => ?_⟩
   obtain ⟨e4,s4⟩ := s.laid (o := .lst vs) hl
   exact k _ _ _ e4 s4 (.lst Q0u (r.ext e4))
  ·obtain ⟨p,vs,rfl,q,r⟩ := Q3a s i
   refine ⟨p,vs,rfl,.inr q,λ l hl => ?_⟩
   obtain ⟨e4,s4⟩ := s.laid (o := .lst vs) hl
   exact k _ _ _ e4 s4 (.lst Q0u (r.ext e4))
theorem c_abs {i : Int} : Q1U X O (.builtin "abs") [.int i] (.int (if i < 0 then -i else i)) := .of Z7R λ G vs H Q s h k => by
 cases h with | cons h r => cases r; cases h; exact ⟨i,rfl,k _ G H (Ext.refl _) s (.int _)⟩
theorem c_max {i j : Int} (hc : X.calm = true := by rfl) : Q1U X O (.builtin "max") [.int i,.int j] (.int (if j > i then j else i)) := .of (Z6g hc) λ G vs H Q s h k => by
 cases h with | cons h r => cases r with | cons h' r => cases r; cases h; cases h'; exact ⟨i,j,rfl,k _ G H (Ext.refl _) s (.int _)⟩
theorem c_min {i j : Int} (hc : X.calm = true := by rfl) : Q1U X O (.builtin "min") [.int i,.int j] (.int (if j < i then j else i)) := .of (Z6f hc) λ G vs H Q s h k => by
 cases h with | cons h r => cases r with | cons h' r => cases r; cases h; cases h'; exact ⟨i,j,rfl,k _ G H (Ext.refl _) s (.int _)⟩
theorem Y1F {b : Bool} : Q1U X O (.type "int") [.bl b] (.int (if b then 1 else 0)) := .of Z6h λ G vs H Q s h k => by
 cases h with | cons h r => cases r; cases h; exact .inr ⟨b,rfl,k _ G H (Ext.refl _) s (.int _)⟩
abbrev SpD := List D -> Sto -> (D -> Sto -> Prop) -> Prop
def toSp (K : PySem.W.Frag) (sp : SpD) : Sp := λ vs H Q _ => ∃ G O ds R,SA K G H O /\ Iss K G ds vs /\ sp ds O R /\ ∀ v d O' G' H',Ext G G' -> SA K G' H' O' -> Is K G' d v -> R d O' -> Q v H'
structure Q0j (P : Program) (w : World) (K : PySem.W.Frag) (mg : Str -> Option Value) (base : Heap) (k : Nat) (x : Str) (sp : SpD) : Prop where
 ex : ∃ f fd ps,FnOk P w K mg base CX0 k f fd ps (toSp K sp) /\ mg x = some (.ref f) /\ PySem.W.keepIn K (.ref f) = true /\ Q0A K fd ps []
theorem Q9a {k : Nat} {sp : SpD} (F : Q0j X.prog X.w X.K X.mg X.base k x sp) (hr : Room k X.A) (ha : EvAs X ρ O (e :: es) λ ds O1 => sp ds O1 R) (hg : Gl X x := by rfl) (hdb : (x == ("__debug__" : Str)) = false := by decide)
  (he : starEach (e :: es) X.env = (false,eval e X.env) :: starEach es X.env := by rfl) (hpl : (backTo pos (starEach es X.env)).any (·.1) = false := by rfl) : Ev X ρ O (.Call (.Name x p) (e :: es) [] pos) R := λ G => by
 obtain ⟨f,fd,ps,h1,h2,h3,h4⟩ := F.ex
 refine PE.imp (Z9n h1 hr hg h2 h3 h4 .nil Z3i (ha G) hdb he hpl) λ σ H Q ⟨q1,q2,q3⟩ => ⟨q1,q2,λ vs ds O1 G1 H1 e1 s1 i1 r1 => ?_⟩
 show toSp X.K sp (vs ++ []) H1 Q E0
 rw [List.append_nil]
 exact ⟨G1,O1,ds,R,s1,i1,r1,λ v d O' G' H' e2 s2 i2 r2 => q3 v d O' G' H' (e1.trans e2) s2 i2 r2⟩
theorem Q0H {k : Nat} {sp : SpD} (F : Q0j X.prog X.w X.K X.mg X.base k x sp) (hr : Room k X.A) (ha : EvPs X ρ O (e :: es) ds) (hs : sp ds O R) (hg : Gl X x := by rfl) (hdb : (x == ("__debug__" : Str)) = false := by decide)
  (he : starEach (e :: es) X.env = (false,eval e X.env) :: starEach es X.env := by rfl) (hpl : (backTo pos (starEach es X.env)).any (·.1) = false := by rfl) : Ev X ρ O (.Call (.Name x p) (e :: es) [] pos) R :=
 Q9a F hr (ha.as hs) hg hdb he hpl
def Q0i (f : List D -> D -> Prop) : SpD := λ ds O R => ∃ d,f ds d /\ R d O
theorem Q0h {k : Nat} {f : List D -> D -> Prop} (F : Q0j X.prog X.w X.K X.mg X.base k x (Q0i f)) (hr : Room k X.A) (ha : EvPs X ρ O (e :: es) ds) (hs : f ds d) (hg : Gl X x := by rfl) (hdb : (x == ("__debug__" : Str)) = false := by decide)
  (he : starEach (e :: es) X.env = (false,eval e X.env) :: starEach es X.env := by rfl) (hpl : (backTo pos (starEach es X.env)).any (·.1) = false := by rfl) : EvP X ρ O (.Call (.Name x p) (e :: es) [] pos) d :=
 (Q0H F hr ha ⟨d,hs,rfl,rfl⟩ hg hdb he hpl).evp
end
structure Post where
 nx : Rho -> Sto -> Prop
 rt : D -> Sto -> Prop
 bk : Rho -> Sto -> Prop := λ _ _ => False
 ct : Rho -> Sto -> Prop := λ _ _ => False
def Goes (K : PySem.W.Frag) (G : Wd) (N : Rho -> Sto -> Prop) (n : L2.St -> Hp -> Prop) : Prop := ∀ σ ρ O G' H,Ext G G' -> SA K G' H O -> EnvR K G' σ ρ -> N ρ O -> n σ H
structure Q5s (K : PySem.W.Frag) (G : Wd) (P : Post) (E : Ends) : Prop where
 nx : Goes K G P.nx E.nx
 rt : ∀ v d O G' H,Ext G G' -> SA K G' H O -> Is K G' d v -> P.rt d O -> E.rt v H
 bk : Goes K G P.bk E.bk
 ct : Goes K G P.ct E.ct
theorem Goes.ext {K : PySem.W.Frag} {G G' : Wd} {N : Rho -> Sto -> Prop} {n : L2.St -> Hp -> Prop} (h : Goes K G N n) (e : Ext G G') : Goes K G' N n := λ σ ρ O G2 H e2 => h σ ρ O G2 H (e.trans e2)
theorem Q5s.ext {K : PySem.W.Frag} {G G' : Wd} {P : Post} {E : Ends} (h : Q5s K G P E) (e : Ext G G') : Q5s K G' P E := ⟨h.nx.ext e,λ v d O G2 H e2 => h.rt v d O G2 H (e.trans e2),h.bk.ext e,h.ct.ext e⟩
def Ex (X : Cx) (ρ : Rho) (O : Sto) (st : Stmt) (P : Post) : Prop := ∀ G,PS X st (λ E σ H => SA X.K G H O /\ EnvR X.K G σ ρ /\ Q5s X.K G P E)
def Exs (X : Cx) (ρ : Rho) (O : Sto) (st : List Stmt) (P : Post) : Prop := ∀ G,PSs X st (λ E σ H => SA X.K G H O /\ EnvR X.K G σ ρ /\ Q5s X.K G P E)
section
variable {X : Cx} {ρ : Rho} {O : Sto} {e a b c : Expr} {es : List Expr} {d da db : D} {ds : List D} {R : D -> Sto -> Prop} {pos p : Pos} {x : Str} {st : Stmt} {rest body orelse : List Stmt} {P : Post}
theorem Q0p (h : P.nx ρ O) : Exs X ρ O [] P := λ G => PSs.imp Z9g λ E σ H ⟨h1,h2,h3⟩ => h3.nx σ ρ O G H (Ext.refl _) h1 h2 h
theorem Q0c (h : Ex X ρ O st { P with nx := λ ρ' O' => Exs X ρ' O' rest P }) : Exs X ρ O (st :: rest) P := λ G =>
 PSs.imp (Z7h (h G) (u := λ E σ H => ∃ G1 ρ1 O1,SA X.K G1 H O1 /\ EnvR X.K G1 σ ρ1 /\ Exs X ρ1 O1 rest P /\ Q5s X.K G1 P E) (λ pins s σ H E I ⟨G1,ρ1,O1,q1,q2,q3,q4⟩ => q3 G1 pins s σ H E I ⟨q1,q2,q4⟩)) λ E σ H ⟨h1,h2,h3⟩ =>
  ⟨h1,h2,⟨λ σ1 ρ1 O1 G1 H1 e1 s1 n1 q1 => ⟨G1,ρ1,O1,s1,n1,q1,h3.ext e1⟩,h3.rt,h3.bk,h3.ct⟩⟩
theorem Z3W (M : Rho -> Sto -> Prop) (h : Ex X ρ O st { P with nx := M }) (k : ∀ ρ' O',M ρ' O' -> Exs X ρ' O' rest P) : Exs X ρ O (st :: rest) P := Q0c λ G =>
 PS.imp (h G) λ E σ H ⟨h1,h2,h3⟩ => ⟨h1,h2,⟨λ σ1 ρ1 O1 G1 H1 e1 s1 n1 q1 => h3.nx σ1 ρ1 O1 G1 H1 e1 s1 n1 (k _ _ q1),h3.rt,h3.bk,h3.ct⟩⟩
theorem Q0v (h : Ev X ρ O e P.rt) : Ex X ρ O (.Return (some e) pos) P := λ G => PS.imp (Y0K (h G)) λ E σ H ⟨h1,h2,h3⟩ => ⟨h1,h2,λ v d O' G' H' e1 s1 i1 r1 => h3.rt v d O' G' H' e1 s1 i1 r1⟩
theorem Q0y (h : Ev X ρ O e λ _ O' => P.nx ρ O') (hs : swapsWith e none pos.line X.env = pure false := by rfl) : Ex X ρ O (.Expr e pos) P := λ G => PS.imp (Z1e (h G) hs) λ E σ H ⟨h1,h2,h3⟩ =>
 ⟨h1,h2,λ v d O' G' H' e1 s1 i1 r1 => h3.nx σ ρ O' G' H' e1 s1 (h2.ext e1) r1⟩
theorem x_if {k : Bool} (hc : EvT X ρ O c k) (h1 : k = true -> Exs X ρ O body P) (h2 : k = false -> Exs X ρ O orelse P) : Ex X ρ O (.If c body orelse pos) P := λ G =>
 PS.imp (Y0L (hc G) (t := λ E σ H => ∃ G1,k = true /\ SA X.K G1 H O /\ EnvR X.K G1 σ ρ /\ Q5s X.K G1 P E) (λ pins s σ H E I ⟨G1,z,q⟩ => h1 z G1 pins s σ H E I q)
  (u := λ E σ H => ∃ G1,k = false /\ SA X.K G1 H O /\ EnvR X.K G1 σ ρ /\ Q5s X.K G1 P E) (λ pins s σ H E I ⟨G1,z,q⟩ => h2 z G1 pins s σ H E I q)) λ E σ H ⟨q1,q2,q3⟩ =>
  ⟨q1,q2,λ G' H' e1 s1 => by
   cases k with
   | true => exact iteT ⟨G',rfl,s1,q2.ext e1,q3.ext e1⟩
   | false => exact iteF ⟨G',rfl,s1,q2.ext e1,q3.ext e1⟩⟩
def Tg (X : Cx) (tg : Expr) (d : D) (ρ ρ' : Rho) : Prop := ∀ G,PG X tg (λ v σ H Q => Is X.K G d v /\ Same G.g H /\ EnvR X.K G σ ρ /\ ∀ σ',EnvR X.K G σ' ρ' -> Q σ' H)
def Tgs (X : Cx) (tg : List Expr) (ds : List D) (ρ ρ' : Rho) : Prop := ∀ G,PGs X tg (λ vs σ H Q => Iss X.K G ds vs /\ Same G.g H /\ EnvR X.K G σ ρ /\ ∀ σ',EnvR X.K G σ' ρ' -> Q σ' H)
theorem Q0q (i : Nat) (hN : X.N.Nodup) (hi : X.N[i]? = some x := by rfl) (hx : Loc X.env.scope x := by first | exact Or.inl rfl | exact Or.inr rfl) (hf : X.fn x = true \/ X.env.scope.names.lookup x = some .local := by first | exact .inl rfl | exact .inr rfl | assumption) : Tg X (.Name x pos) d ρ (ρ.set i (some d)) := λ G pins s σ H v u Q I r ⟨h1,h2,h3,h4⟩ =>
 Z9l hN hi hx hf pins s σ H v u Q I r (h4 _ (h3.set i h1))
theorem Q1G : Tgs X [] [] ρ ρ := λ G pins s σ H vs us Q I r ⟨h1,h2,h3,h4⟩ => Z9k pins s σ H vs us Q I r ⟨by cases h1; rfl,h4 _ h3⟩
theorem Q0B {ρ1 ρ2 : Rho} (h : Tg X e d ρ ρ1) (k : Tgs X es ds ρ1 ρ2) (hs : (assignEach (e :: es) X.env).map (·.2) = assign e X.env :: (assignEach es X.env).map (·.2) := by rfl) : Tgs X (e :: es) (d :: ds) ρ ρ2 := λ G pins s σ H vs us Q I r ⟨h1,h2,h3,h4⟩ => by
 cases h1 with
 | cons i1 i2 =>
  exact Z7m (h G) (k G) hs pins s σ H _ us Q I r ⟨_,_,rfl,i1,h2,h3,λ σ' n' => ⟨i2,h2,n',h4⟩⟩
theorem Q3b {ρ1 : Rho} {k : Nat} (h : Tgs X es ds ρ ρ1) (hc : X.calm = true := by rfl) (hn : (assignEach es X.env).length = ds.length := by rfl) (hst : (assignEach es X.env).findIdx? (·.1) = none := by rfl) : Tg X (.Tuple es k pos) (.tup ds) ρ ρ1 := λ G pins s σ H v u Q I r ⟨h1,h2,h3,h4⟩ => by
 cases h1 with
 | tup q1 q2 =>
  exact Y0P hc (h G) hn hst pins s σ H _ u Q I r ⟨_,_,rfl,Q0V h2 q1,by rw [<- q2.length],q2,h2,h3,h4⟩
theorem Q0O (i : Nat) (he : Ev X ρ O e λ d O' => P.nx (ρ.set i (some d)) O') (hN : X.N.Nodup) (hi : X.N[i]? = some x := by rfl) (hx : Loc X.env.scope x := by first | exact Or.inl rfl | exact Or.inr rfl) {p : Pos}
  (hs : swapsWith e (some (.Name x p)) pos.line X.env = pure false := by rfl) (hf : X.fn x = true \/ X.env.scope.names.lookup x = some .local := by first | exact .inl rfl | exact .inr rfl | assumption) : Ex X ρ O (.Assign [.Name x p] e pos) P := λ G =>
 PS.imp (Y0J hN hi hx (he G) hs hf) λ E σ H ⟨h1,h2,h3⟩ => ⟨h1,h2,λ v d O' G' H' e1 s1 i1 r1 => h3.nx _ _ O' G' H' e1 s1 ((h2.ext e1).set i i1) r1⟩
theorem Q4b {q : Nat} {xs : List D} {apos cpos : Pos} (ho : EvP X ρ O a (.ptr q)) (hq : O[q]? = some (some (.lst xs))) (he : EvP X ρ O e d) (hz : xs.length < sizeLine) (h : P.nx ρ (O.set q (some (.lst (xs ++ [d])))))
  (hbase : attributeBase a ("append" : Str) X.env (eval a X.env) = eval a X.env := by rfl) (hline : (apos.endLine == cpos.line) = true := by rfl) (hst : starEach [e] X.env = [(false,eval e X.env)] := by rfl)
  (hsw : swapsWith (.Call (.Attribute a ("append" : Str) apos) [e] [] cpos) none pos.line X.env = pure false := by rfl) : Ex X ρ O (.Expr (.Call (.Attribute a ("append" : Str) apos) [e] [] cpos) pos) P := λ G =>
 PS.imp (Z1e (Y0X PySem.F.plainAttrs_list PySem.F.slot_list_append PySem.F.type_list_append Z0e (ho G)
  (Q4Q (te := λ σ H Q => ∃ G1,SA X.K G1 H O /\ EnvR X.K G1 σ ρ /\ ∀ v G' H',Ext G1 G' -> SA X.K G' H' O -> Is X.K G' d v -> Q v H') (λ pins s σ H Q I ⟨G1,q⟩ => he G1 pins s σ H Q I q) Z2h hst) hbase
  (by rw [hst]; rfl) hline hst (by rfl)) hsw) λ E σ H ⟨q1,q2,q3⟩ => ⟨q1,q2,λ v G1 H1 e1 s1 i1 => by
   cases i1 with
   | ptr _ ha =>
   obtain ⟨a1,g0,g1,vs,g2,g3⟩ := s1.mt q _ hq
   obtain rfl := Option.some.inj (ha.symm.trans g0)
   refine ⟨.inl ⟨rfl,vs,SqL.of g2⟩,G1,s1,q2.ext e1,λ w G2 H2 e2 s2 i2 => ?_⟩
   obtain ⟨a2,g7,g4,us,g5,g6⟩ := s2.mt q _ hq
   obtain rfl := Option.some.inj ((e2.at g0).symm.trans g7)
   refine ⟨_,us,w,rfl,rfl,g5,by rw [<- g6.length]; exact hz,?_⟩
   exact q3.nx σ ρ _ G2 _ (e1.trans e2) (s2.put (m' := .lst (xs ++ [d])) hq g7 ⟨_,Q0u,g6.append (.cons i2 .nil)⟩) (q2.ext (e1.trans e2)) h⟩
structure Q2Y (K : PySem.W.Frag) (G : Wd) (J : It) (xs : List D) : Prop where
 go : ∀ i H,Same G.g H -> i < xs.length -> J.go i H
 stop : ∀ i H,Same G.g H -> xs.length <= i -> J.stop i H
 yld : ∀ i v H H' G2 O2,Ext G G2 -> SA K G2 H O2 -> J.yld i H v H' -> i < xs.length -> ∃ x G3,xs[i]? = some x /\ Ext G2 G3 /\ SA K G3 H' O2 /\ Is K G3 x v
def EvI (X : Cx) (ρ : Rho) (O : Sto) (tg iter : Expr) (xs : List D) : Prop :=
 ∀ G,PI X tg iter (λ σ H R => SA X.K G H O /\ EnvR X.K G σ ρ /\ ∀ J G' H',Ext G G' -> SA X.K G' H' O -> Q2Y X.K G' J xs -> R J H')
theorem _root_.L2.PI.imp {X : Cx} {tg iter : Expr} {t u : TI} (h : PI X tg iter t) (k : ∀ σ H R,u σ H R -> t σ H R) : PI X tg iter u := λ pins s σ H R I q => h pins s σ H R I (k _ _ _ q)
theorem Q7W {K : PySem.W.Frag} {G : Wd} {q : Addr} {vs : List V} {xs : List D} (h1 : SqL K G.g q vs) (r : Iss K G xs vs) : Q2Y K G (Itl K q) xs where
 go := λ i H e hi => by
  obtain ⟨v,hv,_⟩ := r.get (i := i) (d := xs[i]) (by simp [hi])
  exact ⟨vs,v,e.seq h1,hv⟩
 stop := λ i H e hi => ⟨vs,e.seq h1,by rw [<- r.length]; exact hi⟩
 yld := λ i v H H' G2 O2 e s y hi => by
  obtain ⟨rfl,y⟩ := y
  obtain ⟨x,hx,ix⟩ := r.getV (y vs ((e.g.trans s.sub).seq h1))
  exact ⟨x,G2,hx,Ext.refl _,s,ix.ext e⟩
theorem Q7U {K : PySem.W.Frag} {G : Wd} {q : Addr} {vs : List V} {xs : List D} (h1 : SqT K G.g q vs) (r : Iss K G xs vs) : Q2Y K G (Itt K q) xs where
 go := λ i H e hi => by
  obtain ⟨v,hv,_⟩ := r.get (i := i) (d := xs[i]) (by simp [hi])
  exact ⟨vs,v,Q0V e h1,hv⟩
 stop := λ i H e hi => ⟨vs,Q0V e h1,by rw [<- r.length]; exact hi⟩
 yld := λ i v H H' G2 O2 e s y hi => by
  obtain ⟨rfl,y⟩ := y
  obtain ⟨x,hx,ix⟩ := r.getV (y vs (Q0V (e.g.trans s.sub) h1))
  exact ⟨x,G2,hx,Ext.refl _,s,ix.ext e⟩
theorem Y1x {tg : Expr} {xs : List D} (h : EvP X ρ O e (.lst xs)) : EvI X ρ O tg e xs := λ G => PI.imp (Z4W (h G)) λ σ H R ⟨h1,h2,h3⟩ => ⟨h1,h2,λ v G1 H1 e1 s1 i1 => by
 cases i1 with
 | lst q r => exact ⟨_,rfl,⟨_,SqL.of (s1.sub _ _ q)⟩,h3 _ G1 H1 e1 s1 (Q7W (SqL.of q) r)⟩⟩
theorem Y1w {tg : Expr} {xs : List D} (h : EvP X ρ O e (.scr xs)) : EvI X ρ O tg e xs := λ G => PI.imp (Z4W (h G)) λ σ H R ⟨h1,h2,h3⟩ => ⟨h1,h2,λ v G1 H1 e1 s1 i1 => by
 cases i1 with
 | scr q r => exact ⟨_,rfl,⟨_,s1.sub.seq q⟩,h3 _ G1 H1 e1 s1 (Q7W q r)⟩⟩
theorem Y1v {tg : Expr} {xs : List D} (h : EvP X ρ O e (.tup xs)) : EvI X ρ O tg e xs := λ G => PI.imp (Z8o (h G)) λ σ H R ⟨h1,h2,h3⟩ => ⟨h1,h2,λ v G1 H1 e1 s1 i1 => by
 cases i1 with
 | tup q r => exact ⟨_,rfl,⟨_,Q0V s1.sub q⟩,h3 _ G1 H1 e1 s1 (Q7U q r)⟩⟩
def Q4p (lo : Int) (n : Nat) : List D := (List.range n).map λ i => .int (lo + (i : Nat))
theorem Q0W {lo : Int} {n : Nat} : (Q4p lo n).length = n := by simp [Q4p]
theorem Q7S {lo : Int} {n i : Nat} (h : i < n) : (Q4p lo n)[i]? = some (.int (lo + (i : Nat))) := by simp [Q4p,h]
theorem Q4o {lo : Int} {n i : Nat} {x : D} (h : (Q4p lo n)[i]? = some x) : i < n /\ x = .int (lo + (i : Nat)) := by
 have hi : i < n := by
  have := (List.getElem?_eq_some_iff.mp h).1
  rw [Q0W] at this
  exact this
 rw [Q7S hi] at h
 exact ⟨hi,(Option.some.inj h).symm⟩
theorem Q7V {K : PySem.W.Frag} {G : Wd} {lo : Int} {n : Nat} : Q2Y K G (Itr lo n) (Q4p lo n) where
 go := λ i H _ hi => by rw [Q0W] at hi; exact hi
 stop := λ i H _ hi => by rw [Q0W] at hi; exact hi
 yld := λ i v H H' G2 O2 e s y hi => by
  obtain ⟨rfl,rfl⟩ := y
  rw [Q0W] at hi
  exact ⟨_,G2,Q7S hi,Ext.refl _,s,.int _⟩
theorem Q2y {tg : Expr} {n : Int} (h : EvP X ρ O e (.int n)) (hm : X.mg "range" = none) (h1 : -(2 ^ 62) <= n) (h2 : n < 2 ^ 62) (hg : Gl X "range" := by rfl) (hs : starEach [e] X.env = [(false,eval e X.env)] := by rfl) : EvI X ρ O tg (.Call (.Name "range" p) [e] [] pos) (Q4p 0 n.toNat) := λ G =>
 PI.imp (Z4V hg hm (Q0a h Q0d hs G) hs) λ σ H R ⟨q1,q2,q3⟩ => ⟨q1,q2,λ vs G1 H1 e1 s1 i1 => by
  cases i1 with | cons i r => cases r; cases i; exact ⟨n,rfl,h1,h2,q3 _ G1 H1 e1 s1 Q7V⟩⟩
theorem Z5O {tg : Expr} {m n : Int} (ha : EvP X ρ O a (.int m)) (hb : EvP X ρ O b (.int n)) (hm : X.mg "range" = none) (h1 : -(2 ^ 62) <= m) (h2 : m < 2 ^ 62) (h3 : -(2 ^ 62) <= n) (h4 : n < 2 ^ 62) (hg : Gl X "range" := by rfl)
  (hs : starEach [a,b] X.env = [(false,eval a X.env),(false,eval b X.env)] := by rfl) (hs2 : starEach [b] X.env = [(false,eval b X.env)] := by rfl) : EvI X ρ O tg (.Call (.Name "range" p) [a,b] [] pos) (Q4p m (n - m).toNat) := λ G =>
 PI.imp (Z4U hg hm (Q0a ha (Q0a hb Q0d hs2) (by rw [hs,hs2]) G) hs hs2) λ σ H R ⟨q1,q2,q3⟩ => ⟨q1,q2,λ vs G1 H1 e1 s1 i1 => by
  cases i1 with | cons i r => cases r with | cons i' r => cases r; cases i; cases i'; exact ⟨m,n,rfl,⟨h1,h2,h3,h4⟩,q3 _ G1 H1 e1 s1 Q7V⟩⟩
theorem Q5f {tg iter : Expr} {body : List Stmt} {xs : List D} (hi : EvI X ρ O tg iter xs) (inv : Nat -> Rho -> Sto -> Prop) (h0 : inv 0 ρ O)
  (hs : ∀ i x ρ' O',xs[i]? = some x -> inv i ρ' O' -> ∃ ρ1,Tg X tg x ρ' ρ1 /\ Exs X ρ1 O' body { P with nx := inv (i + 1),ct := inv (i + 1),bk := P.nx }) (hd : ∀ ρ' O',inv xs.length ρ' O' -> P.nx ρ' O')
  (hp : PassesOwn (model X.prog X.w) X.A X.env X.xe := by exact PassesOwn.never) (hc : X.calm = true := by rfl) (hf : ∀ x,foldedSetIterable iter X.env x = pure x := by intro _; rfl) : Ex X ρ O (.For tg iter body [] pos) P := λ G =>
 PS.imp (Z8n hp hc (hi G) (g := λ v σ H Q => ∃ G1 ρ1 ρ2 x,Tg X tg x ρ1 ρ2 /\ Is X.K G1 x v /\ Same G1.g H /\ EnvR X.K G1 σ ρ1 /\ ∀ σ',EnvR X.K G1 σ' ρ2 -> Q σ' H) (λ pins s σ H v u Q I r ⟨G1,ρ1,ρ2,x,q,q'⟩ => q G1 pins s σ H v u Q I r q')
  (tb := λ E σ H => ∃ G1 ρ1 O1 P1,SA X.K G1 H O1 /\ EnvR X.K G1 σ ρ1 /\ Exs X ρ1 O1 body P1 /\ Q5s X.K G1 P1 E) (λ pins s σ H E I ⟨G1,ρ1,O1,P1,q1,q2,q3,q4⟩ => q3 G1 pins s σ H E I ⟨q1,q2,q4⟩) hf) λ E σ H ⟨q1,q2,q3⟩ => by
  refine ⟨q1,q2,λ J G1 H1 e1 s1 Y => ?_⟩
  refine ⟨λ i m σ H => ∃ G2 ρ2 O2,Ext G1 G2 /\ SA X.K G2 H O2 /\ EnvR X.K G2 σ ρ2 /\ inv i ρ2 O2 /\ i <= xs.length /\ m = xs.length - i,⟨_,G1,ρ,O,Ext.refl _,s1,q2.ext e1,h0,Nat.zero_le _,rfl⟩,?_⟩
  rintro i m σ2 H2 ⟨G2,ρ2,O2,e2,s2,n2,v2,l2,rfl⟩
  by_cases hlt : i < xs.length
  ·refine .inr ⟨Y.go i H2 (e2.g.trans s2.sub) hlt,λ σ' H' => ∃ G3 ρ3 O3,Ext G1 G3 /\ SA X.K G3 H' O3 /\ EnvR X.K G3 σ' ρ3 /\ inv (i + 1) ρ3 O3,λ σ' H' ⟨G3,ρ3,O3,e3,s3,n3,v3⟩ => ⟨xs.length - (i + 1),by omega,G3,ρ3,O3,e3,s3,n3,v3,hlt,rfl⟩,λ v H3 y => ?_⟩
   obtain ⟨x,G3,hx,e3,s3,i3⟩ := Y.yld i v H2 H3 G2 O2 e2 s2 y hlt
   obtain ⟨ρ3,t3,b3⟩ := hs i x ρ2 O2 hx v2
   have e13 : Ext G1 G3 := e2.trans e3
   refine ⟨G3,ρ2,ρ3,x,t3,i3,s3.sub,n2.ext e3,λ σ' n' => ⟨G3,ρ3,O2,_,s3,n',b3,⟨λ σ4 ρ4 O4 G4 H4 e4 s4 n4 q => ⟨G4,ρ4,O4,e13.trans e4,s4,n4,q⟩,λ v d O4 G4 H4 e4 s4 i4 r => q3.rt v d O4 G4 H4 (e1.trans (e13.trans e4)) s4 i4 r,
    λ σ4 ρ4 O4 G4 H4 e4 s4 n4 q => q3.nx σ4 ρ4 O4 G4 H4 (e1.trans (e13.trans e4)) s4 n4 q,λ σ4 ρ4 O4 G4 H4 e4 s4 n4 q => ⟨G4,ρ4,O4,e13.trans e4,s4,n4,q⟩⟩⟩⟩
  ·have ei : i = xs.length := by omega
   subst ei
   exact .inl ⟨Y.stop _ H2 (e2.g.trans s2.sub) (Nat.le_refl _),q3.nx σ2 ρ2 O2 G2 H2 (e1.trans e2) s2 n2 (hd _ _ v2)⟩
end
def Q7M (N : List Str) (ds : List D) : Rho := ds.map some ++ List.replicate (N.length - ds.length) none
section
variable {P : Program} {w : World} {K : PySem.W.Frag} {mg : Str -> Option Value} {base : Heap}
theorem Q9A {G : Wd} {N : List Str} {ds : List D} {vs : List V} (r : Iss K G ds vs) : EnvR K G (L2.start N vs) (Q7M N ds) := by
 refine ⟨by unfold L2.start Q7M; simp [r.length],λ i d h => ?_⟩
 unfold Q7M at h
 by_cases hi : i < ds.length
 ·rw [List.getElem?_append_left (by simpa using hi),List.getElem?_map] at h
  cases q : ds[i]? with
  | none => rw [q] at h; cases h
  | some d' =>
   rw [q] at h; cases h
   obtain ⟨v,hv,iv⟩ := r.get q
   refine ⟨v,?_,iv⟩
   unfold L2.start
   rw [List.getElem?_append_left (by rw [List.length_map,<- r.length]; exact hi),List.getElem?_map,hv]
   rfl
 ·rw [List.getElem?_append_right (by simpa using hi),List.getElem?_replicate] at h
  split at h <;> cases h
theorem okF {x qual : Str} {st : Stmt} {f : Addr} {fd : FuncData} {N ps : List Str} {k : Nat} {sp : SpD} (F : Fun K x qual st f fd) (S : Q0k N ps (Q0f st))
  (len : ∀ ds O R,sp ds O R -> ds.length = ps.length)
  (hbody : ∀ (cdv : Value) (A : Around) (outer : List Env) (s : Shared) (H : Hp) (E : XK) (ds : List D) (O : Sto) (R : D -> Sto -> Prop),Room k (A.deeper (envOfC qual (Q0f st) s.heap.objs.size f cdv)) -> sp ds O R ->
   Exs (cxOf CX0 P w K mg base N qual (Q0f st) f cdv A outer s H E).nox (Q7M N ds) O (Q0Y st) { nx := λ _ O' => R .non O',rt := R }) : FnOk P w K mg base CX0 (k + 1) f fd ps (toSp K sp) := by
 refine F.ok S (λ vs H Q E h => ?_) (λ cdv A outer s H vs Q E hr h => ?_)
 ·obtain ⟨G,O,ds,R,h1,h2,h3,h4⟩ := h
  rw [<- h2.length]
  exact len _ _ _ h3
 ·obtain ⟨G,O,ds,R,h1,h2,h3,h4⟩ := h
  refine ⟨_,hbody cdv A outer s H E ds O R hr h3 G,h1,Q9A h2,⟨λ σ ρ O' G' H' e1 s1 n1 q => h4 _ _ O' G' H' e1 s1 .non q,λ v d O' G' H' e1 s1 i1 q => h4 v d O' G' H' e1 s1 i1 q,λ σ ρ O' G' H' e1 s1 n1 q => q.elim,λ σ ρ O' G' H' e1 s1 n1 q => q.elim⟩⟩
theorem okD {x qual : Str} {st : Stmt} {f : Addr} {fd : FuncData} {N ps : List Str} {k : Nat} {sp : SpD} (F : Fun K x qual st f fd) (S : Q0k N ps (Q0f st)) (hm : mg x = some (.ref f)) (hb : Q0A K fd ps [])
  (len : ∀ ds O R,sp ds O R -> ds.length = ps.length)
  (hbody : ∀ (cdv : Value) (A : Around) (outer : List Env) (s : Shared) (H : Hp) (E : XK) (ds : List D) (O : Sto) (R : D -> Sto -> Prop),Room k (A.deeper (envOfC qual (Q0f st) s.heap.objs.size f cdv)) -> sp ds O R ->
   Exs (cxOf CX0 P w K mg base N qual (Q0f st) f cdv A outer s H E).nox (Q7M N ds) O (Q0Y st) { nx := λ _ O' => R .non O',rt := R }) : Q0j P w K mg base (k + 1) x sp :=
 ⟨f,fd,ps,okF F S len hbody,hm,F.kp,hb⟩
end
def Z4s : SpD := λ ds O R => ∃ ns : List Int,ds = [.scr (ns.map D.int)] /\ ns.length <= 63 /\ R (.bl true) O
theorem Z5t {K : PySem.W.Frag} {H : Hp} {a : Addr} {ns : List Int} (hl : ns.length <= 63) (hS : SqL K H a (ns.map V.int)) : toSp K Z4s [.ref a] H (λ v _ => v = .bl true) λ _ _ _ => False :=
 ⟨⟨H,[]⟩,[],[.scr (ns.map D.int)],λ d _ => d = .bl true,⟨Same.refl _,rfl,List.nodup_nil,λ a h => absurd h List.not_mem_nil,λ n m h => by cases h⟩,.cons (.scr hS Iss.ints) .nil,⟨ns,rfl,hl,rfl⟩,λ v d O' G' H' _ _ i r => by subst r; cases i; rfl⟩
section
variable {X : Cx} {ρ : Rho} {O : Sto} {e a b c : Expr} {es : List Expr} {d da db : D} {ds : List D} {R : D -> Sto -> Prop} {pos p : Pos} {x : Str}
theorem Q2Q {U : String} (hm : X.mg x = none) (hg : Gl X x := by rfl) (hv : bootBuiltins x = some (.type U) := by first | rfl | decide +kernel) (hn : x ≠ "__name__" := by decide) (hd : (x == ("__debug__" : Str)) = false := by decide) : EvP X ρ O (.Name x p) (.ty U) := λ G =>
 PE.imp (Z9o (v := .ty U) hg hm hv rfl hn hd) λ σ H Q ⟨h1,h2,h3⟩ => h3 _ G H (Ext.refl _) h1 (.ty U)
def tyD : D -> Option String
 | .non => some "NoneType" | .bl _ => some "bool" | .int _ => some "int" | .str _ => some "str" | .tup _ => some "tuple" | .lst _ => some "list" | .scr _ => some "list" | .ptr _ => none | .ty _ => none | .fn _ => none | .dct _ _ => some "dict"
theorem c_isi {T U : String} {k : Bool} (ht : tyD d = some T) (hk : ∀ K,PySem.W.kitOne K (.type T) (.type U) = some k) : Q1U X O (.builtin "isinstance") [d,.ty U] (.bl k) := λ G pins s σ H xs us Q I r ⟨h1,h2,h3⟩ => by
 cases h2 with
 | cons i r2 =>
  cases r2 with
  | cons i' r3 =>
   cases r3
   cases i'
   obtain ⟨u,u',rfl,r1,r2⟩ := Z0H r
   cases r2
   have fin : ∀ tk,EP X pins σ Q (.bool k) { s with toks := tk } := λ tk => ⟨.bl k,H,I.tok tk,rfl,h3 _ G H (Ext.refl _) h1 (.bl k)⟩
   cases i with
   | non => cases ht; cases r1; exact PySem.W.kia_one PySem.W.kitx_none I.kIn True.intro (hk _) (λ z => nomatch z) fin
   | bl y => cases ht; cases r1; exact PySem.W.kia_one PySem.W.kitx_bool I.kIn True.intro (hk _) (λ z => nomatch z) fin
   | int i => cases ht; obtain ⟨t,rfl⟩ := r1; exact PySem.W.kia_one PySem.W.kitx_int I.kIn True.intro (hk _) (λ z => nomatch z) fin
   | str y => cases ht; obtain ⟨t,rfl⟩ := r1; exact PySem.W.kia_one PySem.W.kitx_str I.kIn True.intro (hk _) (λ z => nomatch z) fin
   | tup q1 q2 =>
    cases ht; cases r1
    obtain ⟨its,_,⟨o,g1,g2,_⟩,_⟩ := I.tuple (Q0V h1.sub q1)
    exact PySem.W.kia_one PySem.W.kitx_tuple I.kIn ⟨o,g1,g2⟩ (hk _) (λ z => nomatch z) fin
   | lst q1 q2 =>
    cases ht; cases r1
    obtain ⟨its,_,⟨o,n,g1,g2,_⟩,_⟩ := I.list (SqL.of (h1.sub _ _ q1))
    exact PySem.W.kia_one PySem.W.kitx_list I.kIn ⟨o,g1,g2⟩ (hk _) (λ z => nomatch z) fin
   | scr q1 q2 =>
    cases ht; cases r1
    obtain ⟨its,_,⟨o,n,g1,g2,_⟩,_⟩ := I.list (h1.sub.seq q1)
    exact PySem.W.kia_one PySem.W.kitx_list I.kIn ⟨o,g1,g2⟩ (hk _) (λ z => nomatch z) fin
   | ptr _ _ => cases ht
   | ty _ => cases ht
   | fn _ => cases ht
   | dct q1 _ q2 =>
    cases ht; cases r1
    obtain ⟨_,_,_,_,o,_,_,g1,g2,_⟩ := Rd.ok (.inr ⟨_,h1.sub _ _ q1⟩) I.hok
    exact PySem.W.kia_one PySem.W.kitx_dict I.kIn ⟨o,g1,g2.1⟩ (hk _) (λ z => nomatch z) fin
def Y0y (T U : String) : Bool := T == U || (T == "bool" && U == "int")
theorem Z9B : ∀ T ∈ ["NoneType","bool","int","str","tuple","list","dict"],∀ U ∈ ["int","bool","tuple","str","dict","list"],∀ K,PySem.W.kitOne K (.type T) (.type U) = some (Y0y T U) := by
 intro T hT U hU K
 simp only [List.mem_cons,List.not_mem_nil,or_false] at hT hU
 rcases hT with rfl | rfl | rfl | rfl | rfl | rfl | rfl <;> rcases hU with rfl | rfl | rfl | rfl | rfl | rfl <;> kernel_rfl
def okTy : D -> Bool
 | .ptr _ => false | .ty _ => false | .fn _ => false | _ => true
def isiD (d : D) (U : String) : Bool := match tyD d with
 | some T => Y0y T U
 | none => false
theorem Z6k {U : String} (h : okTy d = true) (hU : U ∈ ["int","bool","tuple","str","dict","list"]) : Q1U X O (.builtin "isinstance") [d,.ty U] (.bl (isiD d U)) := by
 cases d with
 | ptr _ => cases h
 | ty _ => cases h
 | fn _ => cases h
 | _ => exact c_isi (T := _) rfl (Z9B _ wE U hU)
theorem Z0q (h : okTy d = true) : Q1U X O (.builtin "isinstance") [d,.ty "int"] (.bl (isiD d "int")) := Z6k h wE
theorem Q8d (h : okTy d = true) : Q1U X O (.builtin "isinstance") [d,.ty "bool"] (.bl (isiD d "bool")) := Z6k h wE
theorem Q1T (h : okTy d = true) : Q1U X O (.builtin "isinstance") [d,.ty "tuple"] (.bl (isiD d "tuple")) := Z6k h wE
end
def Q1C (env : Env) : List (Str × NameKind) -> List (Str × Addr) -> List (Str × Addr)
 | [],cs => cs
 | (n,k) :: r,cs => if k == .free then Q1C env r ((n,(env.cells.lookup n).getD 0) :: cs) else Q1C env r cs
theorem Q9h {env : Env} (f : Str × NameKind -> List (Str × Addr) -> Sem (ForInStep (List (Str × Addr))))
  (hf : ∀ n k cs,f (n,k) cs = if (k == NameKind.free) = true then (do let a <- cellOf env n; pure (.yield ((n,a) :: cs))) else pure (.yield cs)) :
  ∀ (names : List (Str × NameKind)) (cs : List (Str × Addr)),(∀ y ∈ names,y.2 = .free -> ∃ a,env.cells.lookup y.1 = some a) -> forIn names cs f = pure (Q1C env names cs)
 | [],cs,_ => by rw [List.forIn_nil]; rfl
 | (n,k) :: r,cs,h => by
  rw [List.forIn_cons,hf]
  have hr : ∀ y ∈ r,y.2 = .free -> ∃ a,env.cells.lookup y.1 = some a := λ y hy => h y (List.mem_cons_of_mem _ hy)
  unfold Q1C
  by_cases hk : (k == NameKind.free) = true
  ·rw [if_pos hk,if_pos hk]
   obtain ⟨a,e⟩ := h (n,k) List.mem_cons_self (by simpa using hk)
   have e' : cellOf env n = pure a := by unfold cellOf; rw [e]
   rw [e',e]
   simp only [pure_bind,Option.getD_some]
   exact Q9h f hf r _ hr
  ·rw [if_neg hk,if_neg hk]
   simp only [pure_bind]
   exact Q9h f hf r _ hr
theorem Z6a {env : Env} {scope : Scope} (h : ∀ y ∈ scope.names,y.2 = .free -> ∃ a,env.cells.lookup y.1 = some a) : closureFor scope env = pure (Q1C env scope.names []) := by
 have e := Q9h (env := env) (λ (x : Str × NameKind) (cs : List (Str × Addr)) => if (x.2 == NameKind.free) = true then (do let a <- cellOf env x.1; pure (.yield ((x.1,a) :: cs))) else pure (.yield cs)) (λ n k cs => rfl) scope.names [] h
 unfold closureFor
 exact (congrArg (λ z => z >>= λ q => pure q) e).trans (by simp)
theorem Z1x {env : Env} {x : Str} {c : Addr} : ∀ (names : List (Str × NameKind)) (cs : List (Str × Addr)),(∀ y ∈ names,y.2 = .free -> ∃ a,env.cells.lookup y.1 = some a) ->
  (Q1C env names cs).lookup x = some c -> cs.lookup x = some c \/ env.cells.lookup x = some c
 | [],cs,_,h => .inl h
 | (n,k) :: r,cs,hh,h => by
  have hr : ∀ y ∈ r,y.2 = .free -> ∃ a,env.cells.lookup y.1 = some a := λ y hy => hh y (List.mem_cons_of_mem _ hy)
  unfold Q1C at h
  by_cases hk : (k == NameKind.free) = true
  ·rw [if_pos hk] at h
   obtain ⟨a,e⟩ := hh (n,k) List.mem_cons_self (by simpa using hk)
   rcases Z1x r _ hr h with q | q
   ·rw [e,Option.getD_some,List.lookup_cons] at q
    cases hx : x == n with
    | true =>
     rw [hx] at q
     have : x = n := by simpa using hx
     subst this
     exact .inr (by cases q; exact e)
    | false => rw [hx] at q; exact .inl q
   ·exact .inr q
  ·rw [if_neg hk] at h
   exact Z1x r cs hr h
theorem Q4y {env : Env} {x : Str} : ∀ (names : List (Str × NameKind)) (cs : List (Str × Addr)),names.lookup x = some .free \/ (cs.lookup x).isSome = true -> ((Q1C env names cs).lookup x).isSome = true
 | [],cs,h => h.elim (λ e => by cases e) id
 | (n,k) :: r,cs,h => by
  unfold Q1C
  by_cases hk : (k == NameKind.free) = true
  ·rw [if_pos hk]
   refine Q4y r _ ?_
   cases hx : x == n with
   | true => right; rw [List.lookup_cons,hx]; rfl
   | false =>
    rw [List.lookup_cons,hx] at h
    rw [List.lookup_cons,hx]
    exact h
  ·rw [if_neg hk]
   refine Q4y r _ ?_
   cases hx : x == n with
   | true =>
    rw [List.lookup_cons,hx] at h
    rcases h with h | h
    ·cases h; exact absurd rfl hk
    ·exact .inr h
   | false => rw [List.lookup_cons,hx] at h; exact h
theorem Z6c {x : Str} : ∀ (names : List (Str × NameKind)) (n : Nat) (acc : List (Str × Addr)),(∀ y ∈ names,y.1 = x -> y.2 ≠ .cell) -> (cellsFrom n names acc).lookup x = acc.lookup x
 | [],_,_,_ => rfl
 | (y,k) :: r,n,acc,h => by
  have hr : ∀ z ∈ r,z.1 = x -> z.2 ≠ .cell := λ z hz => h z (List.mem_cons_of_mem _ hz)
  unfold cellsFrom
  by_cases hk : (k == NameKind.cell) = true
  ·rw [if_pos hk,Z6c r _ _ hr,List.lookup_cons]
   have : y ≠ x := λ e => h (y,k) List.mem_cons_self e (by simpa using hk)
   rw [show (x == y) = false from by simpa using Ne.symm this]
  ·rw [if_neg hk]
   exact Z6c r _ _ hr
theorem Z1y {x : Str} {c : Addr} : ∀ (names : List (Str × NameKind)) (h : Heap) (acc : List (Str × Addr)),(∀ y b,acc.lookup y = some b -> ∃ v,h.IsCell b v) -> (cellsFrom h.objs.size names acc).lookup x = some c ->
  (∃ v,(pushCells h names).IsCell c v) /\ (acc.lookup x = some c \/ h.objs.size <= c)
 | [],h,acc,hc,e => ⟨hc _ _ e,.inl e⟩
 | (y,k) :: r,h,acc,hc,e => by
  unfold cellsFrom at e
  unfold pushCells
  by_cases hk : (k == NameKind.cell) = true
  ·rw [if_pos hk] at e ⊢
   have hz : (h.push { cls := .type "cell",data := .cell none }).objs.size = h.objs.size + 1 := Heap.size_push ..
   rw [<- hz] at e
   obtain ⟨q1,q2⟩ := Z1y r (h.push { cls := .type "cell",data := .cell none }) ((y,h.objs.size) :: acc) (λ z b q => by
    rw [List.lookup_cons] at q
    cases hx : z == y with
    | true => rw [hx] at q; cases q; exact ⟨none,_,Heap.get?_push_size _ rfl,rfl⟩
    | false =>
     rw [hx] at q
     obtain ⟨v,o,q1,q2⟩ := hc z b q
     exact ⟨v,o,Heap.get?_push_of_some _ q1,q2⟩) e
   refine ⟨q1,?_⟩
   rcases q2 with q2 | q2
   ·rw [List.lookup_cons] at q2
    cases hx : x == y with
    | true => rw [hx] at q2; cases q2; exact .inr (Nat.le_refl _)
    | false => rw [hx] at q2; exact .inl q2
   ·exact .inr (by rw [hz] at q2; omega)
  ·rw [if_neg hk] at e ⊢
   exact Z1y r h acc hc e
theorem Z6d : ∀ (names : List (Str × NameKind)) (n : Nat) (acc : List (Str × Addr)),(∀ x y c,acc.lookup x = some c -> acc.lookup y = some c -> x = y) -> (∀ x c,acc.lookup x = some c -> c < n) ->
  ∀ x y c,(cellsFrom n names acc).lookup x = some c -> (cellsFrom n names acc).lookup y = some c -> x = y
 | [],_,_,hi,_ => hi
 | (z,k) :: r,n,acc,hi,hl => by
  unfold cellsFrom
  by_cases hk : (k == NameKind.cell) = true
  ·rw [if_pos hk]
   refine Z6d r (n + 1) ((z,n) :: acc) (λ x y c e1 e2 => ?_) (λ x c e => ?_)
   ·rw [List.lookup_cons] at e1 e2
    cases hx : x == z <;> cases hy : y == z <;> rw [hx] at e1 <;> rw [hy] at e2
    ·exact hi x y c e1 e2
    ·cases e2; exact absurd (hl _ _ e1) (Nat.lt_irrefl _)
    ·cases e1; exact absurd (hl _ _ e2) (Nat.lt_irrefl _)
    ·rw [show x = z by simpa using hx,show y = z by simpa using hy]
   ·rw [List.lookup_cons] at e
    cases hx : x == z <;> rw [hx] at e
    ·exact Nat.lt_succ_of_lt (hl _ _ e)
    ·cases e; exact Nat.lt_succ_self _
  ·rw [if_neg hk]
   exact Z6d r n acc hi hl
theorem Q5C {env : Env} {x : Str} {k : NameKind} : ∀ (names : List (Str × NameKind)),(names.map λ (n,k) => if (k == NameKind.free && env.scope.kind == .function && env.kindOf n == some .cell) then (n,NameKind.cell) else (n,k)).lookup x = some k ->
  names.lookup x = some k \/ (k = .cell /\ names.lookup x = some .free)
 | [],h => by cases h
 | (n,k') :: r,h => by
  rw [List.map_cons] at h
  by_cases hc : (k' == NameKind.free && env.scope.kind == .function && env.kindOf n == some .cell) = true
  ·simp only [hc,if_true] at h
   rw [List.lookup_cons] at h ⊢
   cases hx : x == n with
   | true =>
    rw [hx] at h; cases h
    have : k' = .free := by
     simp only [Bool.and_eq_true,beq_iff_eq] at hc
     exact hc.1.1
    subst this
    exact .inr ⟨rfl,rfl⟩
   | false => rw [hx] at h; exact Q5C r h
  ·simp only [hc,Bool.false_eq_true,if_false] at h
   rw [List.lookup_cons] at h ⊢
   cases hx : x == n with
   | true => rw [hx] at h; exact .inl h
   | false => rw [hx] at h; exact Q5C r h
theorem Q4O {env : Env} {x : Str} : ∀ (names : List (Str × NameKind)),names.lookup x = some .free ->
  (names.map λ (n,k) => if (k == NameKind.free && env.scope.kind == .function && env.kindOf n == some .cell) then (n,NameKind.cell) else (n,k)).lookup x = some .cell \/
  (names.map λ (n,k) => if (k == NameKind.free && env.scope.kind == .function && env.kindOf n == some .cell) then (n,NameKind.cell) else (n,k)).lookup x = some .free
 | [],h => by cases h
 | (n,k') :: r,h => by
  rw [List.map_cons]
  rw [List.lookup_cons] at h
  by_cases hc : (k' == NameKind.free && env.scope.kind == .function && env.kindOf n == some .cell) = true
  ·simp only [hc,if_true]
   rw [List.lookup_cons]
   cases hx : x == n with
   | true => left; rfl
   | false => rw [hx] at h; exact Q4O r h
  ·simp only [hc]
   cases hx : x == n with
   | true => rw [hx] at h; right; exact (by simp [List.lookup_cons,hx]; exact Option.some.inj h)
   | false =>
    rw [hx] at h
    simpa [List.lookup_cons,hx] using Q4O r h
def cxC (X : Cx) (N : List Str) (scope : Scope) (s : Shared) (H : Hp) (fp : List Addr) : Cx :=
 { X with
  N := N
  s₀ := s
  H₀ := H
  env := compEnvC scope (cellsFrom (s.heap.objs.size + 2) scope.names (Q1C X.env scope.names [])) (s.heap.objs.size + 1) X.env
  outer := X.stack
  ex := fp
  fn := λ x => scope.names.lookup x == some .cell
  pn := []
  xe := λ _ _ => False }
section
variable {X : Cx} {pins : List (Addr × Obj)} {σ : L2.St} {H : Hp} {s : Shared}
def Z2J (X : Cx) (scope : Scope) : Prop := ∀ y ∈ scope.names,y.2 = .free -> X.env.kindOf y.1 = some .cell \/ X.env.kindOf y.1 = some .free
theorem Z2n {N : List Str} {scope : Scope} {fp : List Addr} {σ0 : L2.St} (I : L2.Inv X pins σ H s) (hf : ∀ b ∈ fp,FpOk X pins H b) (ho : ∀ b ∈ fp,∃ o,s.heap.get? b = some o) (hk : scope.kind = .function) (hfr : Z2J X scope)
  (hl : σ0.length = N.length) (hσ : ∀ (i : Nat) (v : V),σ0[i]? = some (some v) -> ∃ (x : Str) (j : Nat),N[i]? = some x /\ scope.names.lookup x = some .free /\ (∀ y ∈ scope.names,y.1 = x -> y.2 ≠ .cell) /\ X.N[j]? = some x /\ σ[j]? = some (some v) /\ Vis X.env.scope x) (t : Nat) (oD : Obj) :
  L2.Inv (cxC X N scope s H fp) [] σ0 H { s with heap := pushCells ((s.heap.push oD).push { cls := .type "dict",data := .dict #[] }) scope.names,toks := t } := by
 have hz1 : (s.heap.push oD).objs.size = s.heap.objs.size + 1 := Heap.size_push ..
 have hz : ((s.heap.push oD).push { cls := .type "dict",data := .dict #[] }).objs.size = s.heap.objs.size + 2 := by rw [Heap.size_push,hz1]
 have up : ∀ b o,s.heap.get? b = some o -> (pushCells ((s.heap.push oD).push { cls := .type "dict",data := .dict #[] }) scope.names).get? b = some o := λ b o e => pushCells_keeps _ _ b o (Heap.get?_push_of_some _ (Heap.get?_push_of_some _ e))
 have hcl : ∀ y ∈ scope.names,y.2 = .free -> ∃ a,X.env.cells.lookup y.1 = some a := λ y hy e => I.ok.has _ (hfr y hy e)
 have cl1 : ∀ y b,(Q1C X.env scope.names []).lookup y = some b -> X.env.cells.lookup y = some b := λ y b e => by
  rcases Z1x _ _ hcl e with q | q
  ·cases q
  ·exact q
 have cl2 : ∀ y b,(Q1C X.env scope.names []).lookup y = some b -> b < s.heap.objs.size := λ y b e => by
  obtain ⟨v,q⟩ := I.cell y b (cl1 y b e); exact q.lt
 have cc : ∀ y b,(cellsFrom (s.heap.objs.size + 2) scope.names (Q1C X.env scope.names [])).lookup y = some b ->
   (∃ v,(pushCells ((s.heap.push oD).push { cls := .type "dict",data := .dict #[] }) scope.names).IsCell b v) /\ (X.env.cells.lookup y = some b /\ b < s.heap.objs.size \/ s.heap.objs.size + 2 <= b) := λ y b e => by
  rw [<- hz] at e
  obtain ⟨q1,q2⟩ := Z1y scope.names ((s.heap.push oD).push { cls := .type "dict",data := .dict #[] }) _ (λ z c q => by
   obtain ⟨v,o,q1,q2⟩ := I.cell z c (cl1 z c q)
   exact ⟨v,o,Heap.get?_push_of_some _ (Heap.get?_push_of_some _ q1),q2⟩) e
  refine ⟨q1,?_⟩
  rcases q2 with q2 | q2
  ·exact .inl ⟨cl1 _ _ q2,cl2 _ _ q2⟩
  ·rw [hz] at q2; exact .inr q2
 have hlt := I.lt
 refine ⟨⟨I.ok.mod,hk,I.ok.glob,I.ok.blt,Nat.le_succ _,?_,?_,?_,I.ok.hd,I.ok.frames,.inl rfl,?_,I.bs,Nat.le_trans I.ok.bsz I.sz,?_,?_,I.stack,I.stkFree⟩,rfl,I.bare,Un.kept up,?_,?_,?_,?_,?_,I.hok.kept up,hl⟩
 ·exact Z6d _ _ _ (λ x y c e1 e2 => I.ok.inj x y c (cl1 _ _ e1) (cl1 _ _ e2)) (λ x c e => Nat.lt_of_lt_of_le (cl2 x c e) (Nat.le_add_right _ 2))
 ·intro x hx
  have hx : (relabel scope X.env).names.lookup x = some .cell \/ (relabel scope X.env).names.lookup x = some .free := hx
  have : ((cellsFrom (s.heap.objs.size + 2) scope.names (Q1C X.env scope.names [])).lookup x).isSome = true := by
   refine PySem.W.cellsFrom_some _ _ _ ?_
   rcases hx with hx | hx
   ·rcases Q5C _ hx with q | ⟨_,q⟩
    ·exact .inl q
    ·exact .inr (Q4y _ _ (.inl q))
   ·rcases Q5C _ hx with q | ⟨q,_⟩
    ·exact .inr (Q4y _ _ (.inl q))
    ·cases q
  exact Option.isSome_iff_exists.mp this
 ·intro x c hfn e
  rcases (cc x c e).2 with ⟨q,q'⟩ | q
  ·exfalso
   have hfn : scope.names.lookup x = some .cell := by simpa [cxC] using hfn
   -- own names' cells are new
   have : ∀ (names : List (Str × NameKind)) (n : Nat) (acc : List (Str × Addr)),names.lookup x = some .cell \/ (∃ b,acc.lookup x = some b /\ s.heap.objs.size <= b) -> s.heap.objs.size <= n -> ∀ b,(cellsFrom n names acc).lookup x = some b -> s.heap.objs.size <= b := by
    intro names
    induction names with
    | nil =>
     intro n acc h hn b eb
     rcases h with h | ⟨b',h,hb⟩
     ·cases h
     ·have eb : acc.lookup x = some b := eb
      rw [h] at eb; cases eb; exact hb
    | cons p r ih =>
     obtain ⟨y,k⟩ := p
     intro n acc h hn b eb
     unfold cellsFrom at eb
     by_cases hkc : (k == NameKind.cell) = true
     ·rw [if_pos hkc] at eb
      refine ih (n + 1) _ ?_ (Nat.le_succ_of_le hn) b eb
      cases hxy : x == y with
      | true => right; exact ⟨n,by rw [List.lookup_cons,hxy],hn⟩
      | false =>
       rw [List.lookup_cons,hxy] at h
       rw [List.lookup_cons,hxy]
       exact h
     ·rw [if_neg hkc] at eb
      refine ih n _ ?_ hn b eb
      cases hxy : x == y with
      | true =>
       rw [List.lookup_cons,hxy] at h
       rcases h with h | h
       ·cases h; exact absurd rfl hkc
       ·exact .inr h
      | false => rw [List.lookup_cons,hxy] at h; exact h
   exact absurd q' (Nat.not_lt.mpr (this scope.names _ _ (.inl hfn) (Nat.le_add_right _ 2) c e))
  ·exact Nat.le_trans (Nat.le_add_right _ 2) q
 ·intro b hb
  have hbl : b < s.heap.objs.size := let ⟨o,e⟩ := ho b hb; Heap.lt_size e
  refine ⟨Nat.ne_of_lt (Nat.lt_succ_of_lt hbl),λ x c e => ?_⟩
  obtain ⟨f0,f1,f2,f3,f4,f5⟩ := hf b hb
  rcases (cc x c e).2 with ⟨q,_⟩ | q
  ·exact f4 x c q
  ·exact Nat.ne_of_gt (Nat.lt_of_lt_of_le (Nat.lt_of_lt_of_le hbl (Nat.le_add_right _ 2)) q)
 ·intro b o e hb
  obtain ⟨f0,f1,f2,f3,f4,f5⟩ := hf b hb
  rcases f3 with q | q
  ·exact I.ok.noex b o e q
  ·exact absurd (Nat.lt_of_lt_of_le (Heap.lt_size e) (Nat.le_trans I.ok.bsz q)) (Nat.lt_irrefl _)
 ·intro b hb z
  obtain ⟨f0,f1,f2,f3,f4,f5⟩ := hf b hb
  rcases List.mem_cons.mp (I.stkSub b z) with q | q
  ·exact f1 q
  ·exact f2 q
 ·refine ⟨λ _ => none,?_,λ i x v e1 e2 e3 => ?_⟩
  ·show Heap.Ns _ (s.heap.objs.size + 1) _
   rw [<- hz1]
   exact (Heap.Ns.new (s.heap.push oD) (.type "dict")).keeps (pushCells_keeps _ _)
  ·obtain ⟨x',j,q1,q2,q3,q4,q5,q6⟩ := hσ i v e2
   have : x' = x := Option.some.inj (q1.symm.trans e1)
   subst this
   obtain ⟨m,hn,hlk⟩ := I.loc
   obtain ⟨u,ru,lk⟩ := hlk j x' v q4 q5 q6
   refine ⟨u,ru,.inr ⟨?_,?_⟩⟩
   ·exact Q4O _ q2
   ·have hks := hfr (x',.free) (PySem.mem_of_lookup q2) rfl
    rcases lk with ⟨k,_⟩ | ⟨k,c,e,z⟩
    ·rcases hks with z | z
     ·rw [k] at z; cases z
     ·rw [k] at z; cases z
    ·refine ⟨c,?_,z.keeps up⟩
     show (cellsFrom _ _ _).lookup x' = some c
     rw [Z6c _ _ _ q3]
     obtain ⟨b,eb⟩ := Option.isSome_iff_exists.mp (Q4y (env := X.env) scope.names [] (.inl q2))
     rw [eb,<- cl1 _ _ eb,e]
 ·exact λ x c e => (cc x c e).1
 ·exact I.hok.fresh (Nat.le_succ _)
 ·intro x c e
  rcases (cc x c e).2 with ⟨q,_⟩ | q
  ·exact I.freeC x c q
  ·exact I.hok.fresh (Nat.le_trans (Nat.le_add_right _ 2) q)
 ·intro p hp
  exact absurd (show p ∈ ([] : List (Addr × Obj)) from hp) (by simp)
end
theorem Q6H {M : Model} {A : Around} {E : Value -> Shared -> Prop} {s : Shared} {scope : Scope} {g : Addr} {cl : List (Str × Addr)} {q : Str} {env : Env} {Q : Env -> Shared -> Prop}
  (h : ∀ b,b = env.builtins -> Q { scope := scope,locals := s.heap.objs.size,globals := g,cells := cellsFrom (s.heap.objs.size + 1) scope.names cl,qual := q,func := none,code := env.code,frame := env.frame,builtins := b }
   { s with heap := pushCells (s.heap.push { cls := .type "dict",data := .dict #[] }) scope.names }) : wpAny M A (newFunctionEnv scope g cl [] q none .none (some env)) Q E s := by
 simp only [newFunctionEnv,Option.isSome_some,if_true]
 refine wpAny_bind (wpAny_alloc ?_)
 refine wpAny_bind (wpAny_layCells _ (λ n k cells => by cases hkc : k == NameKind.cell <;> simp [hkc]) _ _ _ _ ?_)
 rw [show ({ s with heap := s.heap.push { cls := .type "dict",data := .dict #[] } } : Shared).heap.objs.size = s.heap.objs.size + 1 from Heap.size_push ..]
 rw [List.forIn_nil]
 exact wpAny_bind (wpAny_pure (wpAny_pure (h _ rfl)))
theorem Z6s {fs ex : List Addr} {H H' : Hp} {h h' : Heap} {D : Addr} {o : HO} (u : Un fs ex H H' h h') (hn : H D = none) (hh : h.get? D = none) : Un fs ex H (upd H' D o) h h' where
 keep := u.keep
 slot := u.slot
 free := λ b ob q n hx => by
  rw [Q0w (λ z => by rw [z,hh] at q; cases q)]; exact u.free b ob q n hx
 there := u.there
 tups := λ b xs q => by rw [Q0w (Q0Q q hn)]; exact u.tups b xs q
 frzs := λ b ob xs q => by rw [Q0w (Q0Q q hn)]; exact u.frzs b ob xs q
 tbls := λ b ps q => by rw [Q0w (Q0Q q hn)]; exact u.tbls b ps q
theorem Q9s {P : Program} {w : World} {H : Hp} {h : Heap} {D : Addr} {o : HO} (x : HOk P w H h) (hn : H D = none) (new : Q1Y P w (upd H D o) h D o) : HOk P w (upd H D o) h := λ b u e => by
 by_cases hb : b = D
 ·subst hb
  rw [Q0u] at e
  cases e
  exact new
 ·rw [Q0w hb] at e
  refine (x b u e).stay (λ c v _ q => q) (λ c q => ?_) λ c xs q => ?_
  ·rw [Q0w (Q0Q q hn)]; exact q
  ·rw [Q0w (Q0Q q hn)]; exact q
theorem Q5e {prog : Program} {w : World} {A : Around} {R : Result -> Shared -> Prop} {elt tg iter : Expr} {ifs : List Expr} {scope : Scope} {pos : Pos} {it acc : Value} {env : Env} (V : Nat -> Shared -> Prop)
  (turn : ∀ (n : Nat) (s : Shared) (F : Value -> Shared -> Prop),V n s -> wpAny (model prog w) A (pyNext it) (λ r s1 => match r with
   | none => R (.ok .next) s1
   | some v => wpAny (model prog w) A (letOwnedTupleGo tg it v) (λ _ s2 => wpAny (model prog w) A (assign tg env v) (λ _ s3 =>
     wpAny (model prog w) A (compTests ifs env) (λ ok s4 => if ok = true then wpAny (model prog w) A (eval elt env) (λ x s5 => wpAny (model prog w) A (call (.builtin "list.append") [acc,x]) (λ _ s6 => ∃ m,m < n /\ V m s6) F s5) F s4
      else ∃ m,m < n /\ V m s4) F s3) F s2) F s1) F s) :
  ∀ (n : Nat) (s : Shared),V n s -> codeAny (model prog w) A (.compLoop (.ListComp elt [⟨tg,iter,ifs,0⟩] scope pos) 0 it acc env) R s := λ n s h => by
 refine codeAny_loop rfl V (λ n s hV => ?_) n h
 refine wpAny_noted ?_
 rw [compTurn_list]
 refine wpAny_bind (wpAny_standAt (wpAny_bind (thn (turn n s _ hV) λ r s1 h1 => ?_)))
 cases r with
 | none => exact wpAny_pure h1
 | some v =>
  refine wpAny_bind (thn h1 λ _ s2 h2 => wpAny_bind (thn h2 λ _ s3 h3 => ?_))
  have h3 : wpAny (model prog w) A (compTests ifs env) _ _ s3 := h3
  unfold compTests at h3
  rw [show ∀ x : Sem Bool,(x >>= λ q => pure q) = x from λ x => bind_pure x] at h3
  refine wpAny_bind (thn h3 λ ok s4 h4 => ?_)
  cases ok with
  | false => exact wpAny_pure ⟨rfl,h4⟩
  | true => exact wpAny_bind (wpAny_bind (thn h4 λ x s5 h5 => wpAny_bind (thn h5 λ _ s6 h6 => wpAny_pure (wpAny_pure ⟨rfl,h6⟩))))
abbrev lstO (ys : List Value) : Obj := { cls := .type "list",data := .seq ys.toArray ys.length }
def Kept (X : Cx) (ρ : Rho) (O : Sto) (elt : Expr) : List Expr -> Option D -> Prop
 | [],z => ∃ y,z = some y /\ EvP X ρ O elt y
 | [c],z => ∃ k,EvT X ρ O c k /\ (k = true -> ∃ y,z = some y /\ EvP X ρ O elt y) /\ (k = false -> z = none)
 | _,_ => False
theorem EnvR.weak {K : PySem.W.Frag} {G : Wd} {σ : L2.St} {ρ ρ' : Rho} (h : EnvR K G σ ρ) (hl : ρ'.length = ρ.length) (hs : ∀ (i : Nat) (d : D),ρ'[i]? = some (some d) -> ρ[i]? = some (some d)) : EnvR K G σ ρ' :=
 ⟨h.len.trans hl.symm,λ i d e => h.get i d (hs i d e)⟩
theorem Z1o {α : Type} (P : Nat -> α -> Prop) : ∀ n : Nat,(∀ i,i < n -> ∃ a,P i a) -> ∃ l : List α,l.length = n /\ ∀ i a,l[i]? = some a -> P i a
 | 0,_ => ⟨[],rfl,λ i a h => by simp at h⟩
 | n + 1,h => by
  obtain ⟨l,h1,h2⟩ := Z1o P n λ i hi => h i (Nat.lt_succ_of_lt hi)
  obtain ⟨a,ha⟩ := h n (Nat.lt_succ_self _)
  refine ⟨l ++ [a],by simp [h1],λ i b hb => ?_⟩
  by_cases hi : i < n
  ·rw [List.getElem?_append_left wF] at hb; exact h2 i b hb
  ·have hin : i = n := by
    have := (List.getElem?_eq_some_iff.mp hb).1
    simp [h1] at this; omega
   subst hin
   rw [List.getElem?_append_right wF,h1,Nat.sub_self] at hb
   cases hb; exact ha
section
variable {X : Cx} {ρ : Rho} {O : Sto} {elt tg iter : Expr} {ifs : List Expr} {scope : Scope} {pos : Pos} {xs : List D} {zs : List (Option D)}
theorem Z5C {α : Type} : ∀ (zs : List (Option α)) (i : Nat) (z : Option α),zs[i]? = some z -> (zs.take (i + 1)).filterMap id = (zs.take i).filterMap id ++ z.toList := by
 intro zs i z h
 rw [List.take_add_one,h,List.filterMap_append]
 cases z <;> rfl
theorem Z0l (N : List Str) (js : List Nat) (ρ0 : Rho) (hi : EvI X ρ O tg iter xs) (hc : X.calm = true) (hk : scope.kind = .function) (hfr : Z2J X scope) (hnm : ∀ x ∈ scope.names,x.2 = .local -> scope.names.lookup x.1 = some .local)
    (hl0 : ρ0.length = N.length)
    (h0 : ∀ (i : Nat) (d : D),ρ0[i]? = some (some d) -> ∃ (x : Str) (j : Nat),N[i]? = some x /\ scope.names.lookup x = some .free /\ (∀ y ∈ scope.names,y.1 = x -> y.2 ≠ .cell) /\ X.N[j]? = some x /\ ρ[j]? = some (some d) /\ Vis X.env.scope x)
    (hzl : zs.length = xs.length) (hsz : xs.length <= sizeLine)
    (turn : ∀ (s : Shared) (H : Hp) (fp : List Addr) (i : Nat) (x : D) (z : Option D),xs[i]? = some x -> zs[i]? = some z -> ∃ ρ1,Tg (cxC X N scope s H fp) tg x ρ0 ρ1 /\ ρ1.length = ρ0.length /\ (∀ (j : Nat) (d : D),ρ0[j]? = some (some d) -> ρ1[j]? = some (some d)) /\ Kept (cxC X N scope s H fp) ρ1 O elt ifs z)
    {use : Option (Value -> Sem Unit)} {pins : List (Addr × Obj)} {s : Shared} {σ : L2.St} {H : Hp} {G : Wd} {Q : Value -> Shared -> Prop} (I : L2.Inv X pins σ H s) (sa : SA X.K G H O) (en : EnvR X.K G σ ρ)
    (fin : ∀ (D C : Addr) (s' : Shared) (H' : Hp) (G' : Wd),L2.Inv X pins σ H' s' -> Ext G G' -> SA X.K G' H' O -> Is X.K G' (.lst (zs.filterMap id)) (.ref D) -> FpOk X pins H' C -> (∃ m,s'.heap.Ns C m) -> compPost (model X.prog X.w) X.A X.xe use Q (.ref D) C (.ok .next) s')
    (hs : ∀ x,foldedSetIterable iter X.env x = pure x := by intro _; rfl) :
    wpAny (model X.prog X.w) X.A (comprehension (.ListComp elt [⟨tg,iter,ifs,0⟩] scope pos) scope X.env (firstIterPos [⟨tg,iter,ifs,0⟩] pos) (newList []) false (eval iter X.env) use) Q X.xe s := by
  refine wpAny_comprehension_free rfl hs (Z6a λ y hy e => I.ok.has _ (hfr y hy e)) hk hnm (thn (hi G pins s σ H (λ J H1 => ∃ G1,Ext G G1 /\ SA X.K G1 H1 O /\ Q2Y X.K G1 J xs) I ⟨sa,en,λ J G1 H1 e1 s1 y1 => ⟨G1,e1,s1,y1⟩⟩) λ v s1 h1 => thn h1 λ itv s2 h2 => ?_)
  obtain ⟨it,fp,tn,J,H2,e,I2,T,st2,f2,G2,e2,sa2,Yi⟩ := h2
  subst e
  have ho2 : ∀ b ∈ fp,∃ o,s2.heap.get? b = some o := λ b hb => let ⟨o,q,_⟩ := T.obj 0 _ st2 b hb; ⟨o,q⟩
  have hlt : ∀ b ∈ fp,b < s2.heap.objs.size := λ b hb => let ⟨o,q⟩ := ho2 b hb; Heap.lt_size q
  unfold newList
  refine wpAny_newObj_type (Q6H λ bb hbb => ?_)
  have hbb' : bb = X.env.builtins := hbb
  subst hbb'
  have hz1 : (s2.heap.push { cls := .type "list",dict := none,data := .seq ([] : List Value).toArray }).objs.size = s2.heap.objs.size + 1 := Heap.size_push ..
  dsimp only
  rw [hz1]
  generalize hD : s2.heap.objs.size = dd at hz1 ⊢
  -- the block's own context
  have en2 : EnvR X.K G2 σ ρ := en.ext e2
  obtain ⟨σ0,hσl,hσ0⟩ := Z1o (λ i (o : Option V) => (∀ d,ρ0[i]? = some (some d) -> ∃ v,o = some v /\ Is X.K G2 d v) /\ ∀ v,o = some v -> ∃ (x : Str) (j : Nat),N[i]? = some x /\ scope.names.lookup x = some .free /\ (∀ y ∈ scope.names,y.1 = x -> y.2 ≠ .cell) /\ X.N[j]? = some x /\ σ[j]? = some (some v) /\ Vis X.env.scope x) N.length (λ i hi => by
    cases q : ρ0[i]? with
    | none => exact ⟨none,And.intro (λ d z => nomatch z) (λ v z => nomatch z)⟩
    | some o =>
      cases o with
      | none => exact ⟨none,And.intro (λ d z => nomatch z) (λ v z => nomatch z)⟩
      | some d =>
        obtain ⟨x,j,q1,q2,q3,q4,q5,q6⟩ := h0 i d q
        obtain ⟨v,q7,q8⟩ := en2.get j d q5
        exact ⟨some v,And.intro (λ d' z => by cases z; exact ⟨v,rfl,q8⟩) (λ v' z => by cases z; exact ⟨x,j,q1,q2,q3,q4,q7,q6⟩)⟩)
  have en0 : EnvR X.K G2 σ0 ρ0 := ⟨hσl.trans hl0.symm,λ i d e => by
    have hi : i < σ0.length := by rw [hσl,<- hl0]; exact (List.getElem?_eq_some_iff.mp e).1
    obtain ⟨v,e1,e2⟩ := (hσ0 i σ0[i] (List.getElem?_eq_getElem hi)).1 d e
    exact ⟨v,by rw [List.getElem?_eq_getElem hi,e1],e2⟩⟩
  have I3 := Z2n (N := N) (scope := scope) (fp := fp) (σ0 := σ0) I2 f2 ho2 hk hfr hσl (λ i v e => (hσ0 i _ e).2 v rfl) s2.toks { cls := .type "list",dict := none,data := .seq ([] : List Value).toArray }
  generalize hY : cxC X N scope s2 H2 fp = Y at I3
  have hD1 : (pushCells ((s2.heap.push { cls := .type "list",dict := none,data := .seq ([] : List Value).toArray }).push { cls := .type "dict",data := .dict #[] }) scope.names).get? dd = some (lstO []) := by
    refine pushCells_keeps _ _ _ _ (Heap.get?_push_of_some _ ?_)
    rw [<- hD]
    exact Heap.get?_push_size _ rfl
  have hHD : H2 dd = none := I2.hok.fresh (by rw [hD]; exact Nat.le_refl _)
  have hsD : s2.heap.get? dd = none := Heap.get?_none_of_le (by rw [hD]; exact Nat.le_refl _)
  have hDC : dd ≠ Y.env.locals := by
    rw [<- hY]; show dd ≠ s2.heap.objs.size + 1; rw [hD]; exact Nat.ne_of_lt (Nat.lt_succ_self _)
  have hfs : ∀ b ∈ frs X.stack,b < s2.heap.objs.size := λ b hb => by
    rcases List.mem_cons.mp (I2.stkSub b hb) with q | q
    · rw [q]; exact I2.lt
    · exact Nat.lt_of_not_le λ z => I2.nofs z q
  have hYfs : Y.fs = frs X.stack := by rw [<- hY]; rfl
  have hDfs : dd ∉ Y.fs := λ z => by rw [hYfs] at z; have := hfs dd z; rw [hD] at this; exact Nat.lt_irrefl _ this
  have hYex : Y.ex = fp := by rw [<- hY]; rfl
  have hYpn : Y.pn = [] := by rw [<- hY]; rfl
  have hYxe : Y.xe = λ _ _ => False := by rw [<- hY]; rfl
  have hYs : Y.s₀.heap.objs.size = dd := by rw [<- hY]; exact hD
  have hYc : ∀ x c,Y.env.cells.lookup x = some c -> c ≠ dd /\ ∀ b ∈ fp,c ≠ b := λ x c e => by
    refine ⟨?_,λ b hb => ?_⟩
    · intro z
      subst z
      obtain ⟨v,o,q1,q2⟩ := I3.cell x c e
      rw [hD1] at q1; cases q1; cases q2
    · have := I3.ok.exf b (by rw [hYex]; exact hb)
      exact this.2 x c e
  have fpY : ∀ {H' : Hp} {pl : List (Addr × Obj)},(∀ b ∈ fp,H' b = none) -> (∀ p ∈ pl,p.1 = dd) -> ∀ b ∈ fp,FpOk Y pl H' b := λ hn hp b hb => ⟨hn b hb,(I3.ok.exf b (by rw [hYex]; exact hb)).1,I3.ok.exfs b (by rw [hYex]; exact hb),.inl (by rw [hYex]; exact hb),λ x c e => (hYc x c e).2 b hb,λ p hq => by
    rw [hYpn,List.nil_append] at hq
    rw [hp p hq]
    exact Nat.ne_of_gt (by rw [<- hD]; exact hlt b hb)⟩
  have I4 : L2.Inv Y [(dd,lstO [])] σ0 H2 { s2 with heap := pushCells ((s2.heap.push { cls := .type "list",dict := none,data := .seq ([] : List Value).toArray }).push { cls := .type "dict",data := .dict #[] }) scope.names,toks := s2.toks } := I3.pins_of λ p hp => by
    rw [List.mem_singleton.mp hp]
    exact ⟨hD1,hHD,hDC,hDfs,λ v z => by cases z⟩
  have st4 : tn 0 (pushCells ((s2.heap.push { cls := .type "list",dict := none,data := .seq ([] : List Value).toArray }).push { cls := .type "dict",data := .dict #[] }) scope.names) := T.keep 0 _ _ st2 λ b hb o e => pushCells_keeps _ _ b o (Heap.get?_push_of_some _ (Heap.get?_push_of_some _ e))
  have hYp : Y.prog = X.prog := by rw [<- hY]; rfl
  have hYw : Y.w = X.w := by rw [<- hY]; rfl
  have hYK : Y.K = X.K := by rw [<- hY]; rfl
  have hYA : Y.A = X.A := by rw [<- hY]; rfl
  have hYcm : Y.calm = true := by rw [<- hY]; exact hc
  have loop : ∀ s3 : Shared,s3 = { s2 with heap := pushCells ((s2.heap.push { cls := .type "list",dict := none,data := .seq ([] : List Value).toArray }).push { cls := .type "dict",data := .dict #[] }) scope.names } ->
      codeAny (model X.prog X.w) X.A (.compLoop (.ListComp elt [⟨tg,iter,ifs,0⟩] scope pos) 0 (.ref it) (.ref dd) Y.env) (compPost (model X.prog X.w) X.A X.xe use Q (.ref dd) (dd + 1)) s3 := by
    rintro s3 rfl
    refine Q5e (λ n s' => ∃ (i : Nat) (G' : Wd) (σ' : L2.St) (H' : Hp) (vs : List V) (its : List Value),n = xs.length - i /\ i <= xs.length /\ L2.Inv Y [(dd,lstO its)] σ' H' s' /\ tn i s'.heap /\ (∀ b ∈ fp,H' b = none) /\ Ext G2 G' /\ SA X.K G' H' O /\ EnvR X.K G' σ' ρ0 /\
      Iss X.K G' ((zs.take i).filterMap id) vs /\ Vals vs its /\ its.length <= i) ?_ xs.length _ ⟨0,G2,σ0,H2,[],[],rfl,Nat.zero_le _,I4,st4,λ b hb => (f2 b hb).1,Ext.refl _,sa2,en0,.nil,.nil,Nat.le_refl _⟩
    rintro n s5 F ⟨i,G5,σ5,H5,vs,its,rfl,hil,I5,st5,fr5,e5,sa5,en5,is5,va5,hl5⟩
    by_cases hlt5 : i < xs.length
    · have hx : xs[i]? = some xs[i] := List.getElem?_eq_getElem hlt5
      have hzi : i < zs.length := by omega
      have hz : zs[i]? = some zs[i] := List.getElem?_eq_getElem hzi
      generalize xs[i] = x at hx
      generalize zs[i] = z at hz
      have it5 := T.item Y hYp hYw hYK hYcm i [(dd,lstO its)] s5 σ5 H5 F I5 (fpY fr5 (λ p hp => by rw [List.mem_singleton.mp hp])) st5 (Yi.go i H5 (e5.g.trans sa5.sub) hlt5)
      rw [hYA] at it5
      refine thn it5 λ r s6 ⟨u,hr,h6⟩ => ?_
      subst hr
      refine thn h6 λ _ s7 ⟨xv,H7,I7,r7,y7,st7,fr7⟩ => ?_
      obtain ⟨x',G7,hx',e7,sa7,ix⟩ := Yi.yld i xv H5 H7 G5 O e5 sa5 y7 hlt5
      have : x' = x := Option.some.inj (hx'.symm.trans hx)
      subst this
      have I7' := I7.pinned (fpY fr7 (λ p hp => by rw [List.mem_singleton.mp hp])) (T.obj _ _ st7)
      obtain ⟨ρ1,tg1,hl1,hs1,kp1⟩ := turn s2 H2 fp i x' z hx hz
      rw [hY] at tg1 kp1
      have xeF : ∀ {α : Type} {t : Sem α} {P : α -> Shared -> Prop} {q : Shared},wpAny (model Y.prog Y.w) Y.A t P Y.xe q -> wpAny (model X.prog X.w) X.A t P F q := λ h => by
        rw [hYp,hYw,hYA,hYxe] at h
        exact wpAny_mono h (λ _ _ q => q) λ _ _ q => q.elim
      refine thn (xeF (tg1 G7 _ s7 σ5 H7 xv u (λ σ' H' => EnvR X.K G7 σ' ρ1 /\ H' = H7) I7' r7 (by
        rw [hYK]
        exact ⟨ix,sa7.sub,en5.ext e7,λ σ' q => ⟨q,rfl⟩⟩))) λ _ s8 ⟨σ8,H8,I8,en8,hH8⟩ => ?_
      subst hH8
      -- back to the invariant,with or without one more
      have again : ∀ {s9 : Shared} {H9 : Hp} {G9 : Wd} {its' : List Value} {vs' : List V},L2.Inv Y ((dd,lstO its') :: Q2d fp s7.heap) σ8 H9 s9 -> Ext G7 G9 -> SA X.K G9 H9 O -> Iss X.K G9 ((zs.take (i + 1)).filterMap id) vs' -> Vals vs' its' -> its'.length <= i + 1 ->
          ∃ m,m < xs.length - i /\ ∃ (i : Nat) (G' : Wd) (σ' : L2.St) (H' : Hp) (vs : List V) (its : List Value),m = xs.length - i /\ i <= xs.length /\ L2.Inv Y [(dd,lstO its)] σ' H' s9 /\ tn i s9.heap /\ (∀ b ∈ fp,H' b = none) /\ Ext G2 G' /\ SA X.K G' H' O /\ EnvR X.K G' σ' ρ0 /\
            Iss X.K G' ((zs.take i).filterMap id) vs /\ Vals vs its /\ its.length <= i := λ {s9 H9 G9 its' vs'} I9 e9 sa9 is9 va9 hl9 => by
        refine ⟨xs.length - (i + 1),by omega,i + 1,G9,σ8,H9,vs',its',rfl,hlt5,I9.pins_of (λ p hp => I9.pin p (by rw [hYpn,List.nil_append]; rw [List.mem_singleton.mp hp]; exact List.mem_cons_self)),T.keep _ _ _ st7 λ b hb o e => (I9.pin (b,o) (by rw [hYpn,List.nil_append]; exact List.mem_cons_of_mem _ (Q1F hb e))).1,λ b hb => ?_,(e5.trans e7).trans e9,sa9,(en8.weak hl1.symm hs1).ext e9,is9,va9,hl9⟩
        obtain ⟨o,e,_⟩ := T.obj _ _ st7 b hb
        exact (I9.pin (b,o) (by rw [hYpn,List.nil_append]; exact List.mem_cons_of_mem _ (Q1F hb e))).2.1
      have more : ∀ {y : D} {s9 : Shared} {G9 : Wd} {H9 : Hp},z = some y -> L2.Inv Y ([(dd,lstO its)] ++ Q2d fp s7.heap) σ8 H9 s9 -> Ext G7 G9 -> SA X.K G9 H9 O -> EvP Y ρ1 O elt y -> wpAny (model X.prog X.w) X.A (eval elt Y.env) (λ x s5 => wpAny (model X.prog X.w) X.A (call (.builtin "list.append") [.ref dd,x]) (λ _ s6 => ∃ m,m < xs.length - i /\ ∃ (i : Nat) (G' : Wd) (σ' : L2.St) (H' : Hp) (vs : List V) (its : List Value),m = xs.length - i /\ i <= xs.length /\ L2.Inv Y [(dd,lstO its)] σ' H' s6 /\ tn i s6.heap /\ (∀ b ∈ fp,H' b = none) /\ Ext G2 G' /\ SA X.K G' H' O /\ EnvR X.K G' σ' ρ0 /\
            Iss X.K G' ((zs.take i).filterMap id) vs /\ Vals vs its /\ its.length <= i) F s5) F s9 := λ {y s9 G9 H9} hzy I9 e9 sa9 ev => by
        refine thn (xeF (ev G9 _ s9 σ8 H9 (λ v H' => ∃ G',Ext G9 G' /\ SA X.K G' H' O /\ Is X.K G' y v) I9 (by
          rw [hYK]
          exact ⟨sa9,en8.ext e9,λ v G' H' q1 q2 q3 => ⟨G',q1,q2,q3⟩⟩))) λ uy s10 ⟨vy,H10,I10,r10,G10,e10,sa10,iy⟩ => ?_
        have p10 := I10.pin (dd,lstO its) (by rw [hYpn,List.nil_append]; exact List.mem_append_left _ List.mem_cons_self)
        refine append_at (hsz := by show its.toArray.size <= sizeLine; rw [List.size_toArray]; omega) p10.1 λ h' hs' hD' => ?_
        have Ia : L2.Inv Y (Q2d fp s7.heap) σ8 H10 s10 := I10.pins_of λ p hp => I10.pin p (by rw [hYpn,List.nil_append]; exact List.mem_append_right _ hp)
        have Ib : L2.Inv Y (Q2d fp s7.heap) σ8 H10 { s10 with heap := h' } := Ia.turned (t' := s10.toks) (λ b o hb e => (hs'.2 b hb).trans e) p10.2.1 hDC (.inr (by rw [hYs]; exact Nat.le_refl _)) (λ x c e => (hYc x c e).1) (λ p hp => by
          rw [hYpn,List.nil_append] at hp
          obtain ⟨hb,_⟩ := Q6G hp
          exact Nat.ne_of_lt (by rw [<- hD]; exact hlt p.1 hb))
        have Ic : L2.Inv Y ((dd,lstO (its ++ [uy])) :: Q2d fp s7.heap) σ8 H10 { s10 with heap := h' } := Ib.pins_of λ p hp => by
          rcases List.mem_cons.mp hp with q | q
          · rw [q]
            refine ⟨hD'.trans ?_,p10.2.1,hDC,hDfs,λ v z => by cases z⟩
            congr 1
            simp [lstO]
          · exact Ib.pin p (by rw [hYpn,List.nil_append]; exact q)
        refine again Ic (e9.trans e10) sa10 (vs' := vs ++ [vy]) ?_ (va5.append (.cons r10 .nil)) (by rw [List.length_append,List.length_singleton]; omega)
        rw [Z5C zs i z hz,hzy]
        exact (is5.ext ((e7.trans e9).trans e10)).append (.cons iy .nil)
      match ifs,kp1 with
      | [],kp1 =>
        obtain ⟨y,hzy,ev⟩ := kp1
        unfold compTests
        refine wpAny_bind (wpAny_tests_nil (wpAny_pure ?_))
        simp only [if_true]
        exact more hzy I8 (Ext.refl _) sa7 ev
      | [c],kp1 =>
        obtain ⟨k,tc,ht,hff⟩ := kp1
        unfold compTests
        refine wpAny_bind (wpAny_tests_one (thn (xeF (tc G7 _ s8 σ8 H8 (λ b H' => b = k /\ ∃ G',Ext G7 G' /\ SA X.K G' H' O) I8 (by
          rw [hYK]
          exact ⟨sa7,en8,λ G' H' q1 q2 => ⟨rfl,G',q1,q2⟩⟩))) λ b s9 ⟨H9,I9,hb,G9,e9,sa9⟩ => wpAny_pure ?_))
        subst hb
        cases b with
        | true =>
          obtain ⟨y,hzy,ev⟩ := ht rfl
          simp only [if_true]
          exact more hzy I9 e9 sa9 ev
        | false =>
          simp only [Bool.false_eq_true,if_false]
          refine again I9 e9 sa9 (vs' := vs) ?_ va5 (Nat.le_succ_of_le hl5)
          rw [Z5C zs i z hz,hff rfl]
          simpa using is5.ext (e7.trans e9)
      | _ :: _ :: _,kp1 => exact kp1.elim
    · have hie : i = xs.length := by omega
      subst hie
      have dn := T.done Y hYp hYw hYK hYcm xs.length [(dd,lstO its)] s5 σ5 H5 F I5 (fpY fr5 (λ p hp => by rw [List.mem_singleton.mp hp])) st5 (Yi.stop _ H5 (e5.g.trans sa5.sub) (Nat.le_refl _))
      rw [hYA] at dn
      refine thn dn λ r s6 ⟨hr,I6⟩ => ?_
      subst hr
      have p6 := I6.pin (dd,lstO its) (by rw [hYpn,List.nil_append]; exact List.mem_cons_self)
      rw [<- hzl,List.take_length] at is5
      have vl : vs.length <= sizeLine := by rw [va5.length]; omega
      have Ix : L2.Inv X pins σ (upd H5 dd (.lst vs)) s6 := by
        have un := I6.base
        rw [hYfs,hYex,<- hY] at un
        have un : Un (frs X.stack) fp H2 H5 s2.heap s6.heap := un
        refine I2.call' (ch := fp) (I6.os.trans (by rw [<- hY]; rfl)) (Z6s un hHD hsD) ?_ I6.bare λ b hb => ?_
        · have hk6 := I6.hok
          rw [hYp,hYw] at hk6
          exact Q9s hk6 p6.2.1 ⟨vl,its,its.length,va5,p6.1⟩
        · obtain ⟨_,f1,_,f3,f4,f5⟩ := f2 b hb
          exact ⟨f3,f1,f4,f5⟩
      obtain ⟨ed,sd⟩ := sa5.laid (p := dd) (o := .lst vs) p6.2.1
      refine fin dd (dd + 1) s6 _ _ Ix ((e2.trans e5).trans ed) sd (.lst Q0u (is5.ext ed)) ?_ ?_
      · have hC : dd + 1 = Y.env.locals := by rw [<- hY]; show dd + 1 = s2.heap.objs.size + 1; rw [hD]
        have ge : s2.heap.objs.size <= dd + 1 := by rw [hD]; exact Nat.le_succ _
        have := I2.fpOk (H' := upd H5 dd (.lst vs)) ge (by
          have q := I6.free
          rw [<- hC] at q
          rw [Q0w (show dd + 1 ≠ dd from Nat.succ_ne_self _)]
          exact q)
        exact this
      · obtain ⟨m,hn,_⟩ := I6.loc
        rw [<- hY] at hn
        have hn : s6.heap.Ns (s2.heap.objs.size + 1) m := hn
        rw [hD] at hn
        exact ⟨m,hn⟩
  have eY : Y.env = { scope := relabel scope X.env,locals := dd + 1,globals := X.env.globals,cells := cellsFrom (dd + 1 + 1) scope.names (Q1C X.env scope.names []),qual := X.env.qual,func := none,code := X.env.code,frame := X.env.frame,builtins := X.env.builtins } := by
    rw [<- hY]
    show compEnvC _ _ _ _ = _
    rw [hD]
    rfl
  rw [<- eY]
  exact codeAny_compStart_list (loop _ rfl) (T.self X.A 0 _ _ _ st4 (loop _ rfl))
def Q4u (XN : List Str) (xs cs : List (Str × NameKind)) (F : List Str) (js : List Nat) : Bool :=
 (js.map λ j => XN[j]?) == F.map some && (F.all λ x => cs.lookup x == some .free && (cs.all λ y => y.1 != x || y.2 != .cell) && (xs.lookup x == some .cell || xs.lookup x == some .free)) &&
 (cs.all λ y => (y.2 != .free || xs.lookup y.1 == some .cell || xs.lookup y.1 == some .free) && (y.2 != .local || cs.lookup y.1 == some .local))
def frOf (ρ : Rho) (js : List Nat) : Rho := js.map λ j => (ρ[j]?).getD none
theorem Q4V {F : List Str} {js : List Nat} (h : Q4u X.N X.env.scope.names scope.names F js = true) : Z2J X scope := λ y hy e => by
 unfold Q4u at h
 simp only [Bool.and_eq_true,List.all_eq_true] at h
 have q := (h.2 y hy).1
 rw [e] at q
 have q : (X.env.scope.names.lookup y.1 == some .cell || X.env.scope.names.lookup y.1 == some .free) = true := by simpa using q
 rcases (Bool.or_eq_true _ _).mp q with q | q
 ·exact .inl (show X.env.scope.names.lookup y.1 = _ by simpa using q)
 ·exact .inr (show X.env.scope.names.lookup y.1 = _ by simpa using q)
theorem Q6O {F : List Str} {js : List Nat} (h : Q4u X.N X.env.scope.names scope.names F js = true) : ∀ x ∈ scope.names,x.2 = .local -> scope.names.lookup x.1 = some .local := λ y hy e => by
 unfold Q4u at h
 simp only [Bool.and_eq_true,List.all_eq_true] at h
 have q := (h.2 y hy).2
 rw [e] at q
 simpa using q
theorem Q8X {T F : List Str} {js : List Nat} (h : Q4u X.N X.env.scope.names scope.names F js = true) (i : Nat) (d : D) (e : (T.map (λ _ => (none : Option D)) ++ frOf ρ js)[i]? = some (some d)) :
  ∃ (x : Str) (j : Nat),(T ++ F)[i]? = some x /\ scope.names.lookup x = some .free /\ (∀ y ∈ scope.names,y.1 = x -> y.2 ≠ .cell) /\ X.N[j]? = some x /\ ρ[j]? = some (some d) /\ Vis X.env.scope x := by
 unfold Q4u at h
 simp only [Bool.and_eq_true,List.all_eq_true,beq_iff_eq] at h
 obtain ⟨⟨h1,h2⟩,h3⟩ := h
 by_cases hi : i < T.length
 ·rw [List.getElem?_append_left (by simpa using hi),List.getElem?_map] at e
  cases q : T[i]? with
  | none => rw [q] at e; cases e
  | some _ => rw [q] at e; cases e
 ·rw [List.getElem?_append_right (by simpa using hi),List.length_map] at e
  unfold frOf at e
  rw [List.getElem?_map] at e
  cases q : js[i - T.length]? with
  | none => rw [q] at e; cases e
  | some j =>
   rw [q] at e
   have e : (ρ[j]?).getD none = some d := Option.some.inj e
   have hρ : ρ[j]? = some (some d) := by
    cases q2 : ρ[j]? with
    | none => rw [q2] at e; cases e
    | some o => rw [q2] at e; rw [show o = some d from e]
   have hF := congrArg (λ l => l[i - T.length]?) h1
   simp only [List.getElem?_map,q,Option.map_some] at hF
   cases qF : F[i - T.length]? with
   | none => rw [qF] at hF; cases hF
   | some x =>
    rw [qF] at hF
    have hF : X.N[j]? = some x := Option.some.inj hF
    obtain ⟨⟨g1,g2⟩,g3⟩ := h2 x (List.mem_of_getElem? qF)
    refine ⟨x,j,by rw [List.getElem?_append_right wF]; exact qF,g1,λ y hy ey => ?_,hF,hρ,?_⟩
    ·have := g2 y hy
     rw [ey] at this
     simpa using this
    ·rcases (Bool.or_eq_true _ _).mp g3 with g | g
     ·exact .inr (.inl (by simpa using g))
     ·exact .inr (.inr (by simpa using g))
theorem Z4l {ts fr : Rho} {T : List Str} (h : ts.length = T.length) : (ts ++ fr).length = (T.map (λ _ => (none : Option D)) ++ fr).length /\ ∀ (j : Nat) (d : D),(T.map (λ _ => (none : Option D)) ++ fr)[j]? = some (some d) -> (ts ++ fr)[j]? = some (some d) := by
 refine ⟨by simp [h],λ j d e => ?_⟩
 by_cases hj : j < T.length
 ·rw [List.getElem?_append_left (by simpa using hj),List.getElem?_map] at e
  cases q : T[j]? with
  | none => rw [q] at e; cases e
  | some _ => rw [q] at e; cases e
 ·rw [List.getElem?_append_right (by simpa using hj),List.length_map] at e
  rw [List.getElem?_append_right wF,h]
  exact e
def Z3T (X : Cx) (T F : List Str) (js : List Nat) (ρ : Rho) (O : Sto) (scope : Scope) (tg elt : Expr) (ifs : List Expr) (x : D) (z : Option D) : Prop :=
 ∀ (s : Shared) (H : Hp) (fp : List Addr),∃ ts : Rho,ts.length = T.length /\ Tg (cxC X (T ++ F) scope s H fp) tg x (T.map (λ _ => (none : Option D)) ++ frOf ρ js) (ts ++ frOf ρ js) /\ Kept (cxC X (T ++ F) scope s H fp) (ts ++ frOf ρ js) O elt ifs z
theorem Z7F (T F : List Str) (js : List Nat) (hi : EvI X ρ O tg iter xs) (hzl : zs.length = xs.length) (hsz : xs.length <= sizeLine) (turn : ∀ (i : Nat) (x : D) (z : Option D),xs[i]? = some x -> zs[i]? = some z -> Z3T X T F js ρ O scope tg elt ifs x z)
  (hfl : F.length = js.length) (hB : Q4u X.N X.env.scope.names scope.names F js = true) (hc : X.calm = true) (hk : scope.kind = .function) (hs : ∀ x,foldedSetIterable iter X.env x = pure x) :
  EvP X ρ O (.ListComp elt [⟨tg,iter,ifs,0⟩] scope pos) (.lst (zs.filterMap id)) := λ G pins s σ H Q I ⟨h1,h2,h3⟩ => by
 rw [eval_ListComp]
 refine Z0l (T ++ F) js (T.map (λ _ => (none : Option D)) ++ frOf ρ js) hi hc hk (Q4V hB) (Q6O hB) (by simp [frOf,hfl]) (Q8X hB) hzl hsz (λ s H fp i x z q1 q2 => ?_) I h1 h2 (λ dd C s' H' G' I' e' sa' is' fo ns => ?_) hs
 ·obtain ⟨ts,t1,t2,t3⟩ := turn i x z q1 q2 s H fp
  obtain ⟨u1,u2⟩ := Z4l (fr := frOf ρ js) t1
  exact ⟨_,t2,u1,u2,t3⟩
 ·obtain ⟨m,hn⟩ := ns
  refine ⟨m,hn,λ h' hs' => ?_⟩
  obtain ⟨f0,f1,f2,f3,f4,f5⟩ := fo
  exact ⟨.ref dd,H',I'.turned (t' := s'.toks) (λ b o hb e => (hs'.2 b hb).trans e) f0 f1 f3 f4 f5,rfl,h3 _ G' H' e' sa' is'⟩
theorem Y0n {x : Str} {p spos : Pos} {P : Post} (k : Nat) (T F : List Str) (js : List Nat) (hi : EvI X ρ O tg iter xs) (hzl : zs.length = xs.length) (hsz : xs.length <= sizeLine) (turn : ∀ (i : Nat) (x : D) (z : Option D),xs[i]? = some x -> zs[i]? = some z -> Z3T X T F js ρ O scope tg elt ifs x z)
  (h : P.nx (ρ.set k (some (.lst (zs.filterMap id)))) O) (hN : X.N.Nodup) (hx : X.N[k]? = some x) (hlc : Loc X.env.scope x) (hf : X.fn x = true \/ X.env.scope.names.lookup x = some .local)
  (hfl : F.length = js.length) (hB : Q4u X.N X.env.scope.names scope.names F js = true) (hc : X.calm = true) (hk : scope.kind = .function) (hs : ∀ x,foldedSetIterable iter X.env x = pure x)
  (hsw : swapsWith (.ListComp elt [⟨tg,iter,ifs,0⟩] scope pos) (some (.Name x p)) spos.line X.env = pure true) : Ex X ρ O (.Assign [.Name x p] (.ListComp elt [⟨tg,iter,ifs,0⟩] scope pos) spos) P := λ G pins s σ H E I ⟨h1,h2,h3⟩ => by
 rw [PySem.exec_Assign_Name_used _ _ _ _ hsw]
 refine wpAny_bind (wpAny_standAt (wpAny_bind ?_))
 show wpAny _ _ (do let _ <- comprehension (.ListComp elt [⟨tg,iter,ifs,0⟩] scope pos) scope X.env _ (newList []) false (eval iter X.env) (some (assign (.Name x p) X.env))) _ _ s
 refine wpAny_bind (thn (Z0l (use := some (assign (.Name x p) X.env)) (Q := λ _ s' => SP X pins E .next s') (T ++ F) js (T.map (λ _ => (none : Option D)) ++ frOf ρ js) hi hc hk (Q4V hB) (Q6O hB) (by simp [frOf,hfl]) (Q8X hB) hzl hsz (λ s H fp i x z q1 q2 => ?_) I h1 h2 (λ dd C s' H' G' I' e' sa' is' fo ns => ?_) hs) λ _ s' hq => wpAny_pure (wpAny_pure hq))
 ·obtain ⟨ts,t1,t2,t3⟩ := turn i x z q1 q2 s H fp
  obtain ⟨u1,u2⟩ := Z4l (fr := frOf ρ js) t1
  exact ⟨_,t2,u1,u2,t3⟩
 ·obtain ⟨m,hn⟩ := ns
  obtain ⟨f0,f1,f2,f3,f4,f5⟩ := fo
  refine wpAny_assign_Name (Q9z I' hN hx hlc (v := .ref dd) rfl (λ s2 I2 ⟨a,sb,ha⟩ => ?_) hf)
  have hCa : C ≠ a := by
   rcases ha with q | q
   ·rw [q]; exact f1
   ·exact Ne.symm (f4 _ _ q)
  refine ⟨m,hn.sameBut sb hCa,λ h' hs' => ?_⟩
  exact ⟨_,H',I2.turned (t' := s2.toks) (λ b o hb e => (hs'.2 b hb).trans e) f0 f1 f3 f4 f5,h3.nx _ _ O G' H' e' sa' ((h2.ext e').set k is') h⟩
end
end DL
namespace DL
open PySem PySem.Spec PyProof.Rows L2 PySem.W
def kRun {α : Type} (lt : Nat -> Nat -> Bool) : KasT α -> α
 | .ret a => a
 | .ask i j k => kRun lt (k (lt i j))
theorem Q1R {α β : Type} (lt : Nat -> Nat -> Bool) (f : α -> KasT β) : ∀ t : KasT α,kRun lt (t.bind f) = kRun lt (f (kRun lt t))
 | .ret _ => rfl
 | .ask i j k => Q1R lt f (k (lt i j))
section
variable (key : Nat -> Int)
abbrev ltK (i j : Nat) : Bool := decide (key i < key j)
def KQ (p : Array Nat) (i : Nat) : Int := key (p.getD i 0)
theorem Z6p (p : Array Nat) : ∀ (f n : Nat),∃ m,kRun (ltK key) (kas_asc p f n) = m /\ n <= m /\ m <= n + f /\ (∀ k,n <= k -> k < m -> KQ key p (k - 1) <= KQ key p k) /\ (m = n + f \/ KQ key p m < KQ key p (m - 1))
 | 0,n => ⟨n,rfl,Nat.le_refl _,Nat.le_refl _,λ k h1 h2 => by omega,.inl rfl⟩
 | f + 1,n => by
  by_cases h : KQ key p n < KQ key p (n - 1)
  ·refine ⟨n,?_,Nat.le_refl _,by omega,λ k h1 h2 => by omega,.inr h⟩
   show kRun _ (if ltK key _ _ = true then _ else _) = _
   rw [if_pos (decide_eq_true (show key (p.getD n 0) < key (p.getD (n - 1) 0) from h))]
   rfl
  ·obtain ⟨m,e,h1,h2,h3,h4⟩ := Z6p p f (n + 1)
   refine ⟨m,?_,by omega,by omega,λ k g1 g2 => ?_,by rcases h4 with h4 | h4; exact .inl wF; exact .inr h4⟩
   ·show kRun _ (if ltK key _ _ = true then _ else _) = _
    rw [if_neg (by simpa [ltK] using (show ¬ key (p.getD n 0) < key (p.getD (n - 1) 0) from h))]
    exact e
   ·by_cases hk : k = n
    ·subst hk; exact Int.not_lt.mp h
    ·exact h3 k wF g2
theorem Q2P {p : Array Nat} {i : Nat} : p.getD i 0 = (p[i]?).getD 0 := by
 by_cases h : i < p.size
 ·simp [Array.getD,h]
 ·simp [Array.getD,h]
theorem Z6F {p : Array Nat} {i j : Nat} (hj : j <= p.size) (k : Nat) : KQ key (kas_rev p i j) k = if i <= k /\ k < j then KQ key p (i + j - 1 - k) else KQ key p k := by
 unfold KQ kas_rev
 rw [Q2P,getElem?_mirror_all hj k]
 split
 ·rw [Q2P]
 ·rw [Q2P]
theorem Z1K {p : Array Nat} {i j : Nat} (hj : j <= p.size) (h : ∀ k,i <= k -> k < j -> KQ key p k = KQ key p (j - 1)) (k : Nat) : KQ key (kas_rev p i j) k = KQ key p k := by
 rw [Z6F key hj k]
 split
 ·next hk => rw [h k hk.1 hk.2,h _ wF wF]
 ·rfl
theorem Q9c : ∀ (f : Nat) (p : Array Nat) (n q : Nat),q + 1 <= n -> n + f <= p.size -> (∀ i j,i <= j -> j < n -> KQ key p j <= KQ key p i) -> (∀ k,n - (q + 1) <= k -> k < n -> KQ key p k = KQ key p (n - 1)) ->
  ∃ p' n' q',kRun (ltK key) (kas_desc f p n q) = (p',n',q') /\ n <= n' /\ n' <= n + f /\ q' + 1 <= n' /\ p'.Perm p /\ p'.size = p.size /\ (∀ i j,i <= j -> j < n' -> KQ key p' j <= KQ key p' i) /\ (∀ k,n' - (q' + 1) <= k -> k < n' -> KQ key p' k = KQ key p' (n' - 1))
 | 0,p,n,q,h1,h2,h3,h4 => ⟨p,n,q,rfl,Nat.le_refl _,Nat.le_refl _,h1,Array.Perm.refl _,rfl,h3,h4⟩
 | f + 1,p,n,q,h1,h2,h3,h4 => by
  by_cases h : KQ key p n < KQ key p (n - 1)
  ·have step : ∀ p2 : Array Nat,p2.Perm p -> p2.size = p.size -> (∀ k,KQ key p2 k = KQ key p k) -> (∀ i j,i <= j -> j < n + 1 -> KQ key p2 j <= KQ key p2 i) := λ p2 _ _ e i j hij hj => by
    rw [e,e]
    by_cases hjn : j = n
    ·subst hjn
     by_cases hin : i = j
     ·subst hin; exact Int.le_refl _
     ·have := h3 i (j - 1) wF wF; omega
    ·exact h3 i j hij wF
   by_cases hq : q > 0
   ·have hE : ∀ k,KQ key (kas_rev p (n - (q + 1)) n) k = KQ key p k := Z1K key wF h4
    obtain ⟨p',n',q',e,g⟩ := Q9c f (kas_rev p (n - (q + 1)) n) (n + 1) 0 wF (by rw [kas_rev_size]; omega) (step _ (mirror_perm _ _ _ _) (kas_rev_size _ _) hE) (λ k k1 k2 => by rw [show k = n + 1 - 1 by omega])
    refine ⟨p',n',q',?_,by omega,by omega,g.2.2.1,g.2.2.2.1.trans (mirror_perm _ _ _ _),g.2.2.2.2.1.trans (kas_rev_size _ _),g.2.2.2.2.2⟩
    show kRun _ (if ltK key _ _ = true then _ else _) = _
    rw [if_pos (decide_eq_true (show key (p.getD n 0) < key (p.getD (n - 1) 0) from h)),if_pos hq]
    exact e
   ·obtain ⟨p',n',q',e,g⟩ := Q9c f p (n + 1) 0 wF wF (step _ (Array.Perm.refl _) rfl λ _ => rfl) (λ k k1 k2 => by rw [show k = n + 1 - 1 by omega])
    refine ⟨p',n',q',?_,by omega,by omega,g.2.2⟩
    show kRun _ (if ltK key _ _ = true then _ else _) = _
    rw [if_pos (decide_eq_true (show key (p.getD n 0) < key (p.getD (n - 1) 0) from h)),if_neg hq]
    exact e
  ·by_cases h' : KQ key p (n - 1) < KQ key p n
   ·refine ⟨p,n,q,?_,Nat.le_refl _,by omega,h1,Array.Perm.refl _,rfl,h3,h4⟩
    show kRun _ (if ltK key _ _ = true then _ else _) = _
    rw [if_neg (by simpa [ltK] using (show ¬ key (p.getD n 0) < key (p.getD (n - 1) 0) from h))]
    show kRun _ (if ltK key _ _ = true then _ else _) = _
    rw [if_pos (decide_eq_true (show key (p.getD (n - 1) 0) < key (p.getD n 0) from h'))]
    rfl
   ·have he : KQ key p n = KQ key p (n - 1) := by omega
    obtain ⟨p',n',q',e,g⟩ := Q9c f p (n + 1) (q + 1) wF wF (λ i j hij hj => by
     by_cases hjn : j = n
     ·subst hjn
      by_cases hin : i = j
      ·subst hin; exact Int.le_refl _
      ·have := h3 i (j - 1) wF wF; omega
     ·exact h3 i j hij wF) (λ k k1 k2 => by
     show _ = KQ key p n
     by_cases hkn : k = n
     ·subst hkn; rfl
     ·rw [h4 k wF wF,he])
    refine ⟨p',n',q',?_,by omega,by omega,g.2.2⟩
    show kRun _ (if ltK key _ _ = true then _ else _) = _
    rw [if_neg (by simpa [ltK] using (show ¬ key (p.getD n 0) < key (p.getD (n - 1) 0) from h))]
    show kRun _ (if ltK key _ _ = true then _ else _) = _
    rw [if_neg (by simpa [ltK] using (show ¬ key (p.getD (n - 1) 0) < key (p.getD n 0) from h'))]
    exact e
def Srt (p : Array Nat) (m : Nat) : Prop := ∀ i j,i <= j -> j < m -> KQ key p i <= KQ key p j
theorem Z4m {p : Array Nat} {m : Nat} (h : ∀ k,1 <= k -> k < m -> KQ key p (k - 1) <= KQ key p k) : Srt key p m := by
  intro i j hij hj
  induction j with
  | zero => have : i = 0 := by omega
            subst this; exact Int.le_refl _
  | succ j ih =>
    by_cases e : i = j + 1
    · subst e; exact Int.le_refl _
    · exact Int.le_trans (ih wF wF) (h (j + 1) wF hj)
theorem Z1P {n nrem : Nat} {p : Array Nat} (h1 : 1 <= n) (hn : n <= nrem) (hz : nrem <= p.size) (h3 : ∀ i j,i <= j -> j < n -> KQ key p j <= KQ key p i) : ∃ m p',kRun (ltK key) (kas_tail3 n nrem p) = (m,p') /\ 1 <= m /\ m <= nrem /\ p'.Perm p /\ p'.size = p.size /\ Srt key p' m := by
 obtain ⟨m,e,g1,g2,g3,g4⟩ := Z6p key (kas_rev p 0 n) (nrem - n) n
 refine ⟨m,kas_rev p 0 n,?_,by omega,by omega,mirror_perm _ _ _ _,kas_rev_size _ _,Z4m key λ k k1 k2 => ?_⟩
 ·unfold kas_tail3
  rw [Q1R,e]
  rfl
 ·by_cases hk : n <= k
  ·exact g3 k hk k2
  ·rw [Z6F key wF,Z6F key wF,if_pos wF,if_pos wF]
   exact h3 _ _ wF wF
theorem Q6S {n nrem : Nat} {p : Array Nat} (h1 : 1 <= n) (hn : n + 1 <= nrem) (hz : nrem <= p.size) (h3 : ∀ i j,i <= j -> j < n + 1 -> KQ key p j <= KQ key p i) : ∃ m p',kRun (ltK key) (kas_descPart n nrem p) = (m,p') /\ 1 <= m /\ m <= nrem /\ p'.Perm p /\ p'.size = p.size /\ Srt key p' m := by
 obtain ⟨p1,n1,q1,e,g1,g2,g3,g4,g5,g6,g7⟩ := Q9c key (nrem - (n + 1)) p (n + 1) 0 wF wF h3 (λ k k1 k2 => by rw [show k = n + 1 - 1 by omega])
 unfold kas_descPart
 rw [Q1R,e]
 by_cases hq : q1 > 0
 ·have hE : ∀ k,KQ key (kas_rev p1 (n1 - (q1 + 1)) n1) k = KQ key p1 k := Z1K key wF g7
  obtain ⟨m,p',e',k1,k2,k3,k4,k5⟩ := Z1P key (n := n1) (nrem := nrem) (p := kas_rev p1 (n1 - (q1 + 1)) n1) wF wF (by rw [kas_rev_size]; omega) (λ i j hij hj => by rw [hE,hE]; exact g6 i j hij hj)
  refine ⟨m,p',?_,k1,k2,k3.trans ((mirror_perm _ _ _ _).trans g4),k4.trans ((kas_rev_size _ _).trans g5),k5⟩
  show kRun _ (if q1 > 0 then _ else _) = _
  rw [if_pos hq]
  exact e'
 ·obtain ⟨m,p',e',k1,k2,k3,k4,k5⟩ := Z1P key (n := n1) (nrem := nrem) (p := p1) wF wF wF g6
  refine ⟨m,p',?_,k1,k2,k3.trans g4,k4.trans g5,k5⟩
  show kRun _ (if q1 > 0 then _ else _) = _
  rw [if_neg hq]
  exact e'
theorem Z7O {nrem : Nat} {p : Array Nat} (h1 : 1 <= nrem) (hz : nrem <= p.size) : ∃ m p',kRun (ltK key) (kas_count nrem p) = (m,p') /\ 1 <= m /\ m <= nrem /\ p'.Perm p /\ p'.size = p.size /\ Srt key p' m := by
 obtain ⟨n,e,g1,g2,g3,g4⟩ := Z6p key p (nrem - 1) 1
 have hs : Srt key p n := Z4m key λ k k1 k2 => g3 k k1 k2
 unfold kas_count
 rw [Q1R,e]
 by_cases hn : n = nrem
 ·refine ⟨n,p,?_,g1,by omega,Array.Perm.refl _,rfl,hs⟩
  rw [if_pos (by simpa using hn)]
  rfl
 ·rw [if_neg (by simpa using hn)]
  have hlt : KQ key p n < KQ key p (n - 1) := by
   rcases g4 with g4 | g4
   ·omega
   ·exact g4
  by_cases hn1 : n > 1
  ·rw [if_pos hn1]
   by_cases hr : KQ key p 0 < KQ key p (n - 1)
   ·refine ⟨n,p,?_,g1,by omega,Array.Perm.refl _,rfl,hs⟩
    show kRun _ (if ltK key _ _ = true then _ else _) = _
    rw [if_pos (decide_eq_true (show key (p.getD 0 0) < key (p.getD (n - 1) 0) from hr))]
    rfl
   ·have heq : ∀ k,0 <= k -> k < n -> KQ key p k = KQ key p (n - 1) := λ k _ hk => by
     have a := hs 0 k wF hk
     have b := hs k (n - 1) wF wF
     omega
    have hE := Z1K key (p := p) (i := 0) (j := n) wF heq
    obtain ⟨m,p',e',k1,k2,k3,k4,k5⟩ := Q6S key (n := n) (nrem := nrem) (p := kas_rev p 0 n) wF wF (by rw [kas_rev_size]; exact hz) (λ i j hij hj => by
     rw [hE,hE]
     by_cases hjn : j = n
     ·subst hjn
      by_cases hin : i = j
      ·subst hin; exact Int.le_refl _
      ·rw [heq i wF wF]; omega
     ·rw [heq i wF wF,heq j wF wF]
      exact Int.le_refl _)
    refine ⟨m,p',?_,k1,k2,k3.trans (mirror_perm _ _ _ _),k4.trans (kas_rev_size _ _),k5⟩
    show kRun _ (if ltK key _ _ = true then _ else _) = _
    rw [if_neg (by simpa [ltK] using (show ¬ key (p.getD 0 0) < key (p.getD (n - 1) 0) from hr))]
    exact e'
  ·rw [if_neg hn1]
   obtain rfl : n = 1 := by omega
   exact Q6S key wF wF hz (λ i j hij hj => by
    by_cases hj1 : j = 1
    ·subst hj1
     by_cases hi1 : i = 1
     ·subst hi1; exact Int.le_refl _
     ·obtain rfl : i = 0 := by omega
      exact Int.le_of_lt hlt
    ·obtain rfl : j = 0 := by omega
     obtain rfl : i = 0 := by omega
     exact Int.le_refl _)
theorem Q8I (p : Array Nat) (k : Nat) (hs : Srt key p k) : ∀ (f l r : Nat),l <= r -> r <= k -> r - l <= f -> (∀ i,i < l -> KQ key p i <= KQ key p k) -> (∀ i,r <= i -> i < k -> KQ key p k < KQ key p i) ->
  ∃ m,kRun (ltK key) (kas_place p k f l r) = m /\ m <= k /\ (∀ i,i < m -> KQ key p i <= KQ key p k) /\ (∀ i,m <= i -> i < k -> KQ key p k < KQ key p i)
 | 0,l,r,h1,h2,h3,h4,h5 => ⟨l,rfl,by omega,h4,λ i g1 g2 => h5 i wF g2⟩
 | f + 1,l,r,h1,h2,h3,h4,h5 => by
  by_cases hlr : l >= r
  ·refine ⟨l,?_,by omega,h4,λ i g1 g2 => h5 i wF g2⟩
   show kRun _ (if l >= r then _ else _) = _
   rw [if_pos hlr]; rfl
  ·by_cases hc : KQ key p k < KQ key p ((l + r) / 2)
   ·obtain ⟨m,e,g1,g2,g3⟩ := Q8I p k hs f l ((l + r) / 2) wF wF wF h4 (λ i i1 i2 => by
     have := hs ((l + r) / 2) i i1 i2; omega)
    refine ⟨m,?_,g1,g2,g3⟩
    show kRun _ (if l >= r then _ else _) = _
    rw [if_neg hlr]
    show kRun _ (if ltK key _ _ = true then _ else _) = _
    rw [if_pos (decide_eq_true (show key (p.getD k 0) < key (p.getD ((l + r) / 2) 0) from hc))]
    exact e
   ·obtain ⟨m,e,g1,g2,g3⟩ := Q8I p k hs f ((l + r) / 2 + 1) r wF h2 wF (λ i i1 => by
     have := hs i ((l + r) / 2) wF wF; omega) h5
    refine ⟨m,?_,g1,g2,g3⟩
    show kRun _ (if l >= r then _ else _) = _
    rw [if_neg hlr]
    show kRun _ (if ltK key _ _ = true then _ else _) = _
    rw [if_neg (by simpa [ltK] using (show ¬ key (p.getD k 0) < key (p.getD ((l + r) / 2) 0) from hc))]
    exact e
end
end DL
set_option maxHeartbeats 2000000
namespace DL
open PySem PySem.Spec PyProof.Rows L2 PySem.W
def SIt (k : Bool) (h : Heap) (it l : Addr) (i : Nat) : Prop := if k then h.IsListIter it l i else h.IsTupleIter it l i
def SSq (k : Bool) (h : Heap) (l : Addr) (xs : Array Value) : Prop := if k then h.IsList l xs else h.IsTuple l xs
section
variable {k : Bool} {h h' : Heap} {it l b : Addr} {i : Nat} {xs : Array Value}
theorem SIt.at (q : SIt k h it l i) (e : ∀ o,h.get? it = some o -> h'.get? it = some o) : SIt k h' it l i := by
 cases k with
 | true => obtain ⟨o,g,r⟩ := (q : h.IsListIter it l i); exact ⟨o,e o g,r⟩
 | false => obtain ⟨o,g,r⟩ := (q : h.IsTupleIter it l i); exact ⟨o,e o g,r⟩
theorem SSq.at (q : SSq k h l xs) (e : ∀ o,h.get? l = some o -> h'.get? l = some o) : SSq k h' l xs := by
 cases k with
 | true => obtain ⟨o,g,r⟩ := (q : h.IsList l xs); exact ⟨o,e o g,r⟩
 | false => obtain ⟨o,g,r⟩ := (q : h.IsTuple l xs); exact ⟨o,e o g,r⟩
theorem SIt.obj (q : SIt k h it l i) : ∃ o,h.get? it = some o /\ ∀ v,o.data ≠ .cell v := by
 cases k with
 | true => obtain ⟨o,g,c,d⟩ := (q : h.IsListIter it l i); exact ⟨o,g,λ v z => by rw [d] at z; cases z⟩
 | false => obtain ⟨o,g,c,d⟩ := (q : h.IsTupleIter it l i); exact ⟨o,g,λ v z => by rw [d] at z; cases z⟩
end
theorem Z2A {prog : Program} {w : World} {A : Around} {E : Value -> Shared -> Prop} {s : Shared} {T id : String} {b : Builtin} {v : Value} {Q : Value -> Shared -> Prop} (hT : s.TypeIs v T) (sl : Slot T (Str.ofString "__next__") id) (en : entryFor table id = some b) (ok : argsOk id ⟨[v],[]⟩)
  (h : wpAny (model prog w) A.in1 (b ⟨[v],[]⟩) (λ fin s' => ∃ x,fin = .done (.ret x) /\ Q x s') E s) : wpAny (model prog w) A (Builtin.SmallTypes.nextOf v) Q E s :=
 wpAny_bind (wpAny_callSpecial?_slot hT sl (wpAny_call_entry sl hT en (wpAny_mono h (λ fin s' ⟨x,e,q⟩ => ⟨x,e,wpAny_pure q⟩) λ _ _ e => e) ok))
section
variable {prog : Program} {w : World} {A : Around} {E : Value -> Shared -> Prop} {s : Shared} {it l : Addr} {i : Nat} {xs : Array Value} {Q : Value -> Shared -> Prop}
theorem Z6O {x : Value} (q : s.heap.IsTupleIter it l i) (t : s.heap.IsTuple l xs) (hx : xs[i]? = some x) (hQ : ∀ h',h'.IsTupleIter it l (i + 1) -> Heap.SameBut it s.heap h' -> Q x { s with heap := h' }) : wpAny (model prog w) A (Builtin.SmallTypes.nextOf (.ref it)) Q E s := by
 refine Z2A q.typeIs F.slot_tuple_iterator_next F.entry_tuple_iterator_next (F.args_tuple_iterator_next_1 _) ?_
 obtain ⟨h,g,d,tk,os⟩ := s
 obtain ⟨⟨c,dc,da,sl⟩,gi,rfl,rfl⟩ := q
 obtain ⟨⟨c,dc,da,sl⟩,gt,rfl,n,rfl⟩ := t
 dsimp only at gi gt hQ
 wp_walk
 rw [Int.toNat_natCast,hx]
 wp_walk
 exact ⟨x,rfl,hQ _ ⟨_,Heap.get?_update_self _ gi rfl,rfl,by simp [Obj.mapFields,rawInt]⟩ (Heap.SameBut.update ..)⟩
theorem Z8K (hh : A.handled = none) (q : s.heap.IsTupleIter it l i) (t : s.heap.IsTuple l xs) (hx : xs[i]? = none) (hE : ∀ h' e,Heap.ExtBut it s.heap h' -> (∃ o,h'.get? e = some o /\ o.cls = .type "StopIteration") -> E (.ref e) { s with heap := h' }) : wpAny (model prog w) A (Builtin.SmallTypes.nextOf (.ref it)) Q E s := by
 refine Z2A q.typeIs F.slot_tuple_iterator_next F.entry_tuple_iterator_next (F.args_tuple_iterator_next_1 _) ?_
 obtain ⟨h,g,d,tk,os⟩ := s
 obtain ⟨⟨c,dc,da,sl⟩,gi,rfl,rfl⟩ := q
 obtain ⟨⟨c,dc,da,sl⟩,gt,rfl,n,rfl⟩ := t
 dsimp only at gi gt hE
 have hh1 : A.in1.handled = none := hh
 wp_walk
 rw [Int.toNat_natCast,hx]
 wp_walk
 unfold raiseNew
 wp_walk
 exact hE _ _ (λ b u hb e => Heap.get?_push_of_some _ (Heap.get?_push_of_some _ ((Heap.get?_update_ne _ _ _ _ hb).trans e))) ⟨_,Heap.get?_push_size _ rfl,rfl⟩
theorem Z0M {k : Bool} {x : Value} (q : SIt k s.heap it l i) (t : SSq k s.heap l xs) (hx : xs[i]? = some x) (hQ : ∀ h',SIt k h' it l (i + 1) -> Heap.SameBut it s.heap h' -> Q x { s with heap := h' }) : wpAny (model prog w) A (Builtin.SmallTypes.nextOf (.ref it)) Q E s :=
 match k with
 | true => wpAny_nextOf_list_item q t hx hQ
 | false => Z6O q t hx hQ
theorem Z4n {k : Bool} (hh : A.handled = none) (q : SIt k s.heap it l i) (t : SSq k s.heap l xs) (hx : xs[i]? = none) (hE : ∀ h' e,Heap.ExtBut it s.heap h' -> (∃ o,h'.get? e = some o /\ o.cls = .type "StopIteration") -> E (.ref e) { s with heap := h' }) : wpAny (model prog w) A (Builtin.SmallTypes.nextOf (.ref it)) Q E s :=
 match k with
 | true => wpAny_nextOf_list_end hh q t hx hE
 | false => Z8K hh q t hx hE
end
def zObj (n : Nat) (f0 f1 : Value) : Obj := { cls := .type "zip",dict := none,data := .fields #[f0,f1,.bool false,.ref (n + 2),.ref (n + 3)],slots := #[] }
structure ZW (n : Nat) (k1 k2 : Bool) (l1 l2 i1 i2 : Nat) (xs ys : Array Value) (f0 f1 a b : Value) (h : Heap) : Prop where
 z : h.get? (n + 4) = some { cls := .type "zip",dict := none,data := .fields #[f0,f1,.bool false,.ref (n + 2),.ref (n + 3)],slots := #[] }
 ti : h.get? (n + 2) = some { cls := .type "tuple",data := .seq #[.ref n,.ref (n + 1)] }
 to : h.get? (n + 3) = some { cls := .type "tuple",data := .seq #[a,b] }
 w1 : SIt k1 h n l1 i1
 w2 : SIt k2 h (n + 1) l2 i2
 s1 : SSq k1 h l1 xs
 s2 : SSq k2 h l2 ys
 b1 : l1 < n
 b2 : l2 < n
theorem ap {x y : Nat} (h : x ≠ y) : @Ne Addr x y := h
def Oth (n : Nat) (h h' : Heap) : Prop := ∀ c o,c ≠ n + 4 -> c ≠ n + 3 -> c ≠ n -> c ≠ n + 1 -> h.get? c = some o -> h'.get? c = some o
theorem Oth.refl (n : Nat) (h : Heap) : Oth n h h := λ _ _ _ _ _ _ e => e
theorem Oth.on {n : Nat} {h h1 h2 : Heap} (p : Oth n h h1) (q : Oth n h1 h2) : Oth n h h2 := λ c o c1 c2 c3 c4 e => q c o c1 c2 c3 c4 (p c o c1 c2 c3 c4 e)
theorem Oth.of {n c : Nat} {h h' : Heap} (e : Heap.SameBut c h h') (m : c = n + 4 \/ c = n + 3 \/ c = n \/ c = n + 1) : Oth n h h' :=
 λ d o d1 d2 d3 d4 q => e.extBut _ _ (by rcases m with rfl | rfl | rfl | rfl <;> assumption) q
section
variable {prog : Program} {w : World} {A : Around} {E : Value -> Shared -> Prop} {s : Shared} {n l1 l2 i1 i2 : Nat} {k1 k2 : Bool} {xs ys : Array Value} {f0 f1 a b v : Value}
theorem ZW.mark0 {Q : Unit -> Shared -> Prop} (W : ZW n k1 k2 l1 l2 i1 i2 xs ys f0 f1 a b s.heap) (hQ : ∀ h',ZW n k1 k2 l1 l2 i1 i2 xs ys v f1 a b h' -> Oth n s.heap h' -> h'.objs.size = s.heap.objs.size -> Q () { s with heap := h' }) : wpAny (model prog w) A (setField (.ref (n + 4)) 0 v) Q E s :=
 wpAny_setField_rec W.z (by simp) λ h' g e => hQ h' ⟨g,e.extBut _ _ (ap wF) W.ti,e.extBut _ _ (ap wF) W.to,W.w1.at λ o => e.extBut _ _ (ap wF),W.w2.at λ o => e.extBut _ _ (ap wF),W.s1.at λ o => e.extBut _ _ (ap (by have := W.b1; omega)),W.s2.at λ o => e.extBut _ _ (ap (by have := W.b2; omega)),W.b1,W.b2⟩ (.of e (.inl rfl)) e.1
theorem ZW.mark1 {Q : Unit -> Shared -> Prop} (W : ZW n k1 k2 l1 l2 i1 i2 xs ys f0 f1 a b s.heap) (hQ : ∀ h',ZW n k1 k2 l1 l2 i1 i2 xs ys f0 v a b h' -> Oth n s.heap h' -> h'.objs.size = s.heap.objs.size -> Q () { s with heap := h' }) : wpAny (model prog w) A (setField (.ref (n + 4)) 1 v) Q E s :=
 wpAny_setField_rec W.z (by simp) λ h' g e => hQ h' ⟨g,e.extBut _ _ (ap wF) W.ti,e.extBut _ _ (ap wF) W.to,W.w1.at λ o => e.extBut _ _ (ap wF),W.w2.at λ o => e.extBut _ _ (ap wF),W.s1.at λ o => e.extBut _ _ (ap (by have := W.b1; omega)),W.s2.at λ o => e.extBut _ _ (ap (by have := W.b2; omega)),W.b1,W.b2⟩ (.of e (.inl rfl)) e.1
theorem ZW.put {j : Nat} {Q : Unit -> Shared -> Prop} (W : ZW n k1 k2 l1 l2 i1 i2 xs ys f0 f1 a b s.heap) (hQ : ∀ h',ZW n k1 k2 l1 l2 i1 i2 xs ys f0 f1 (if j = 0 then v else a) (if j = 1 then v else b) h' -> Oth n s.heap h' -> h'.objs.size = s.heap.objs.size -> Q () { s with heap := h' }) : wpAny (model prog w) A (updateSeq (n + 3) (·.setIfInBounds j v)) Q E s :=
 wpAny_updateSeq_pair W.to λ h' g e => hQ h' ⟨e.extBut _ _ (ap wF) W.z,e.extBut _ _ (ap wF) W.ti,by rw [g]; match j with | 0 => rfl | 1 => rfl | _ + 2 => rfl,W.w1.at λ o => e.extBut _ _ (ap wF),W.w2.at λ o => e.extBut _ _ (ap wF),W.s1.at λ o => e.extBut _ _ (ap (by have := W.b1; omega)),W.s2.at λ o => e.extBut _ _ (ap (by have := W.b2; omega)),W.b1,W.b2⟩ (.of e (.inr (.inl rfl))) e.1
theorem ZW.draw1 {x : Value} {Q : Value -> Shared -> Prop} (W : ZW n k1 k2 l1 l2 i1 i2 xs ys f0 f1 a b s.heap) (hx : xs[i1]? = some x) (hQ : ∀ h',ZW n k1 k2 l1 l2 (i1 + 1) i2 xs ys f0 f1 a b h' -> Oth n s.heap h' -> h'.objs.size = s.heap.objs.size -> Q x { s with heap := h' }) : wpAny (model prog w) A (Builtin.SmallTypes.nextOf (.ref n)) Q E s :=
 Z0M W.w1 W.s1 hx λ h' g e => hQ h' ⟨e.extBut _ _ (ap wF) W.z,e.extBut _ _ (ap wF) W.ti,e.extBut _ _ (ap wF) W.to,g,W.w2.at λ o => e.extBut _ _ (ap wF),W.s1.at λ o => e.extBut _ _ (ap (by have := W.b1; omega)),W.s2.at λ o => e.extBut _ _ (ap (by have := W.b2; omega)),W.b1,W.b2⟩ (.of e (.inr (.inr (.inl rfl)))) e.1
theorem ZW.draw2 {y : Value} {Q : Value -> Shared -> Prop} (W : ZW n k1 k2 l1 l2 i1 i2 xs ys f0 f1 a b s.heap) (hy : ys[i2]? = some y) (hQ : ∀ h',ZW n k1 k2 l1 l2 i1 (i2 + 1) xs ys f0 f1 a b h' -> Oth n s.heap h' -> h'.objs.size = s.heap.objs.size -> Q y { s with heap := h' }) : wpAny (model prog w) A (Builtin.SmallTypes.nextOf (.ref (n + 1))) Q E s :=
 Z0M W.w2 W.s2 hy λ h' g e => hQ h' ⟨e.extBut _ _ (ap wF) W.z,e.extBut _ _ (ap wF) W.ti,e.extBut _ _ (ap wF) W.to,W.w1.at λ o => e.extBut _ _ (ap wF),g,W.s1.at λ o => e.extBut _ _ (ap (by have := W.b1; omega)),W.s2.at λ o => e.extBut _ _ (ap (by have := W.b2; omega)),W.b1,W.b2⟩ (.of e (.inr (.inr (.inr rfl)))) e.1
def ZF (f0 : Value) : Prop := f0 = .none \/ ∃ c : Nat,f0 = rawInt (c : Int)
theorem Z2I {M : Model} {c : Addr} {Q : Option Obj -> Shared -> Prop} (h : Q (s.heap.get? c) s) : wpAny M A (loadIfAlive c) Q E s := λ _ _ _ => h
theorem ZW.free {Q : Bool -> Shared -> Prop} (W : ZW n k1 k2 l1 l2 i1 i2 xs ys f0 f1 a b s.heap) (hf : ZF f0) (y : Q true s) (z : ∀ h' f,ZW n k1 k2 l1 l2 i1 i2 xs ys f0 f a b h' -> Oth n s.heap h' -> h'.objs.size = s.heap.objs.size -> Q false { s with heap := h' }) : wpAny (model prog w) A (Builtin.SmallTypes.ownedTupleIsFree (.ref (n + 4))) Q E s := by
 obtain ⟨h,g,d,tk,os⟩ := s
 have hz := W.z
 dsimp only at hz
 rcases hf with rfl | ⟨c,rfl⟩
 ·wp_walk
  exact y
 ·wp_walk using Z2I
  cases h.get? (Int.toNat (c : Int)) with
  | none => wp_walk; exact y
  | some o =>
   by_cases m : f1 = .bool true
   ·subst m
    wp_walk
    exact z _ _ W (Oth.refl _ _) rfl
   ·wp_walk using W.mark1
    exact λ h' V o1 o2 => wpAny_pure (z h' _ V o1 o2)
theorem Z1n {M : Model} {β : Type} {x y : Value} {b : β} {f : Value -> β -> Sem (ForInStep β)} {Q : β -> Shared -> Prop} (h : wpAny M A (forIn [x,y] b f) Q E s) : wpAny M A (forIn #[x,y] b f) Q E s := by
 rw [<- Array.forIn_toList]; exact h
theorem ZW.more {h : Heap} {o : Obj} (W : ZW n k1 k2 l1 l2 i1 i2 xs ys f0 f1 a b h) : ZW n k1 k2 l1 l2 i1 i2 xs ys f0 f1 a b (h.push o) :=
 have e : ∀ c u,h.get? c = some u -> (h.push o).get? c = some u := λ c u q => Heap.get?_push_of_some _ q
 ⟨e _ _ W.z,e _ _ W.ti,e _ _ W.to,W.w1.at (e _),W.w2.at (e _),W.s1.at (e _),W.s2.at (e _),W.b1,W.b2⟩
theorem Oth.more {h h' : Heap} {o : Obj} (p : Oth n h h') : Oth n h (h'.push o) := p.on λ c u _ _ _ _ q => Heap.get?_push_of_some _ q
theorem Z6J {i : Nat} {x y : Value} {Q : Value -> Shared -> Prop} (W : ZW n k1 k2 l1 l2 i i xs ys f0 f1 a b s.heap) (hf : ZF f0) (hx : xs[i]? = some x) (hy : ys[i]? = some y)
  (hQ : ∀ h' f0' f1' a' b',ZW n k1 k2 l1 l2 (i + 1) (i + 1) xs ys f0' f1' a' b' h' -> ZF f0' -> IsPair h' s.heap.objs.size x y -> Oth n s.heap h' -> Q (.ref s.heap.objs.size) { s with heap := h' }) :
  wpAny (model prog w) A (Builtin.«zip.__next__» ⟨[.ref (n + 4)],[]⟩) (λ fin s' => ∃ v,fin = .done (.ret v) /\ Q v s') E s := by
 obtain ⟨h,g,d,tk,os⟩ := s
 dsimp only at W hQ
 have z := W.z
 have t := W.ti
 have ok : ∀ h4 : Heap,h4.objs.size = h.objs.size -> ∀ v,(h4.push v).objs.size = h.objs.size + 1 := λ h4 e v => by rw [Heap.size_push,e]
 have lt : n + 4 < h.objs.size := Heap.lt_size z
 wp_walk using W.free hf,W.mark0
 ·-- the pair is used again
  intro h1 W1 o1 z1
  have t1 := W1.to
  wp_walk using wpAny_onRaise,W1.draw1 hx
  intro h2 W2 o2 z2
  have t2 := W2.to
  wp_walk using W2.put
  intro h3 W3 o3 z3
  wp_walk using wpAny_onRaise,W3.draw2 hy
  intro h4 W4 o4 z4
  have t4 := W4.to
  wp_walk using W4.put
  intro h5 W5 o5 z5
  have t5 := W5.to
  wp_walk using W5.more.mark0
  intro h6 W6 o6 z6
  wp_walk using W6.mark1
  intro h7 W7 o7 z7
  wp_walk
  have ol : Oth n h h5 := o1.on (o2.on (o3.on (o4.on o5)))
  have zl : h5.objs.size = h.objs.size := z5.trans (z4.trans (z3.trans (z2.trans z1)))
  have pr : IsPair (h5.push { cls := .type "tuple",data := .seq #[x,y] }) h5.objs.size x y := Heap.get?_push_size _ rfl
  have fin := hQ h7 _ _ _ _ W7 (.inr ⟨_,rfl⟩)
  rw [<- zl] at fin
  have far : ∀ j,j <= 4 -> h5.objs.size ≠ n + j := λ j hj => by omega
  exact ⟨_,rfl,fin (o7 _ _ (far 4 wE) (far 3 wE) (far 0 wE) (far 1 wE) (o6 _ _ (far 4 wE) (far 3 wE) (far 0 wE) (far 1 wE) pr)) (ol.more.on (o6.on o7))⟩
 ·intro h1 f W1 o1 z1
  wp_walk using Z1n,W1.draw1 hx
  intro h2 W2 o2 z2
  wp_walk using W2.draw2 hy
  intro h3 W3 o3 z3
  wp_walk
  have zl : h3.objs.size = h.objs.size := z3.trans (z2.trans z1)
  have fin := hQ (h3.push { cls := .type "tuple",data := .seq #[x,y] }) _ _ _ _ W3.more hf
  rw [<- zl] at fin
  exact ⟨_,rfl,fin (Heap.get?_push_size _ rfl) (o1.on (o2.on o3)).more⟩
def ZE (n : Nat) (h : Heap) (f0 f1 : Value) (h' : Heap) (e : Addr) : Prop := h'.get? (n + 4) = some (zObj n f0 f1) /\ Oth n h h' /\ ∃ o,h'.get? e = some o /\ o.cls = .type "StopIteration"
theorem ZW.end1 {Q : Value -> Shared -> Prop} (hh : A.handled = none) (W : ZW n k1 k2 l1 l2 i1 i2 xs ys f0 f1 a b s.heap) (hx : xs[i1]? = none) (hE : ∀ h' e,ZE n s.heap f0 f1 h' e -> E (.ref e) { s with heap := h' }) : wpAny (model prog w) A (Builtin.SmallTypes.nextOf (.ref n)) Q E s :=
 Z4n hh W.w1 W.s1 hx λ h' e x y => hE h' e ⟨x _ _ (ap wF) W.z,λ c o _ _ c3 _ q => x c o c3 q,y⟩
theorem ZW.end2 {Q : Value -> Shared -> Prop} (hh : A.handled = none) (W : ZW n k1 k2 l1 l2 i1 i2 xs ys f0 f1 a b s.heap) (hy : ys[i2]? = none) (hE : ∀ h' e,ZE n s.heap f0 f1 h' e -> E (.ref e) { s with heap := h' }) : wpAny (model prog w) A (Builtin.SmallTypes.nextOf (.ref (n + 1))) Q E s :=
 Z4n hh W.w2 W.s2 hy λ h' e x y => hE h' e ⟨x _ _ (ap wF) W.z,λ c o _ _ _ c4 q => x c o c4 q,y⟩
theorem Z8G {i : Nat} {Q : PySem.Fin -> Shared -> Prop} (hh : A.handled = none) (W : ZW n k1 k2 l1 l2 i i xs ys f0 f1 a b s.heap) (hf : ZF f0) (he : xs[i]? = none \/ ys[i]? = none)
  (hE : ∀ h' e,Oth n s.heap h' -> (∃ o,h'.get? e = some o /\ o.cls = .type "StopIteration") -> E (.ref e) { s with heap := h' }) :
  wpAny (model prog w) A (Builtin.«zip.__next__» ⟨[.ref (n + 4)],[]⟩) Q E s := by
 obtain ⟨h,g,d,tk,os⟩ := s
 dsimp only at W hE
 have z := W.z
 have t := W.ti
 have hb : ∀ h1 h2 e f,Oth n h h1 -> ZE n h1 f f1 h2 e -> wpAny (model prog w) A (setField (.ref (n + 4)) 0 .none) (λ _ s' => E (.ref e) s') E ⟨h2,g,d,tk,os⟩ := λ h1 h2 e f p ⟨g2,p2,o,q,c⟩ =>
  wpAny_setField_rec g2 (by simp [zObj]) λ h3 g3 e3 => hE h3 e (p.on (p2.on (.of e3 (.inl rfl)))) ⟨o,e3.extBut _ _ (λ x => by subst x; rw [g2] at q; cases q; simp [zObj] at c) q,c⟩
 wp_walk using W.free hf,W.mark0
 ·intro h1 W1 o1 z1
  have t1 := W1.to
  cases hx : xs[i]? with
  | none =>
   wp_walk using wpAny_onRaise,W1.end1 hh hx
   exact λ h2 e q => hb h1 h2 e _ o1 q
  | some x =>
   have hy : ys[i]? = none := he.resolve_left (by rw [hx]; simp)
   wp_walk using wpAny_onRaise,W1.draw1 hx
   intro h2 W2 o2 z2
   have t2 := W2.to
   wp_walk using W2.put
   intro h3 W3 o3 z3
   wp_walk using wpAny_onRaise,W3.end2 hh hy
   exact λ h4 e q => hb h3 h4 e _ (o1.on (o2.on o3)) q
 ·intro h1 f W1 o1 z1
  cases hx : xs[i]? with
  | none =>
   wp_walk using Z1n,W1.end1 hh hx
   exact λ h2 e q => hE h2 e (o1.on q.2.1) q.2.2
  | some x =>
   have hy : ys[i]? = none := he.resolve_left (by rw [hx]; simp)
   wp_walk using Z1n,W1.draw1 hx
   intro h2 W2 o2 z2
   wp_walk using W2.end2 hh hy
   exact λ h3 e q => hE h3 e (o1.on (o2.on q.2.1)) q.2.2
end
section
variable {prog : Program} {w : World} {A : Around} {E : Value -> Shared -> Prop} {s : Shared} {n l1 l2 i1 i2 i : Nat} {k1 k2 : Bool} {xs ys : Array Value} {f0 f1 a b v : Value}
theorem Q8S {T id : String} {bi : Builtin} {Q : Option Value -> Shared -> Prop} (hT : s.TypeIs v T) (sl : Slot T (Str.ofString "__next__") id) (en : entryFor table id = some bi) (ok : argsOk id ⟨[v],[]⟩)
  (h : wpAny (model prog w) A.in1 (bi ⟨[v],[]⟩) (λ fin s' => ∃ x,fin = .done (.ret x) /\ Q (some x) s') (λ e s' => s'.TypeIs e "StopIteration" /\ Q none s') s) : wpAny (model prog w) A (pyNext v) Q E s :=
 wpAny_bind (wpAny_attempt (wpAny_callSpecial?_slot hT sl (wpAny_call_entry sl hT en (wpAny_mono h (λ fin s' ⟨x,e,q⟩ => ⟨x,e,wpAny_pure q⟩) λ e s' ⟨t,q⟩ => wpAny_bind (wpAny_isInstance (T := "StopIteration") (b := true) t isSubtype_stop (wpAny_pure q))) ok)))
def ztn (k1 k2 : Bool) (n l1 l2 i : Nat) (h : Heap) : Prop := ∃ f0 f1 a b,ZF f0 /\ h.get? (n + 4) = some (zObj n f0 f1) /\ IsPair h (n + 2) (.ref n) (.ref (n + 1)) /\ IsPair h (n + 3) a b /\ SIt k1 h n l1 i /\ SIt k2 h (n + 1) l2 i
theorem ZW.tn {h : Heap} (W : ZW n k1 k2 l1 l2 i i xs ys f0 f1 a b h) (hf : ZF f0) : ztn k1 k2 n l1 l2 i h := ⟨f0,f1,a,b,hf,W.z,W.ti,W.to,W.w1,W.w2⟩
theorem Z7t {x y : Value} {Q : Option Value -> Shared -> Prop} (W : ZW n k1 k2 l1 l2 i i xs ys f0 f1 a b s.heap) (hf : ZF f0) (hx : xs[i]? = some x) (hy : ys[i]? = some y)
  (hQ : ∀ h' f0' f1' a' b',ZW n k1 k2 l1 l2 (i + 1) (i + 1) xs ys f0' f1' a' b' h' -> ZF f0' -> IsPair h' s.heap.objs.size x y -> Oth n s.heap h' -> Q (some (.ref s.heap.objs.size)) { s with heap := h' }) : wpAny (model prog w) A (pyNext (.ref (n + 4))) Q E s :=
 Q8S ⟨_,W.z,rfl⟩ F.slot_zip_next F.entry_zip_next (F.args_zip_next_1 _) (Z6J (Q := λ v s' => Q (some v) s') W hf hx hy hQ)
theorem Z0d {Q : Option Value -> Shared -> Prop} (hh : A.handled = none) (W : ZW n k1 k2 l1 l2 i i xs ys f0 f1 a b s.heap) (hf : ZF f0) (he : xs[i]? = none \/ ys[i]? = none) (hQ : ∀ h',Oth n s.heap h' -> Q none { s with heap := h' }) : wpAny (model prog w) A (pyNext (.ref (n + 4))) Q E s :=
 Q8S ⟨_,W.z,rfl⟩ F.slot_zip_next F.entry_zip_next (F.args_zip_next_1 _) (Z8G hh W hf he λ h' e p q => ⟨q,hQ h' p⟩)
theorem Y1n {tg : Expr} {u : Value} {Q : Unit -> Shared -> Prop} (W : ZW n k1 k2 l1 l2 i1 i2 xs ys f0 f1 a b s.heap) (hf : ZF f0) (hQ : ∀ h' f,ZW n k1 k2 l1 l2 i1 i2 xs ys f f1 a b h' -> ZF f -> Oth n s.heap h' -> Q () { s with heap := h' }) : wpAny (model prog w) A (letOwnedTupleGo tg (.ref (n + 4)) u) Q E s := by
 have same : Q () s := hQ s.heap _ W hf (Oth.refl _ _)
 obtain ⟨h,g,d,tk,os⟩ := s
 have z := W.z
 dsimp only at z
 unfold letOwnedTupleGo
 cases tg <;> try exact wpAny_pure same
 all_goals cases u <;> try exact wpAny_pure same
 all_goals
  wp_walk
  split
  ·exact wpAny_bind (wpAny_rule (W.mark0 (s := ⟨h,g,d,tk,os⟩) (v := .none) λ h' V o z => hQ h' _ V (.inl rfl) o))
  ·exact wpAny_pure same
theorem Z2i {T id nid : String} {bi : Builtin} {Q : Value -> Shared -> Prop} (hT : s.TypeIs v T) (sl : Slot T (Str.ofString "__iter__") id) (en : entryFor table id = some bi) (ok : argsOk id ⟨[v],[]⟩) (nx : Slot T (Str.ofString "__next__") nid)
  (h : wpAny (model prog w) A.in1 (bi ⟨[v],[]⟩) (λ fin s' => fin = .done (.ret v) /\ s' = s) E s) (q : Q v s) : wpAny (model prog w) A (pyIter v) Q E s :=
 wpAny_pyIter_slot hT sl (wpAny_call_entry sl hT en (wpAny_mono h (λ fin s' ⟨e1,e2⟩ => ⟨v,e1,T,_,by rw [e2]; exact hT,nx.lookup,by rw [e2]; exact q⟩) λ _ _ e => e) ok)
theorem Z1m {k : Bool} {l : Addr} {Q : Value -> Shared -> Prop} (t : SSq k s.heap l xs) (hQ : ∀ o,o.isFreed = false -> (∀ h : Heap,∀ c,h.get? c = some o -> SIt k h c l 0) -> Q (.ref s.heap.objs.size) { s with heap := s.heap.push o }) : wpAny (model prog w) A (pyIter (.ref l)) Q E s :=
 match k with
 | true => wpAny_pyIter_list t (hQ _ rfl λ h c e => ⟨_,e,rfl,rfl⟩)
 | false => wpAny_pyIter_tuple t (hQ _ rfl λ h c e => ⟨_,e,rfl,rfl⟩)
end
theorem laid5 (h : Heap) (a b c d e : Obj) (fa : a.isFreed = false) (fb : b.isFreed = false) (fc : c.isFreed = false) (fd : d.isFreed = false) (fe : e.isFreed = false) :
  let m := ((((h.push a).push b).push c).push d).push e
  m.get? h.objs.size = some a /\ m.get? (h.objs.size + 1) = some b /\ m.get? (h.objs.size + 2) = some c /\ m.get? (h.objs.size + 3) = some d /\ m.get? (h.objs.size + 4) = some e /\ ∀ x o,h.get? x = some o -> m.get? x = some o := by
 have up : ∀ (k : Heap) (o : Obj) x u,k.get? x = some u -> (k.push o).get? x = some u := λ k o x u q => Heap.get?_push_of_some _ q
 have at_ : ∀ (k : Heap) (o : Obj) x,o.isFreed = false -> x = k.objs.size -> (k.push o).get? x = some o := λ k o x f q => by rw [q]; exact Heap.get?_push_size _ f
 exact ⟨up _ _ _ _ (up _ _ _ _ (up _ _ _ _ (up _ _ _ _ (at_ _ _ _ fa rfl)))),up _ _ _ _ (up _ _ _ _ (up _ _ _ _ (at_ _ _ _ fb (by simp [Heap.size_push])))),up _ _ _ _ (up _ _ _ _ (at_ _ _ _ fc (by simp [Heap.size_push]))),up _ _ _ _ (at_ _ _ _ fd (by simp [Heap.size_push])),at_ _ _ _ fe (by simp [Heap.size_push]),λ x o q => up _ _ _ _ (up _ _ _ _ (up _ _ _ _ (up _ _ _ _ (up _ _ _ _ q))))⟩
theorem Z6I (k1 k2 : Bool) (l1 l2 : Addr) (xs ys : Array Value) :
  Meets (Builtin.«zip.__new__» ⟨[.type "zip",.ref l1,.ref l2],[]⟩) (λ _ R s => SSq k1 s.heap l1 xs /\ SSq k2 s.heap l2 ys /\
   ∀ h',ZW s.heap.objs.size k1 k2 l1 l2 0 0 xs ys .none (.bool false) .none .none h' -> (∀ c o,s.heap.get? c = some o -> h'.get? c = some o) -> R (.ok (.ret (.ref (s.heap.objs.size + 4)))) { s with heap := h' }) :=
 .of_wp λ prog w A R s q => by
  obtain ⟨h,g,d,tk,os⟩ := s
  obtain ⟨t1,t2,q⟩ := q
  have hsub := sub_zip
  have lt : ∀ {k : Bool} {l : Addr} {zs : Array Value},SSq k h l zs -> l < h.objs.size := λ {k l zs} q => by
   cases k with
   | true => obtain ⟨o,g,_⟩ := (q : h.IsList l zs); exact Heap.lt_size g
   | false => obtain ⟨o,g,_⟩ := (q : h.IsTuple l zs); exact Heap.lt_size g
  have p1 := lt t1
  have p2 := lt t2
  wp_walk using Z1m t1
  intro a1 f1 i1
  wp_walk using Z1m (s := ⟨h.push a1,g,d,tk,os⟩) (t2.at λ o e => Heap.get?_push_of_some _ e)
  intro a2 f2 i2
  wp_walk
  simp only [Heap.size_push,Nat.add_assoc,Nat.reduceAdd]
  obtain ⟨e0,e1,e2,e3,e4,up⟩ := laid5 h a1 a2 { cls := .type "tuple",data := .seq #[.ref h.objs.size,.ref (h.objs.size + 1)] } { cls := .type "tuple",data := .seq #[.none,.none] } { cls := .type "zip",data := .fields #[.none,.bool false,.bool false,.ref (h.objs.size + 2),.ref (h.objs.size + 3)] } f1 f2 rfl rfl rfl
  exact ⟨_,rfl,q _ ⟨e4,e2,e3,i1 _ _ e0,i2 _ _ e1,t1.at (up _),t2.at (up _),p1,p2⟩ up⟩
theorem Z7Q {prog : Program} {w : World} {A : Around} {E : Value -> Shared -> Prop} {s : Shared} {k1 k2 : Bool} {l1 l2 : Addr} {xs ys : Array Value} {Q : Value -> Shared -> Prop} (t1 : SSq k1 s.heap l1 xs) (t2 : SSq k2 s.heap l2 ys)
  (hQ : ∀ h',ztn k1 k2 s.heap.objs.size l1 l2 0 h' -> (∀ c o,s.heap.get? c = some o -> h'.get? c = some o) -> Q (.ref (s.heap.objs.size + 4)) { s with heap := h' }) :
  wpAny (model prog w) A (call (.type "zip") [.ref l1,.ref l2]) Q E s :=
 callType_new F.called_zip wE (F.typeCall_zip_2 _ _) (F.newCall_zip_2 _ _) (λ obj => F.args_object_init_3 obj _ _) F.entry_zip_new (Z6I k1 k2 l1 l2 xs ys) ⟨t1,t2,λ h' W up => ⟨⟨_,W.z,rfl⟩,hQ h' (W.tn (.inl rfl)) up⟩⟩
def Sq (k : Bool) (K : PySem.W.Frag) (H : Hp) (a : Addr) (xs : List V) : Prop := if k then SqL K H a xs else SqT K H a xs
def Itz (k1 k2 : Bool) (K : PySem.W.Frag) (l1 l2 : Addr) : It :=
  ⟨λ i H => ∃ as bs a b,Sq k1 K H l1 as /\ Sq k2 K H l2 bs /\ as[i]? = some a /\ bs[i]? = some b,
   λ i H x H' => ∃ T a b,H T = none /\ H' = upd H T (.tup [a,b]) /\ x = .ref T /\ (∀ as,Sq k1 K H l1 as -> as[i]? = some a) /\ ∀ bs,Sq k2 K H l2 bs -> bs[i]? = some b,
   λ i H => ∃ as bs,Sq k1 K H l1 as /\ Sq k2 K H l2 bs /\ (as.length <= i \/ bs.length <= i)⟩
section
variable {X : Cx} {pins : List (Addr × Obj)} {σ : L2.St} {H : Hp} {s : Shared} {k : Bool} {a : Addr} {xs ys : List V}
theorem Q3s (I : L2.Inv X pins σ H s) (h : Sq k X.K H a xs) : ∃ its : List Value,Vals xs its /\ SSq k s.heap a its.toArray /\ xs.length <= sizeLine := by
 cases k with
 | true => obtain ⟨its,v,p,z⟩ := I.list h; exact ⟨its,v,p.isList,z⟩
 | false => obtain ⟨its,v,p,z⟩ := I.tuple h; exact ⟨its,v,(p : IsTup _ _ _),z⟩
theorem Q4Y (I : L2.Inv X pins σ H s) (h : Sq k X.K H a xs) (h' : Sq k X.K H a ys) : xs = ys := by
 cases k with
 | true => exact I.list_inj h h'
 | false => exact I.tuple_inj h h'
end
theorem Q5I {X : Cx} {pins : List (Addr × Obj)} {σ : L2.St} {H : Hp} {s : Shared} {h' : Heap} {t' : Nat} {fp : List Addr} (I : L2.Inv X pins σ H s) (hf : ∀ b ∈ fp,FpOk X pins H b) (k : ∀ b o,b ∉ fp -> s.heap.get? b = some o -> h'.get? b = some o) : L2.Inv X pins σ H { s with heap := h',toks := t' } := by
 have nit : ∀ b u,H b = some u -> b ∉ fp := λ b u e z => by rw [(hf b z).1] at e; cases e
 refine I.step (g' := s.gens) (d' := s.drawn) (ch := fp) (λ b hb => ?_) (λ b o _ _ hc e _ => k b o hc e) (λ b o _ _ hc e _ => ⟨o.slots,k b o hc e⟩) (λ _ _ _ _ n => n) (λ b o hc e => ⟨o,k b o hc e⟩) (λ _ _ e => e) (λ _ _ _ e => e) (λ b ps e => ⟨#[],by rw [e]; simp⟩) (λ m hm => ?_) (λ b u e => ?_) I.bare
 ·obtain ⟨f0,f1,f2,f3,f4,f5⟩ := hf b hb
  exact ⟨f3,f1,f4,f5⟩
 ·obtain ⟨o,es,ep,ho,r⟩ := hm
  exact ⟨o,es,ep,k _ o (λ z => (hf _ z).2.1 rfl) ho,r⟩
 ·refine (I.hok b u e).stay (λ c v hc q => k c v ?_ q) (λ _ q => q) λ _ _ q => q
  rcases hc with z | z
  ·rw [z]; exact nit b u e
  ·exact nit c _ z
theorem Z0D {X : Cx} {pins : List (Addr × Obj)} {σ : L2.St} {H : Hp} {s : Shared} {T : Addr} {o : HO} (I : L2.Inv X pins σ H s) (hT : FpOk X pins H T) (hs : X.s₀.heap.objs.size <= T) (new : Q1Y X.prog X.w (upd H T o) s.heap T o) : L2.Inv X pins σ (upd H T o) s := by
 obtain ⟨f0,f1,f2,f3,f4,f5⟩ := hT
 have ne : ∀ b u,H b = some u -> b ≠ T := λ b u e z => by rw [z,f0] at e; cases e
 have sn : ∀ b o,X.s₀.heap.get? b = some o -> b ≠ T := λ b o e => Nat.ne_of_lt (Nat.lt_of_lt_of_le (Heap.lt_size e) hs)
 exact ⟨I.ok,I.os,I.bare,⟨I.base.keep,I.base.slot,λ b ob q n hx => by rw [Q0w (sn b ob q)]; exact I.base.free b ob q n hx,I.base.there,λ b xs q => by have e := I.base.tups b xs q; rw [Q0w (ne b _ e)]; exact e,λ b ob u q => by have e := I.base.frzs b ob u q; rw [Q0w (ne b _ e)]; exact e,λ b ps q => by obtain ⟨m,e⟩ := I.base.tbls b ps q; exact ⟨m,by rw [Q0w (ne b _ e)]; exact e⟩⟩,
  I.loc,I.cell,by rw [Q0w (Ne.symm f1)]; exact I.free,λ x c e => by rw [Q0w (f4 x c e)]; exact I.freeC x c e,λ p hp => by obtain ⟨a,b,c⟩ := I.pin p hp; exact ⟨a,by rw [Q0w (f5 p hp)]; exact b,c⟩,Q9s I.hok f0 new,I.len⟩
def zfp (n : Nat) : List Addr := [n,n + 1,n + 2,n + 3,n + 4]
theorem Z6H {k1 k2 : Bool} {n l1 l2 i : Nat} {h h' : Heap} (st : ztn k1 k2 n l1 l2 i h) (k : ∀ b ∈ zfp n,∀ o,h.get? b = some o -> h'.get? b = some o) : ztn k1 k2 n l1 l2 i h' := by
 obtain ⟨f0,f1,a,b,hf,z,ti,to,w1,w2⟩ := st
 exact ⟨f0,f1,a,b,hf,k _ (by simp [zfp]) _ z,k _ (by simp [zfp]) _ ti,k _ (by simp [zfp]) _ to,w1.at (k _ (by simp [zfp])),w2.at (k _ (by simp [zfp]))⟩
theorem Z3U {k1 k2 : Bool} {n l1 l2 i : Nat} {h : Heap} (st : ztn k1 k2 n l1 l2 i h) : ∀ b ∈ zfp n,∃ o,h.get? b = some o /\ ∀ v,o.data ≠ .cell v := by
 obtain ⟨f0,f1,a,b,hf,z,ti,to,w1,w2⟩ := st
 have all : ∀ P : Addr -> Prop,P n -> P (n + 1) -> P (n + 2) -> P (n + 3) -> P (n + 4) -> ∀ b ∈ zfp n,P b := λ P p0 p1 p2 p3 p4 b hb => by
  simp only [zfp,List.mem_cons,List.not_mem_nil,or_false] at hb
  rcases hb with rfl | rfl | rfl | rfl | rfl <;> assumption
 exact all _ w1.obj w2.obj ⟨_,ti,λ v e => by cases e⟩ ⟨_,to,λ v e => by cases e⟩ ⟨_,z,λ v e => by cases e⟩
theorem Q8h {n : Nat} {c : Addr} (h : c ∉ zfp n) : c ≠ n + 4 /\ c ≠ n + 3 /\ c ≠ n /\ c ≠ n + 1 :=
 ⟨λ e => h (by simp [zfp,e]),λ e => h (by simp [zfp,e]),λ e => h (by simp [zfp,e]),λ e => h (by simp [zfp,e])⟩
theorem Oth.fp {n : Nat} {h h' : Heap} (p : Oth n h h') : ∀ c o,c ∉ zfp n -> h.get? c = some o -> h'.get? c = some o := λ c o hc => p c o (Q8h hc).1 (Q8h hc).2.1 (Q8h hc).2.2.1 (Q8h hc).2.2.2
theorem Z6M {P : Program} {w : World} {K : PySem.W.Frag} {tg : Expr} (k1 k2 : Bool) (n l1 l2 : Nat) (hl1 : l1 < n) (hl2 : l2 < n) : Turn P w K tg (Itz k1 k2 K l1 l2) (zfp n) (n + 4) (ztn k1 k2 n l1 l2) where
 mem := by simp [zfp]
 obj := λ i h st => Z3U st
 keep := λ i h h' st k => Z6H st k
 item := by
  intro X hP hw hK hc i pins s σ H E I hf st hg
  subst hP hw hK
  obtain ⟨as,bs,a,b,q1,q2,ga,gb⟩ := hg
  obtain ⟨ia,va,sa,_⟩ := Q3s I q1
  obtain ⟨ib,vb,sb,_⟩ := Q3s I q2
  obtain ⟨ua,hua,rua⟩ := va.get ga
  obtain ⟨ub,hub,rub⟩ := vb.get gb
  have hTn : s.heap.objs.size ∉ zfp n := λ m => let ⟨o,e,_⟩ := Z3U st _ m; Nat.lt_irrefl _ (Heap.lt_size e)
  obtain ⟨f0,f1,a0,b0,zf,z,ti,to,w1,w2⟩ := st
  refine Z7t (x := ua) (y := ub) ⟨z,ti,to,w1,w2,sa,sb,hl1,hl2⟩ zf (by simpa using hua) (by simpa using hub) λ h1 f0' f1' a' b' W1 zf1 pr o1 => ⟨_,rfl,Y1n (s := { s with heap := h1 }) W1 zf1 λ h2 f W2 zf2 o2 => ?_⟩
  have Iz : L2.Inv X pins σ H { s with heap := h2,toks := s.toks } := Q5I I hf (o1.on o2).fp
  have fr : H s.heap.objs.size = none := I.hok.fresh (Nat.le_refl _)
  refine ⟨.ref s.heap.objs.size,upd H s.heap.objs.size (.tup [a,b]),?_,rfl,⟨_,a,b,fr,rfl,rfl,λ cs q => ?_,λ cs q => ?_⟩,W2.tn zf2,λ c hb => ?_⟩
  ·refine Z0D Iz (I.fpOk (Nat.le_refl _) fr) I.sz ⟨show 2 <= sizeLine by decide,[ua,ub],.cons rua (.cons rub .nil),?_⟩
   exact ⟨_,o2.fp _ _ hTn pr,rfl,rfl,_,rfl⟩
  ·rw [Q4Y I q q1]; exact ga
  ·rw [Q4Y I q q2]; exact gb
  ·rw [Q0w (λ e => hTn (by rw [<- e]; exact hb))]; exact (hf c hb).1
 done := by
  intro X hP hw hK hc i pins s σ H E I hf st hg
  subst hP hw hK
  obtain ⟨as,bs,q1,q2,hend⟩ := hg
  obtain ⟨ia,va,sa,_⟩ := Q3s I q1
  obtain ⟨ib,vb,sb,_⟩ := Q3s I q2
  obtain ⟨f0,f1,a0,b0,zf,z,ti,to,w1,w2⟩ := st
  have e1 := va.length
  have e2 := vb.length
  exact Z0d (I.ok.hd hc) ⟨z,ti,to,w1,w2,sa,sb,hl1,hl2⟩ zf (hend.imp (λ e => by simp; omega) λ e => by simp; omega) λ h' p => ⟨rfl,Q5I (t' := s.toks) I hf p.fp⟩
 self := λ A i s Q E st h => by
  obtain ⟨f0,f1,a0,b0,zf,z,_⟩ := st
  exact Z2i ⟨_,z,rfl⟩ F.slot_zip_iter F.entry_zip_iter (F.args_zip_iter_1 _) F.slot_zip_next (wpAny_pure ⟨rfl,rfl⟩) h
end DL
set_option maxHeartbeats 1000000
namespace DL
open PySem PySem.Spec PyProof.Rows L2 PySem.W
def LF (d : D) (xs : List D) : Prop := d = .lst xs \/ d = .scr xs \/ d = .tup xs
theorem Sq.same {k : Bool} {K : PySem.W.Frag} {H H' : Hp} {a : Addr} {xs : List V} (e : Same H H') (h : Sq k K H a xs) : Sq k K H' a xs := by
 cases k with
 | true => exact e.seq h
 | false => exact Q0V e h
theorem LF.sq {K : PySem.W.Frag} {G : Wd} {d : D} {xs : List D} {v : V} (h : LF d xs) (i : Is K G d v) : ∃ k a vs,v = .ref a /\ Sq k K G.g a vs /\ Iss K G xs vs := by
 rcases h with rfl | rfl | rfl
 ·cases i with | lst h r => exact ⟨true,_,_,rfl,SqL.of h,r⟩
 ·cases i with | scr h r => exact ⟨true,_,_,rfl,h,r⟩
 ·cases i with | tup h r => exact ⟨false,_,_,rfl,h,r⟩
def EvZ (X : Cx) (ρ : Rho) (O : Sto) (e : Expr) (xs : List D) (T : String) : Prop :=
 ∀ (G : Wd) (tg : Expr) (pins : List (Addr × Obj)) (s : Shared) (σ : L2.St) (H : Hp) (R : It -> Hp -> Prop),L2.Inv X pins σ H s -> SA X.K G H O -> EnvR X.K G σ ρ -> (∀ J G' H',Ext G G' -> SA X.K G' H' O -> Q2Y X.K G' J xs -> R J H') ->
  wpAny (model X.prog X.w) X.A (eval e X.env) (λ v s1 => PIE X pins σ tg R v s1 /\ s1.TypeIs v T) X.xe s
def zipD (xs ys : List D) : List D := List.zipWith (λ a b => .tup [a,b]) xs ys
theorem Z3y {K : PySem.W.Frag} {G : Wd} {k1 k2 : Bool} {l1 l2 : Addr} {vs us : List V} {xs ys : List D} (h1 : Sq k1 K G.g l1 vs) (h2 : Sq k2 K G.g l2 us) (r1 : Iss K G xs vs) (r2 : Iss K G ys us) : Q2Y K G (Itz k1 k2 K l1 l2) (zipD xs ys) where
 go := λ i H e hi => by
  have hi : i < min xs.length ys.length := by simpa [zipD] using hi
  obtain ⟨a,ha,_⟩ := r1.get (i := i) (d := xs[i]'wF) (by simp)
  obtain ⟨b,hb,_⟩ := r2.get (i := i) (d := ys[i]'wF) (by simp)
  exact ⟨vs,us,a,b,h1.same e,h2.same e,ha,hb⟩
 stop := λ i H e hi => by
  have hi : min xs.length ys.length <= i := by simpa [zipD] using hi
  have e1 := r1.length
  have e2 := r2.length
  exact ⟨vs,us,h1.same e,h2.same e,by omega⟩
 yld := λ i v H H' G2 O2 e s y hi => by
  obtain ⟨T,a,b,hT,rfl,rfl,y1,y2⟩ := y
  obtain ⟨x,hx,ix⟩ := r1.getV (y1 vs (h1.same (e.g.trans s.sub)))
  obtain ⟨y,hy,iy⟩ := r2.getV (y2 us (h2.same (e.g.trans s.sub)))
  obtain ⟨e3,s3⟩ := s.laid (o := .tup [a,b]) hT
  refine ⟨.tup [x,y],_,?_,e3,s3,.tup (SqT.of Q0u) (.cons (ix.ext (e.trans e3)) (.cons (iy.ext (e.trans e3)) .nil))⟩
  unfold zipD
  rw [List.getElem?_zipWith,hx,hy]
section
variable {X : Cx} {ρ : Rho} {O : Sto} {e a b c : Expr} {es : List Expr} {d da db : D} {ds : List D} {R : D -> Sto -> Prop} {pos p : Pos} {x : Str} {xs ys : List D}
theorem Y1r (ha : EvP X ρ O a da) (hb : EvP X ρ O b db) (fa : LF da xs) (fb : LF db ys) (hm : X.mg "zip" = none) (hg : Gl X "zip" := by rfl) (hs : starEach [a,b] X.env = [(false,eval a X.env),(false,eval b X.env)] := by rfl) (hs2 : starEach [b] X.env = [(false,eval b X.env)] := by rfl) :
  EvZ X ρ O (.Call (.Name "zip" p) [a,b] [] pos) (zipD xs ys) "zip" := λ G tg pins s σ H R I sa en k => by
 refine Call_ (Q5b I hg hm boot_zip (PyProof.Rows.callWith_type1 (thn (Q0a ha (Q0a hb Q0d hs2) (by rw [hs,hs2]) G pos pins s σ H (λ vs H' => ∃ G',Ext G G' /\ SA X.K G' H' O /\ Iss X.K G' [da,db] vs) I ⟨sa,en,λ vs G' H' e1 s1 i1 => ⟨G',e1,s1,i1⟩⟩) λ us s1 ⟨vs,H1,I1,r1,G1,e1,sa1,is1⟩ => ?_) (by rw [hs,hs2]) (by rw [hs2]; rfl)))
 cases is1 with | cons i1 is1 => cases is1 with | cons i2 is1 =>
 cases is1
 obtain ⟨k1,l1,v1,rfl,q1,j1⟩ := fa.sq i1
 obtain ⟨k2,l2,v2,rfl,q2,j2⟩ := fb.sq i2
 obtain ⟨u,u',rfl,ru,ru'⟩ := Z0H r1
 cases ru
 cases ru'
 obtain ⟨t1,w1,g1,z1⟩ := Q3s I1 (q1.same sa1.sub)
 obtain ⟨t2,w2,g2,z2⟩ := Q3s I1 (q2.same sa1.sub)
 have lt : ∀ {k : Bool} {l : Addr} {ys : Array Value},SSq k s1.heap l ys -> l < s1.heap.objs.size := λ {k l ys} q => by
  cases k with
  | true => obtain ⟨o,g,_⟩ := (q : s1.heap.IsList l ys); exact Heap.lt_size g
  | false => obtain ⟨o,g,_⟩ := (q : s1.heap.IsTuple l ys); exact Heap.lt_size g
 refine Z7Q g1 g2 λ h' Z kp => ?_
 have Ik : L2.Inv X pins σ H1 { s1 with heap := h',toks := s1.toks } := I1.kept kp
 refine ⟨⟨s1.heap.objs.size + 4,zfp s1.heap.objs.size,ztn k1 k2 s1.heap.objs.size l1 l2,Itz k1 k2 X.K l1 l2,H1,rfl,Ik,Z6M k1 k2 _ l1 l2 (lt g1) (lt g2),Z,λ b hb => ?_,k _ G1 H1 e1 sa1 (Z3y q1 q2 j1 j2)⟩,?_⟩
 ·have hb' : s1.heap.objs.size <= b := by
   simp only [zfp,List.mem_cons,List.not_mem_nil,or_false] at hb
   rcases hb with rfl | rfl | rfl | rfl | rfl
   ·exact Nat.le_refl _
   ·exact Nat.le_add_right _ 1
   ·exact Nat.le_add_right _ 2
   ·exact Nat.le_add_right _ 3
   ·exact Nat.le_add_right _ 4
  exact I1.fpOk hb' (I1.hok.fresh hb')
 ·obtain ⟨f0,f1,a0,b0,_,hz,_⟩ := Z
  exact ⟨_,hz,rfl⟩
theorem ei_Z {tg : Expr} {T : String} (h : EvZ X ρ O e xs T) : EvI X ρ O tg e xs := λ G pins s σ H R I ⟨h1,h2,h3⟩ =>
 thn (h G tg pins s σ H R I h1 h2 h3) λ v s1 ⟨q,_⟩ => by
  obtain ⟨it,fp,tn,J,H',rfl,I',T,st,f,r⟩ := id q
  exact T.self X.A 0 s1 _ _ st q
end
def Cx.wA (X : Cx) (A : Around) : Cx := { X with A := A }
theorem Inv_A {X : Cx} {pins : List (Addr × Obj)} {σ : L2.St} {H : Hp} {s : Shared} {A : Around} (I : L2.Inv X pins σ H s) (h1 : A.frames = X.A.frames) (h2 : A.handled = X.A.handled) : L2.Inv (Cx.wA X A) pins σ H s :=
 ⟨⟨I.ok.mod,I.ok.kind,I.ok.glob,I.ok.blt,I.ok.above,I.ok.inj,I.ok.has,I.ok.cab,λ hc => h2.trans (I.ok.hd hc),h1.trans I.ok.frames,I.ok.stk,I.ok.exf,I.ok.bs,I.ok.bsz,I.ok.noex,I.ok.exfs,I.ok.funs,I.ok.frf⟩,I.os,I.bare,I.base,I.loc,I.cell,I.free,I.freeC,I.pin,I.hok,I.len⟩
theorem Y0k {X : Cx} {pins : List (Addr × Obj)} {σ : L2.St} {H : Hp} {s : Shared} {A : Around} (I : L2.Inv (Cx.wA X A) pins σ H s) (ok : X.Ok) : L2.Inv X pins σ H s := ⟨ok,I.os,I.bare,I.base,I.loc,I.cell,I.free,I.freeC,I.pin,I.hok,I.len⟩
def kBd {α : Type} (n : Nat) (P : α -> Prop) : KasT α -> Prop
 | .ret a => P a
 | .ask i j k => i < n /\ j < n /\ ∀ b,kBd n P (k b)
theorem Q3z {α β : Type} {n : Nat} {f : α -> KasT β} {P : α -> Prop} {Q : β -> Prop} (hf : ∀ a,P a -> kBd n Q (f a)) : ∀ (t : KasT α),kBd n P t -> kBd n Q (t.bind f)
 | .ret a,h => hf a h
 | .ask i j k,h => ⟨h.1,h.2.1,λ b => Q3z hf (k b) (h.2.2 b)⟩
theorem Z8u {α : Type} {n : Nat} {P : α -> Prop} {cmp : Nat -> Nat -> (Bool -> Shared -> Prop) -> Shared -> Prop} {lt : Nat -> Nat -> Bool} {s : Shared} {Q : α -> Shared -> Prop} (hc : ∀ i j C,i < n -> j < n -> C (lt i j) s -> cmp i j C s) : ∀ (t : KasT α),kBd n P t -> (P (kRun lt t) -> Q (kRun lt t) s) -> t.kasWp cmp Q s
 | .ret a,h,q => q h
 | .ask i j k,h,q => hc i j _ h.1 h.2.1 (Z8u hc (k (lt i j)) (h.2.2 _) q)
def In (n : Nat) (p : Array Nat) : Prop := ∀ k,p.getD k 0 < n
theorem Z6G {n : Nat} {p q : Array Nat} (h : In n p) (e : q.Perm p) (hn : 0 < n) : In n q := λ k => by
 rw [Q2P]
 cases hk : q[k]? with
 | none => exact hn
 | some v =>
  have hv : v ∈ p := e.mem_iff.mp (Array.mem_of_getElem? hk)
  obtain ⟨i,hi,ei⟩ := Array.mem_iff_getElem.mp hv
  have := h i
  rw [Q2P,Array.getElem?_eq_getElem hi,ei] at this
  exact this
theorem Z6q {n : Nat} {p : Array Nat} (h : In n p) : ∀ (f m : Nat),kBd n (λ _ => True) (kas_asc p f m)
 | 0,m => trivial
 | f + 1,m => ⟨h _,h _,λ b => by cases b; exact Z6q h f (m + 1); exact trivial⟩
theorem Q9O {n : Nat} {p : Array Nat} (h : In n p) (hn : 0 < n) (i j : Nat) : In n (kas_rev p i j) := Z6G h (mirror_perm _ _ _ _) hn
theorem Q9d {n : Nat} (hn : 0 < n) : ∀ (f : Nat) (p : Array Nat) (m q : Nat),In n p -> kBd n (λ r : Array Nat × Nat × Nat => In n r.1) (kas_desc f p m q)
 | 0,p,m,q,h => h
 | f + 1,p,m,q,h => ⟨h _,h _,λ b => by
   cases b
   ·exact ⟨h _,h _,λ c => by
     cases c
     ·exact Q9d hn f p _ _ h
     ·exact h⟩
   ·show kBd n _ (if true = true then _ else _)
    rw [if_pos rfl]
    split
    ·exact Q9d hn f _ _ _ (Q9O h hn _ _)
    ·exact Q9d hn f p _ _ h⟩
theorem Z1Q {n : Nat} (hn : 0 < n) {p : Array Nat} (h : In n p) (m r : Nat) : kBd n (λ r : Nat × Array Nat => In n r.2) (kas_tail3 m r p) := by
 unfold kas_tail3
 refine Q3z (P := λ _ => True) (λ a _ => ?_) _ (Z6q (Q9O h hn 0 m) _ _)
 exact Q9O h hn 0 m
theorem Q6T {n : Nat} (hn : 0 < n) {p : Array Nat} (h : In n p) (m r : Nat) : kBd n (λ r : Nat × Array Nat => In n r.2) (kas_descPart m r p) :=
 Q3z (λ a ha => by
  show kBd n _ (if _ > 0 then _ else _)
  split
  ·exact Z1Q hn (Q9O ha hn _ _) _ _
  ·exact Z1Q hn ha _ _) _ (Q9d hn _ _ _ _ h)
theorem Z7P {n : Nat} (hn : 0 < n) {p : Array Nat} (h : In n p) (r : Nat) : kBd n (λ r : Nat × Array Nat => In n r.2) (kas_count r p) :=
 Q3z (P := λ _ => True) (λ a _ => by
  show kBd n _ (if (_ == _) = true then _ else _)
  split
  ·exact h
  ·split
   ·exact ⟨h _,h _,λ b => by
     cases b
     ·exact Q6T hn (Q9O h hn _ _) _ _
     ·exact h⟩
   ·exact Q6T hn h _ _) _ (Z6q h _ _)
theorem Q8J {n : Nat} {p : Array Nat} (h : In n p) (k : Nat) : ∀ (f l r : Nat),kBd n (λ _ => True) (kas_place p k f l r)
 | 0,l,r => trivial
 | f + 1,l,r => by
  show kBd n _ (if l >= r then _ else _)
  split
  ·exact trivial
  ·exact ⟨h _,h _,λ b => by cases b; exact Q8J h k f _ _; exact Q8J h k f _ _⟩
theorem Z8C {n : Nat} (hn : 0 < n) : ∀ (f : Nat) (p : Array Nat) (k : Nat),In n p -> kBd n (λ _ => True) (kas_bin f p k)
 | 0,p,k,h => trivial
 | f + 1,p,k,h => Q3z (P := λ _ => True) (λ a _ => Z8C hn f _ _ (Z6G h (bubble_perm _ _ _) hn)) _ (Q8J h k _ _ _)
theorem Z8T {n : Nat} (hn : 0 < n) : kBd n (λ _ => True) (kas_sort n) :=
 Q3z (λ a ha => by
  show kBd n _ (if _ < n then _ else _)
  split
  ·exact Z8C hn _ _ _ ha
  ·exact trivial) _ (Z7P hn (λ k => by
   rw [Q2P]
   by_cases hk : k < n
   ·simp [hk]
   ·simp [hk,hn]) n)
section
variable (key : Nat -> Int)
theorem Z8B : ∀ (f : Nat) (p : Array Nat) (k : Nat),k + f <= p.size -> Srt key p k -> ∃ p',kRun (ltK key) (kas_bin f p k) = p' /\ p'.Perm p /\ p'.size = p.size /\ Srt key p' (k + f)
 | 0,p,k,h,hs => ⟨p,rfl,Array.Perm.refl _,rfl,hs⟩
 | f + 1,p,k,h,hs => by
  obtain ⟨m,e,h1,h2,h3⟩ := Q8I key p k hs k 0 k (Nat.zero_le _) (Nat.le_refl _) wF (λ i hi => by omega) (λ i i1 i2 => by omega)
  have hK : ∀ i,KQ key (bubble p k (k - m)) i = if i = m then KQ key p k else if m < i /\ i <= k then KQ key p (i - 1) else KQ key p i := λ i => by
   unfold KQ
   rw [Q2P,getElem?_bubble wF (k - m) wF i]
   rw [show k - (k - m) = m by omega]
   repeat' split
   all_goals rw [Q2P]
  obtain ⟨p',e',g1,g2,g3⟩ := Z8B f (bubble p k (k - m)) (k + 1) (by rw [bubble_size]; omega) (λ i j hij hj => by
   rw [hK,hK]
   by_cases im : i = m
   ·rw [if_pos im]
    by_cases jm : j = m
    ·rw [if_pos jm]; exact Int.le_refl _
    ·rw [if_neg jm,if_pos wF]
     exact Int.le_of_lt (h3 (j - 1) wF wF)
   ·rw [if_neg im]
    by_cases jm : j = m
    ·rw [if_pos jm,if_neg wF]
     exact h2 i wF
    ·rw [if_neg jm]
     by_cases hi : m < i /\ i <= k
     ·rw [if_pos hi,if_pos wF]
      exact hs _ _ wF wF
     ·rw [if_neg hi]
      by_cases hj' : m < j /\ j <= k
      ·rw [if_pos hj']
       exact hs _ _ wF wF
      ·rw [if_neg hj']
       exact hs _ _ hij wF)
  refine ⟨p',?_,g1.trans (bubble_perm _ _ _),g2.trans (bubble_size _ _ _),?_⟩
  ·show kRun _ (KasT.bind _ _) = _
   rw [Q1R,e]
   exact e'
  ·rw [show k + (f + 1) = k + 1 + f by omega]; exact g3
theorem Z8S {n : Nat} (hn : 0 < n) : ∃ p,kRun (ltK key) (kas_sort n) = p /\ p.Perm (List.toArray (List.range n)) /\ p.size = n /\ Srt key p n := by
 obtain ⟨m,p,e,h1,h2,h3,h4,h5⟩ := Z7O key (nrem := n) (p := List.toArray (List.range n)) hn (by simp)
 have hz : p.size = n := by rw [h4]; simp
 by_cases hm : m < n
 ·obtain ⟨p',e',g1,g2,g3⟩ := Z8B key (n - max m 1) p (max m 1) wF (by rw [show max m 1 = m by omega]; exact h5)
  refine ⟨p',?_,g1.trans h3,g2.trans hz,by rw [show max m 1 + (n - max m 1) = n by omega] at g3; exact g3⟩
  unfold kas_sort
  rw [Q1R,e]
  show kRun _ (if m < n then _ else _) = _
  rw [if_pos hm]
  exact e'
 ·refine ⟨p,?_,h3,hz,by rw [show n = m by omega]; exact h5⟩
  unfold kas_sort
  rw [Q1R,e]
  show kRun _ (if m < n then _ else _) = _
  rw [if_neg hm]
  rfl
end
def Q4n {α : Type} (lt : α -> α -> Bool) (l : List α) (x : α) : Int := ((l.filter λ z => lt z x).length : Nat)
theorem Z4M {α : Type} {lt : α -> α -> Bool} {l : List α} {x y : α} (irr : ∀ a,lt a a = false) (tr : ∀ a b c,lt a b = true -> lt b c = true -> lt a c = true) (hx : x ∈ l) (h : lt x y = true) : Q4n lt l x < Q4n lt l y := by
 have key : ∀ l : List α,(l.filter λ z => lt z x).length <= (l.filter λ z => lt z y).length := λ l => by
  induction l with
  | nil => simp
  | cons a l ih =>
   simp only [List.filter_cons]
   by_cases ha : lt a x = true
   ·rw [if_pos ha,if_pos (tr _ _ _ ha h)]; simp; exact ih
   ·rw [if_neg ha]; split
    ·simp; omega
    ·exact ih
 have strict : ∀ l : List α,x ∈ l -> (l.filter λ z => lt z x).length < (l.filter λ z => lt z y).length := λ l => by
  induction l with
  | nil => intro h; cases h
  | cons a l ih =>
   intro hm
   have base := key l
   simp only [List.filter_cons]
   rcases List.mem_cons.mp hm with rfl | hm
   ·rw [if_neg (by rw [irr]; simp),if_pos h]; simp; omega
   ·have := ih hm
    by_cases ha : lt a x = true
    ·rw [if_pos ha,if_pos (tr _ _ _ ha h)]; simp; exact this
    ·rw [if_neg ha]; split
     ·simp; omega
     ·exact this
 unfold Q4n
 have := strict l hx
 omega
theorem Z2c {α : Type} {lt : α -> α -> Bool} {l : List α} {x y : α} (irr : ∀ a,lt a a = false) (tr : ∀ a b c,lt a b = true -> lt b c = true -> lt a c = true) (tot : ∀ a b,lt a b = false -> lt b a = false -> a = b) (hx : x ∈ l) (hy : y ∈ l) : decide (Q4n lt l x < Q4n lt l y) = lt x y := by
 cases h : lt x y with
 | true => exact decide_eq_true (Z4M irr tr hx h)
 | false =>
  refine decide_eq_false λ z => ?_
  cases h' : lt y x with
  | true => have := Z4M irr tr hy h'; omega
  | false => rw [tot _ _ h h'] at z; omega
abbrev Q7Y (h : Heap) (a : Addr) (vs : List Value) : Heap := ((h.update a (Obj.mapSeq λ _ => (#[] : Array Value))).push (seqObj "tuple" vs.toArray 0)).push (seqObj "list" #[] 0)
theorem Z3C {h : Heap} {a b : Addr} {vs : List Value} {o : Obj} (hb : b ≠ a) (e : h.get? b = some o) : (Q7Y h a vs).get? b = some o :=
 Heap.get?_push_of_some _ (Heap.get?_push_of_some _ ((Heap.get?_update_ne _ _ _ _ hb).trans e))
theorem Z3B {h : Heap} {a : Addr} {vs : List Value} {n : Nat} (e : h.get? a = some (seqObj "list" vs.toArray n)) : ∃ m,(h.update a (Obj.mapSeq λ _ => (#[] : Array Value))).get? a = some (seqObj "list" #[] m) /\ (Q7Y h a vs).get? a = some (seqObj "list" #[] m) :=
 ⟨_,get?_update_seq e _,Heap.get?_push_of_some _ (Heap.get?_push_of_some _ (get?_update_seq e _))⟩
section
variable {prog : Program} {w : World} {A : Around} {E : Value -> Shared -> Prop} {s : Shared}
def Q6t (p : Array Nat) (vs : List Value) : List Value := p.toList.map λ i => vs.getD i Value.none
def Runs (prog : Program) (w : World) (A : Around) (vs : List Value) (s : Shared) (G : SortSt -> Prop) : Prop :=
 ∀ E : Value -> Shared -> Prop,wpAny (model prog w) A (if vs.toArray.size < 2 then pure general' else keyKind' vs.toArray)
  (λ κ s1 => wpAny (model prog w) A ((if vs.toArray.size < 2 then pure () else sortRuns').run (SortSt.mk' κ (vs.toArray.zip vs.toArray) #[] 7 none)) (λ r s2 => s2 = s /\ failedOf r.2 = none /\ G r.2) E s1) E s
theorem Z9E {α β : Type} {M : Model} {c : Prop} [Decidable c] {x y : Sem α} {f : α -> Sem β} {Q : β -> Shared -> Prop} (h : wpAny M A ((if c then x else y) >>= f) Q E s) : wpAny M A (if c then x >>= f else y >>= f) Q E s := by
 by_cases hc : c
 ·rw [if_pos hc] at h ⊢; exact h
 ·rw [if_neg hc] at h ⊢; exact h
theorem Z2U {a : Addr} {vs : List Value} {n : Nat} {G : SortSt -> Prop} {P : PySem.Fin -> Shared -> Prop} (ho : s.heap.get? a = some (seqObj "list" vs.toArray n)) (lim : vs.length <= sizeLine) (hr : Runs prog w A vs { s with heap := Q7Y s.heap a vs } G)
  (h : ∀ st,G st -> ((arrOf st).map (·.2)).size <= sizeLine + 1 /\ P (.done (.ret .none)) { s with heap := sortedHeap s.heap a vs ((arrOf st).map (·.2)) }) : wpAny (model prog w) A (Builtin.«list.sort» ⟨[.ref a],[]⟩) P E s := by
 obtain ⟨m,g1,g2⟩ := Z3B ho
 rw [list_sort_plain]
 refine wpAny_bind (listItems_at ho rfl (wpAny_bind (listUpdate_at ho rfl ?_ (by simpa using lim) (Nat.zero_le _))))
 refine wpAny_bind (seqEpoch_at g1 rfl (wpAny_bind (wpAny_newTuple (wpAny_bind (wpAny_newList (wpAny_holding ?_) (Nat.zero_le _))) lim)))
 refine Z9E (wpAny_bind (wpAny_mono (hr E) (λ κ s1 q1 => wpAny_bind (wpAny_mono q1 (λ r s2 q2 => ?_) λ _ _ e => e)) λ _ _ e => e))
 obtain ⟨⟨⟩,st⟩ := r
 obtain ⟨rfl,f0,gs⟩ := q2
 obtain ⟨z,q⟩ := h st gs
 refine wpAny_bind (seqEpoch_at g2 rfl (wpAny_bind (listUpdate_at g2 rfl ?_ (Nat.zero_le _) z)))
 dsimp only at f0
 rw [f0,bne_self_eq_false]
 exact wpAny_pure q
def Cmp (prog : Program) (w : World) (A : Around) (vs : List Value) (key : Nat -> Int) (s : Shared) : Prop :=
 ∃ κ,(∀ (E : Value -> Shared -> Prop) (Q : SortKind -> Shared -> Prop),Q κ s -> wpAny (model prog w) A (keyKind' vs.toArray) Q E s) /\ ∀ i j (C : Bool -> Shared -> Prop),i < vs.length -> j < vs.length -> C (decide (key i < key j)) s -> wpAny (model prog w) A (keyLt' κ (vs.getD i Value.none) (vs.getD j Value.none)) C (λ _ _ => False) s
def Z7U (vs : List Value) (key : Nat -> Int) (st : SortSt) : Prop := ∃ p : Array Nat,p.Perm (List.toArray (List.range vs.length)) /\ p.size = vs.length /\ Srt key p vs.length /\ (arrOf st).map (·.2) = List.toArray (Q6t p vs)
theorem Z7b {vs : List Value} {key : Nat -> Int} (h : vs.length < 2) : Runs prog w A vs s (Z7U vs key) := λ E => by
 have c : vs.toArray.size < 2 := by simpa using h
 simp only [if_pos c]
 refine wpAny_pure (wpAny_pure ⟨rfl,rfl,List.toArray (List.range vs.length),Array.Perm.refl _,by simp,λ i j hij hj => ?_,?_⟩)
 ·rw [show i = j by omega]
  exact Int.le_refl _
 ·show (vs.toArray.zip vs.toArray).map (·.2) = _
  match vs,h with
  | [],_ => simp [Q6t]
  | [v],_ => simp [Q6t]
theorem Z4J {vs : List Value} {key : Nat -> Int} (h : 2 <= vs.length) (h64 : vs.length < 64) (cm : Cmp prog w A vs key s) : Runs prog w A vs s (Z7U vs key) := λ E => by
 have c : ¬ vs.toArray.size < 2 := by simpa using h
 simp only [if_neg c]
 obtain ⟨κ,kd,cm⟩ := cm
 obtain ⟨p,ep,g1,g2,g3⟩ := Z8S key (n := vs.length) wF
 refine kd _ _ (kat_run (ks := vs) (Q := λ st s2 => s2 = s /\ failedOf st = none /\ Z7U vs key st) (G := λ q s2 => s2 = s /\ q = p) rfl h h64 (λ q st s2 _ a2 a3 a4 => ⟨a4.1,a3,p,g1,g2,g3,?_⟩) (Z8u (n := vs.length) (lt := ltK key) cm _ (Z8T wF) λ _ => ⟨rfl,ep⟩))
 rw [a4.2] at a2
 exact kat_snds (ks := vs) (vs := vs) rfl a2
theorem Z6W {a : Addr} {vs : List Value} {n : Nat} {key : Nat -> Int} {P : PySem.Fin -> Shared -> Prop} (ho : s.heap.get? a = some (seqObj "list" vs.toArray n)) (h64 : vs.length < 64)
  (hk : 2 <= vs.length -> Cmp prog w A vs key { s with heap := Q7Y s.heap a vs })
  (h : ∀ p : Array Nat,p.Perm (List.toArray (List.range vs.length)) -> p.size = vs.length -> Srt key p vs.length -> P (.done (.ret .none)) { s with heap := sortedHeap s.heap a vs (List.toArray (Q6t p vs)) }) : wpAny (model prog w) A (Builtin.«list.sort» ⟨[.ref a],[]⟩) P E s := by
 have lim : vs.length <= sizeLine := by rw [sizeLine_eq]; omega
 refine Z2U (G := Z7U vs key) ho lim ?_ λ st ⟨p,p1,p2,p3,e⟩ => ?_
 ·by_cases c : vs.length < 2
  ·exact Z7b c
  ·exact Z4J wF h64 (hk wF)
 ·rw [e]
  exact ⟨by simp [Q6t]; omega,h p p1 p2 p3⟩
theorem Z1A {x : Value} {Q : Value -> Shared -> Prop}
  (hc : wpAny (model prog w) A.in1 (collect x) (λ vs s1 => ∃ key,vs.length < 64 /\ (2 <= vs.length -> Cmp prog w A.in1.in1 vs key { s1 with heap := Q7Y (s1.heap.push (seqObj "list" vs.toArray 0)) s1.heap.objs.size vs }) /\
   ∀ p : Array Nat,p.Perm (List.toArray (List.range vs.length)) -> p.size = vs.length -> Srt key p vs.length -> Q (.ref s1.heap.objs.size) { s1 with heap := sortedHeap (s1.heap.push (seqObj "list" vs.toArray 0)) s1.heap.objs.size vs (List.toArray (Q6t p vs)) }) E s) : wpAny (model prog w) A (call (.builtin "sorted") [x]) Q E s := by
 have body : wpAny (model prog w) A.in1 (Builtin.«sorted» ⟨[x],[]⟩) (λ fin s' => ∃ v,fin = .done (.ret v) /\ Q v s') E s := by
  refine wpAny_bind (m := checkCount "sorted" 1 1 _) (wpAny_pure (wpAny_bind (thn hc λ vs s1 ⟨key,h64,hk,hq⟩ => wpAny_bind (wpAny_newList (wpAny_bind (wpAny_holding ?_)) (by rw [sizeLine_eq]; omega)))))
  have own : (s1.heap.push (seqObj "list" vs.toArray 0)).get? s1.heap.objs.size = some (seqObj "list" vs.toArray 0) := Heap.get?_push_size _ rfl
  exact wpAny_call_entry slot_list_sort ⟨_,own,rfl⟩ entry_list_sort (Z6W (s := { s1 with heap := s1.heap.push (seqObj "list" vs.toArray 0) }) own h64 hk λ p p1 p2 p3 => ⟨_,rfl,wpAny_pure ⟨_,rfl,hq p p1 p2 p3⟩⟩) (args_list_sort _)
 exact Calls.call_function_entry kind_sorted plain_sorted entry_sorted (args_sorted1 _) body
end
theorem Q3X {prog : Program} {w : World} {A : Around} {s : Shared} {id : String} {b : Builtin} {args : Args} {R : Result -> Shared -> Prop} (pl : plainId id = true) (en : entryFor table id = some b)
  (h : wpAny (model prog w) A.in1 (b args) (λ fin s' => match fin with | .done f => R (.ok f) s' | .again c => c.quiet = true /\ codeAny (model prog w) A c R s') (λ e s' => R (.error e) s') s) : codeAny (model prog w) A (.builtin id args) R s :=
 codeAny_builtin en (by rw [Around.under_plainId pl]; exact h)
abbrev lsC (its : List Value) (c : Nat) : Obj := { cls := .type "list",dict := none,data := .seq its.toArray c,slots := #[] }
theorem Z3M {M : Model} {A : Around} {E : Value -> Shared -> Prop} {s : Shared} {α : Type} {t : Sem α} {Q : α -> Shared -> Prop} {F : Shared -> Prop} {u : Sem Unit} (hu : u = pure ()) (h : wpAny M A u (λ _ s2 => F s2) E s) (k : ∀ s2,F s2 -> wpAny M A t Q E s2) : wpAny M A t Q E s := by
 subst hu
 have := wpAny_bind (f := λ _ => t) (wpAny_mono h (λ _ s2 q => k s2 q) λ _ _ e => e)
 simpa using this
theorem Z8x {X : Cx} {pins : List (Addr × Obj)} {H : Hp} {b S : Addr} {o : Obj} (h : FpOk X pins H b) (hb : S ≠ b) : FpOk X ((S,o) :: pins) H b := by
 obtain ⟨f0,f1,f2,f3,f4,f5⟩ := h
 refine ⟨f0,f1,f2,f3,f4,λ p hp => ?_⟩
 simp only [List.mem_append,List.mem_cons] at hp
 rcases hp with q | rfl | q
 ·exact f5 p (List.mem_append_left _ q)
 ·exact hb
 ·exact f5 p (List.mem_append_right _ q)
theorem Z0C {X : Cx} {pins : List (Addr × Obj)} {σ : L2.St} {H : Hp} {s : Shared} {q : Addr × Obj} (I : L2.Inv X (q :: pins) σ H s) : L2.Inv X pins σ H s := I.pins_of λ p hp => I.pin p (List.mem_append_right _ (List.mem_cons_of_mem _ hp))
structure Got (X : Cx) (pins : List (Addr × Obj)) (σ : L2.St) (O : Sto) (G1 : Wd) (xs : List D) (S : Addr) (i : Nat) (s : Shared) (H : Hp) (G : Wd) (vs : List V) (its : List Value) (c : Nat) : Prop where
 inv : L2.Inv X ((S,lsC its c) :: pins) σ H s
 ext : Ext G1 G
 sa : SA X.K G H O
 iss : Iss X.K G (xs.take i) vs
 vals : Vals vs its
section
variable {X : Cx} {A : Around} {tg : Expr} {J : It} {fp : List Addr} {it : Addr} {tn : Nat -> Heap -> Prop} {pins : List (Addr × Obj)} {σ : L2.St} {O : Sto} {G1 : Wd} {xs : List D} {S : Addr} {res : Value} {R : Result -> Shared -> Prop}
theorem Got.more {i : Nat} {s s2 : Shared} {H H2 : Hp} {G G2 : Wd} {vs : List V} {its : List Value} {c : Nat} {x : D} {xv : V} {u : Value} (g : Got X pins σ O G1 xs S i s H G vs its c) (I2 : L2.Inv X ((S,lsC its c) :: pins) σ H2 s2) (hSs : X.s₀.heap.objs.size <= S) (hSC : ∀ x c,X.env.cells.lookup x = some c -> c ≠ S) (hSp : ∀ p ∈ X.pn ++ pins,p.1 ≠ S) (hx : xs[i]? = some x) (e2 : Ext G G2) (sa2 : SA X.K G2 H2 O) (ix : Is X.K G2 x xv) (r : RelV xv u) :
  Got X pins σ O G1 xs S (i + 1) { s2 with heap := s2.heap.update S (Obj.mapSeq (·.push u)) } H2 G2 (vs ++ [xv]) (its ++ [u]) (c + 1) := by
 have p := I2.pin (S,lsC its c) (List.mem_append_right _ List.mem_cons_self)
 have Iq : L2.Inv X pins σ H2 { s2 with heap := s2.heap.update S (Obj.mapSeq (·.push u)) } := (Z0C I2).turned (t' := s2.toks) (λ b o hb q => (Heap.get?_update_other _ _ (Ne.symm hb)).trans q) p.2.1 p.2.2.1 (.inr hSs) hSC hSp
 refine ⟨Iq.pins_of λ q hq => ?_,g.ext.trans e2,sa2,?_,g.vals.append (.cons r .nil)⟩
 ·rcases List.mem_cons.mp hq with rfl | hq
  ·refine ⟨?_,p.2.1,p.2.2.1,p.2.2.2.1,λ v z => by cases z⟩
   rw [Heap.get?_update_self _ p.1 rfl]
   simp [Obj.mapSeq,lsC]
  ·exact Iq.pin q (List.mem_append_right _ hq)
 ·rw [List.take_add_one,hx]
  exact (g.iss.ext e2).append (.cons ix .nil)
theorem Z2o (hA : X.A = A.in1) (hc : X.calm = true) (T : Turn X.prog X.w X.K tg J fp it tn) (hgo : ∀ v,letOwnedTupleGo tg (.ref it) v = pure ()) (Yi : Q2Y X.K G1 J xs) (hsz : xs.length <= sizeLine) (hSs : X.s₀.heap.objs.size <= S) (hSC : ∀ x c,X.env.cells.lookup x = some c -> c ≠ S) (hSp : ∀ p ∈ X.pn ++ pins,p.1 ≠ S)
  (fpS : ∀ (H : Hp),(∀ b ∈ fp,H b = none) -> ∀ b ∈ fp,FpOk X pins H b) (hSf : S ∉ fp)
  (fin : ∀ s H G vs its c,Got X pins σ O G1 xs S xs.length s H G vs its c -> R (.ok (.ret res)) s) :
  ∀ (k i : Nat) (s : Shared) (H : Hp) (G : Wd) (vs : List V) (its : List Value) (c : Nat),i + k = xs.length -> Got X pins σ O G1 xs S i s H G vs its c -> tn i s.heap -> (∀ b ∈ fp,H b = none) ->
   codeAny (model X.prog X.w) A (.builtin "list.extend.loop" ⟨[.ref S,.ref it,res],[]⟩) R s
 | 0,i,s,H,G,vs,its,c,hk,g,st,fr => by
  have hi : i = xs.length := by omega
  subst hi
  have fps : ∀ b ∈ fp,FpOk X ((S,lsC its c) :: pins) H b := λ b hb => Z8x (fpS H fr b hb) λ z => hSf (z ▸ hb)
  refine Q3X F.plain_extend_loop F.entry_extend_loop (hA ▸ wpAny_bind (thn (T.done X rfl rfl rfl hc xs.length _ s σ H _ g.inv fps st (Yi.stop _ H (g.ext.g.trans g.sa.sub) (Nat.le_refl _))) λ r s' ⟨hr,I'⟩ => ?_))
  subst hr
  exact wpAny_pure (fin s' H G vs its c ⟨I',g.ext,g.sa,g.iss,g.vals⟩)
 | k + 1,i,s,H,G,vs,its,c,hk,g,st,fr => by
  have hi : i < xs.length := by omega
  have fps : ∀ b ∈ fp,FpOk X ((S,lsC its c) :: pins) H b := λ b hb => Z8x (fpS H fr b hb) λ z => hSf (z ▸ hb)
  have hl : its.length = i := by
   rw [<- g.vals.length,<- g.iss.length,List.length_take]; omega
  refine Q3X F.plain_extend_loop F.entry_extend_loop (hA ▸ wpAny_bind (thn (T.item X rfl rfl rfl hc i _ s σ H _ g.inv fps st (Yi.go i H (g.ext.g.trans g.sa.sub) hi)) λ r s1 ⟨u,hr,h1⟩ => ?_))
  subst hr
  refine Z3M (hgo u) h1 λ s2 ⟨xv,H2,I2,r2,y2,st2,fr2⟩ => ?_
  obtain ⟨x,G2,hx,e2,sa2,ix⟩ := Yi.yld i xv H H2 G O g.ext g.sa y2 hi
  have p2 := I2.pin (S,lsC its c) (List.mem_append_right _ List.mem_cons_self)
  refine wpAny_bind (listUpdate_at p2.1 rfl (wpAny_pure ⟨plainId_quiet F.plain_extend_loop _,Z2o hA hc T hgo Yi hsz hSs hSC hSp fpS hSf fin k (i + 1) _ H2 G2 _ _ (c + 1) wF (g.more I2 hSs hSC hSp hx e2 sa2 ix r2) ?_ fr2⟩) (by simp; omega) (by simp; omega))
  exact T.keep _ _ _ st2 λ b hb o q => (Heap.get?_update_other _ _ (λ z => hSf (by rw [z]; exact hb))).trans q
end
theorem Z3V : typeLookup (.type "zip") "__len__" = pure none := by rw [typeLookup_type,builtinLookup_eq_fast]; kernel_rfl
theorem Z2K : typeLookup (.type "zip") "__length_hint__" = pure none := by rw [typeLookup_type,builtinLookup_eq_fast]; kernel_rfl
structure Z7V (T : String) : Prop where
 len : typeLookup (.type T) "__len__" = pure none
 hint : typeLookup (.type T) "__length_hint__" = pure none
 nl : (Value.type T == Value.type "list") = false
 nt : (Value.type T == Value.type "tuple") = false
theorem Z5i : Z7V "zip" := ⟨Z3V,Z2K,by decide,by decide⟩
theorem Q9g {prog : Program} {w : World} {A : Around} {s : Shared} {E : Value -> Shared -> Prop} {it : Addr} {Ty : String} {Q : List Value -> Shared -> Prop} (hN : Z7V Ty) (hT : s.TypeIs (.ref it) Ty)
  (hi : ∀ (h : Heap) (F : Value -> Shared -> Prop) (E' : Value -> Shared -> Prop),(∀ c o,s.heap.get? c = some o -> h.get? c = some o) -> F (.ref it) { s with heap := h } -> wpAny (model prog w) A.in1 (pyIter (.ref it)) F E' { s with heap := h })
  (k : ∀ (h : Heap) (c : Nat) (R : Result -> Shared -> Prop),(∀ b o,s.heap.get? b = some o -> h.get? b = some o) -> h.get? s.heap.objs.size = some (lsC [] c) -> (∀ s' its c',s'.heap.get? s.heap.objs.size = some (lsC its c') -> Q its s' -> R (.ok (.ret (.ref s.heap.objs.size))) s') ->
   codeAny (model prog w) A (.builtin "list.extend.loop" ⟨[.ref s.heap.objs.size,.ref it,.ref s.heap.objs.size],[]⟩) R { s with heap := h }) :
  wpAny (model prog w) A (collect (.ref it)) Q E s := by
 obtain ⟨h,g,d,tk,os⟩ := s
 obtain ⟨o,ho,hc⟩ := hT
 have lt : it < h.objs.size := Heap.lt_size ho
 have ne : h.objs.size ≠ it := Nat.ne_of_gt lt
 dsimp only at hi k
 wp_walk
 refine Q3X F.plain_proto_collect F.entry_proto_collect ?_
 wp_walk
 have up : ∀ b u,h.get? b = some u -> (h.push { cls := .type "list",data := .seq #[] }).get? b = some u := λ b u e => Heap.get?_push_of_some _ e
 have own : (h.push { cls := .type "list",data := .seq #[] }).get? h.objs.size = some { cls := .type "list",data := .seq #[] } := Heap.get?_push_size _ rfl
 have ty : Shared.TypeIs ⟨h.push { cls := .type "list",data := .seq #[] },g,d,tk,os⟩ (.ref it) Ty := ⟨o,up _ _ ho,hc⟩
 have len := hN.len
 have hint := hN.hint
 have nl := hN.nl
 have nt := hN.nt
 refine ⟨plainId_quiet F.plain_list_iadd _,Q3X F.plain_list_iadd F.entry_list_iadd ?_⟩
 have sr : Builtin.List.listSameRef (.ref h.objs.size) (.ref it) = false := beq_eq_false_iff_ne.mpr ne
 wp_walk using hi _ _ _ up
 have g1 := Heap.get?_update_self (Obj.mapSeq λ x => x.push Value.none) own rfl
 refine ⟨plainId_quiet F.plain_extend_loop _,k _ _ _ (λ b u e => ?_) (Heap.get?_update_self (Obj.mapSeq λ x => x.pop) g1 rfl) λ s' its c' e q => wpAny_bind (wpAny_load e (wpAny_pure q))⟩
 have nb : h.objs.size ≠ b := λ z => Nat.lt_irrefl _ (z ▸ Heap.lt_size e)
 rw [Heap.get?_update_other _ _ nb,Heap.get?_update_other _ _ nb]
 exact up b u e
theorem Z0m {X : Cx} {A : Around} {tg : Expr} {J : It} {fp : List Addr} {it : Addr} {tn : Nat -> Heap -> Prop} {pins : List (Addr × Obj)} {σ : L2.St} {O : Sto} {G1 : Wd} {xs : List D} {s : Shared} {H : Hp} {E : Value -> Shared -> Prop} {Ty : String} {Q : List Value -> Shared -> Prop}
  (hA : X.A = A.in1) (hc : X.calm = true) (T : Turn X.prog X.w X.K tg J fp it tn) (hgo : ∀ v,letOwnedTupleGo tg (.ref it) v = pure ()) (Yi : Q2Y X.K G1 J xs) (hsz : xs.length <= sizeLine) (hN : Z7V Ty) (hT : s.TypeIs (.ref it) Ty) (I : L2.Inv X pins σ H s) (st : tn 0 s.heap) (f : ∀ b ∈ fp,FpOk X pins H b) (sa : SA X.K G1 H O)
  (hQ : ∀ (s' : Shared) (H' : Hp) (G' : Wd) (vs : List V) (its : List Value),L2.Inv X pins σ H' s' -> Ext G1 G' -> SA X.K G' H' O -> Iss X.K G' xs vs -> Vals vs its -> Q its s') : wpAny (model X.prog X.w) A (collect (.ref it)) Q E s := by
 have out : s.heap.objs.size ∉ fp := λ m => let ⟨o,e,_⟩ := T.obj 0 _ st _ m; Nat.lt_irrefl _ (Heap.lt_size e)
 obtain ⟨g0,g1,g2,g3,g4,g5⟩ : FpOk X pins H s.heap.objs.size := I.fpOk (Nat.le_refl _) (I.hok.fresh (Nat.le_refl _))
 refine Q9g hN hT (λ h F E' up q => T.self A.in1 0 _ _ _ (T.keep 0 _ _ st λ b _ o e => up b o e) q) λ h c R up own kr => ?_
 have I3 : L2.Inv X pins σ H { s with heap := h,toks := s.toks } := I.kept up
 refine Z2o hA hc T hgo Yi hsz I.sz g4 g5 (λ H' fr b hb => ⟨fr b hb,(f b hb).2⟩) out (λ s' H' G' vs its c' g => ?_) xs.length 0 _ H G1 [] [] c wF ⟨I3.pins_of λ p hp => ?_,Ext.refl _,sa,.nil,.nil⟩ (T.keep 0 _ _ st λ b _ o e => up b o e) λ b hb => (f b hb).1
 ·exact kr s' its c' (g.inv.pin (_,lsC its c') (List.mem_append_right _ List.mem_cons_self)).1 (hQ s' H' G' vs its (Z0C g.inv) g.ext g.sa (by have := g.iss; rwa [List.take_length] at this) g.vals)
 ·rcases List.mem_cons.mp hp with rfl | q
  ·exact ⟨own,g0,g1,g2,λ v z => by cases z⟩
  ·exact I3.pin p (List.mem_append_right _ q)
structure Ord {α : Type} (lt : α -> α -> Bool) : Prop where
 irr : ∀ a,lt a a = false
 tr : ∀ a b c,lt a b = true -> lt b c = true -> lt a c = true
 tot : ∀ a b,lt a b = false -> lt b a = false -> a = b
def srt {α : Type} (lt : α -> α -> Bool) (l : List α) : List α := l.mergeSort λ a b => !lt b a
theorem Q5u {α : Type} (lt : α -> α -> Bool) (l : List α) : (srt lt l).Perm l := List.mergeSort_perm _ _
theorem Ord.trle {α : Type} {lt : α -> α -> Bool} (o : Ord lt) : ∀ a b c : α,(!lt b a) = true -> (!lt c b) = true -> (!lt c a) = true := λ a b c h1 h2 => by
 have h1 : lt b a = false := by simpa using h1
 have h2 : lt c b = false := by simpa using h2
 cases h : lt c a with
 | false => rfl
 | true =>
  cases h3 : lt a b with
  | true => rw [o.tr _ _ _ h h3] at h2; cases h2
  | false => rw [o.tot _ _ h3 h1] at h; rw [h] at h2; cases h2
theorem Ord.totle {α : Type} {lt : α -> α -> Bool} (o : Ord lt) : ∀ a b : α,((!lt b a) || (!lt a b)) = true := λ a b => by
 cases h : lt b a with
 | false => rfl
 | true =>
  cases h2 : lt a b with
  | false => rfl
  | true => have := o.tr _ _ _ h h2; rw [o.irr] at this; cases this
theorem Z8k {α : Type} {lt : α -> α -> Bool} (o : Ord lt) (l : List α) : (srt lt l).Pairwise λ a b => (!lt b a) = true := List.pairwise_mergeSort o.trle o.totle l
theorem Z6S {α : Type} {lt : α -> α -> Bool} (o : Ord lt) {l q : List α} (h1 : q.Perm l) (h2 : q.Pairwise λ a b => (!lt b a) = true) : q = srt lt l :=
 List.Perm.eq_of_pairwise (λ a b _ _ x y => o.tot a b (by simpa using y) (by simpa using x)) h2 (Z8k o l) (h1.trans (Q5u lt l).symm)
theorem Y0N {p : Array Nat} {n : Nat} (g : p.Perm (List.toArray (List.range n))) : ∀ i ∈ p.toList,i < n := λ i hi => by
 have : i ∈ List.toArray (List.range n) := g.mem_iff.mp (Array.mem_toList_iff.mp hi)
 simpa using this
theorem Y0O {α : Type} [Inhabited α] {p : Array Nat} {ps : List α} (g : p.Perm (List.toArray (List.range ps.length))) : (p.toList.map λ i => ps.getD i default).Perm ps := by
 have e : (List.range ps.length).map (λ i => ps.getD i default) = ps := by
  apply List.ext_getElem
  ·simp
  ·intro i h1 h2
   simp
   rw [List.getElem?_eq_getElem h2]
   rfl
 have q : p.toList.Perm (List.range ps.length) := by
  have := Array.perm_iff_toList_perm.mp g
  simpa using this
 have := q.map λ i => ps.getD i default
 rw [e] at this
 exact this
theorem Z2T {α : Type} [Inhabited α] {lt : α -> α -> Bool} (o : Ord lt) {K : PySem.W.Frag} {G : Wd} {ps : List α} {f : α -> D} {vs : List V} {its : List Value} {key : Nat -> Int} (hkey : ∀ i,i < ps.length -> key i = Q4n lt ps (ps.getD i default)) (is : Iss K G (ps.map f) vs) (va : Vals vs its)
  {p : Array Nat} (g1 : p.Perm (List.toArray (List.range ps.length))) (g2 : p.size = ps.length) (g3 : Srt key p ps.length) : ∃ us,Vals us (Q6t p its) /\ Iss K G ((srt lt ps).map f) us /\ us.length = ps.length := by
 have hb := Y0N g1
 have e1 := is.length
 have e2 := va.length
 rw [List.length_map] at e1
 refine ⟨p.toList.map λ i => vs.getD i .non,?_,?_,by simp [g2]⟩
 ·unfold Q6t
  have : ∀ l : List Nat,(∀ i ∈ l,i < ps.length) -> Vals (l.map λ i => vs.getD i .non) (l.map λ i => its.getD i Value.none) := λ l => by
   induction l with
   | nil => intro _; exact .nil
   | cons a l ih =>
    intro h
    have ha := h a List.mem_cons_self
    obtain ⟨u,hu,ru⟩ := va.get (i := a) (x := vs[a]'wF) (by simp)
    refine .cons ?_ (ih λ i hi => h i (List.mem_cons_of_mem _ hi))
    dsimp only
    rw [List.getD_eq_getElem?_getD,List.getD_eq_getElem?_getD,List.getElem?_eq_getElem (show a < vs.length by omega),hu]
    exact ru
  exact this _ hb
 ·rw [<- Z6S o (Y0O g1) ?_]
  ·have : ∀ l : List Nat,(∀ i ∈ l,i < ps.length) -> Iss K G ((l.map λ i => ps.getD i default).map f) (l.map λ i => vs.getD i .non) := λ l => by
    induction l with
    | nil => intro _; exact .nil
    | cons a l ih =>
     intro h
     have ha := h a List.mem_cons_self
     obtain ⟨v,hv,iv⟩ := is.get (i := a) (d := f ps[a]) (by simp [ha])
     refine .cons ?_ (ih λ i hi => h i (List.mem_cons_of_mem _ hi))
     dsimp only
     rw [List.getD_eq_getElem?_getD,List.getD_eq_getElem?_getD,List.getElem?_eq_getElem ha,hv]
     exact iv
   exact this _ hb
  ·rw [List.pairwise_iff_getElem]
   intro i j hi hj hij
   rw [List.length_map,Array.length_toList] at hi hj
   have kq : ∀ i (h : i < p.size),KQ key p i = Q4n lt ps (ps.getD p[i] default) := λ i h => by
    unfold KQ
    rw [Q2P,Array.getElem?_eq_getElem h,Option.getD_some]
    exact hkey _ (hb _ (Array.mem_toList_iff.mpr (Array.getElem_mem h)))
   have k := g3 i j (Nat.le_of_lt hij) wF
   rw [kq i hi,kq j hj] at k
   rw [List.getElem_map,List.getElem_map,Array.getElem_toList,Array.getElem_toList]
   have mem : ∀ i (h : i < p.size),ps.getD p[i] default ∈ ps := λ i h => by
    have := hb _ (Array.mem_toList_iff.mpr (Array.getElem_mem h))
    rw [List.getD_eq_getElem?_getD,List.getElem?_eq_getElem this]
    exact List.getElem_mem _
   have := Z2c o.irr o.tr o.tot (mem j hj) (mem i hi)
   rw [<- this]
   simp only [Bool.not_eq_true',decide_eq_false_iff_not]
   omega
def ltP (a b : Int × Int) : Bool := decide (a.1 < b.1 \/ (a.1 = b.1 /\ a.2 < b.2))
theorem ordP : Ord ltP := ⟨λ a => by simp [ltP],λ a b c h1 h2 => by simp [ltP] at *; omega,λ a b h1 h2 => by
 simp [ltP] at *
 obtain ⟨a1,a2⟩ := a; obtain ⟨b1,b2⟩ := b
 simp at *
 omega⟩
abbrev pD (p : Int × Int) : D := .tup [.int p.1,.int p.2]
def CmpD {α : Type} [Inhabited α] (X : Cx) (lt : α -> α -> Bool) (f : α -> D) : Prop :=
 ∀ (A : Around) (G : Wd) (H : Hp) (pins : List (Addr × Obj)) (σ : L2.St) (s : Shared) (s' : Shared) (O : Sto) (ps : List α) (vs : List V) (its : List Value),L2.Inv X pins σ H s -> SA X.K G H O -> Iss X.K G (ps.map f) vs -> Vals vs its -> 2 <= ps.length -> (∀ b o,s.heap.get? b = some o -> s'.heap.get? b = some o) ->
  Cmp X.prog X.w A its (λ i => Q4n lt ps (ps.getD i default)) s'
theorem Z5B {α : Type} {l : List α} {i : Nat} (h : i < l.length) (d : α) : l.getD i d = l[i] := by rw [List.getD_eq_getElem?_getD,List.getElem?_eq_getElem h]; rfl
theorem Z8D {α : Type} {l : List α} {i : Nat} (h : i < l.length) (d : α) : l.getD i d ∈ l := by rw [Z5B h]; exact List.getElem_mem _
theorem cmpP {X : Cx} : CmpD X ltP pD := λ A G H pins σ s s' O ps vs its I sa is va h2 up => by
 have e1 := is.length
 have e2 := va.length
 rw [List.length_map] at e1
 have at' : ∀ i,i < ps.length -> ∃ a t u,its.getD i Value.none = .ref a /\ ∃ o n,s'.heap.get? a = some o /\ o.cls = .type "tuple" /\ o.data = .seq #[.int (ps.getD i default).1 t,.int (ps.getD i default).2 u] n := λ i hi => by
  obtain ⟨v,hv,iv⟩ := is.get (i := i) (d := pD ps[i]) (by simp [hi])
  obtain ⟨w,hw,rw'⟩ := va.get hv
  cases iv with
  | tup h r =>
  cases r with | cons j1 r => cases r with | cons j2 r =>
  cases r
  cases j1
  cases j2
  cases rw'
  obtain ⟨its2,v2,⟨o,g1,g2,n,g3⟩,_⟩ := I.tuple (Q0V sa.sub h)
  obtain ⟨u1,u2,rfl,q1,q2⟩ := Z0H v2
  obtain ⟨t,rfl⟩ := q1
  obtain ⟨t',rfl⟩ := q2
  refine ⟨_,t,t',by rw [List.getD_eq_getElem?_getD,hw]; rfl,o,n,up _ _ g1,g2,?_⟩
  rw [Z5B hi]
  exact g3
 refine ⟨tuples' (Value.type "int" != Value.type "tuple"),λ E Q hq => ?_,λ i j C hi hj hC => ?_⟩
 ·have tp : ∀ (l : List Nat),(∀ i ∈ l,i < ps.length) -> ∃ fs,KatTups s'.heap (l.map λ i => its.getD i Value.none) fs /\ fs.length = l.length /\ ∀ f ∈ fs,∃ k t,f = Value.int k t := λ l => by
   induction l with
   | nil => intro _; exact ⟨[],.nil,rfl,λ f h => by cases h⟩
   | cons a l ih =>
    intro h
    obtain ⟨fs,f1,f2,f3⟩ := ih λ i hi => h i (List.mem_cons_of_mem _ hi)
    obtain ⟨b,t,u,e,o,n,g1,g2,g3⟩ := at' a (h a List.mem_cons_self)
    refine ⟨.int (ps.getD a default).1 t :: fs,?_,by simp [f2],λ f hf => ?_⟩
    ·show KatTups s'.heap (its.getD a Value.none :: _) _
     rw [e]
     exact .cons g1 g2 g3 rfl f1
    ·rcases List.mem_cons.mp hf with q | q
     ·exact ⟨_,_,q⟩
     ·exact f3 f q
  obtain ⟨fs,f1,f2,f3⟩ := tp (List.range ps.length) λ i hi => List.mem_range.mp hi
  have ei : ((List.range ps.length).map λ i => its.getD i Value.none) = its := by
   apply List.ext_getElem
   ·simp; omega
   ·intro i h1 h3
    simp
    rw [List.getElem?_eq_getElem h3]; rfl
  rw [ei] at f1
  refine kat_kind f1 (by rw [f2,List.length_range]; omega) (λ f hf => ?_) wE hq
  obtain ⟨k,t,rfl⟩ := f3 f hf
  exact .now
 ·obtain ⟨a,t,u,ea,oa,na,a1,a2,a3⟩ := at' i wF
  obtain ⟨b,t',u',eb,ob,nb,b1,b2,b3⟩ := at' j wF
  have hr := Z2c ordP.irr ordP.tr ordP.tot (Z8D (show i < ps.length by omega) default) (Z8D (show j < ps.length by omega) default)
  rw [hr] at hC
  rw [ea,eb]
  generalize ps.getD i default = x at hC a3
  generalize ps.getD j default = y at hC b3
  refine kat_lt a1 a3 b1 b3 ?_
  show KatLex _ _ _ _ _ _ [(Value.int x.1 t,Value.int y.1 t'),(Value.int x.2 u,Value.int y.2 u')] 0 s'
  refine kat_cons (wpAny_eqBool_int ?_)
  by_cases h1 : x.1 = y.1
  ·rw [show (x.1 == y.1) = true by simpa using h1]
   refine kat_yes (kat_cons (wpAny_eqBool_int ?_))
   by_cases h2 : x.2 = y.2
   ·rw [show (x.2 == y.2) = true by simpa using h2]
    refine kat_yes (kat_nil ?_)
    have : ltP x y = false := by unfold ltP; exact decide_eq_false wF
    rw [this] at hC
    exact hC
   ·rw [show (x.2 == y.2) = false by simpa using h2]
    refine kat_no (kat_one _ _ (lt_int ?_))
    have : ltP x y = decide (x.2 < y.2) := by unfold ltP; exact decide_eq_decide.mpr wF
    rw [this] at hC
    exact hC
  ·rw [show (x.1 == y.1) = false by simpa using h1]
   refine kat_no ?_
   have e : ((Value.type "int" != Value.type "tuple") && (0 : Nat) == 0) = true := by decide
   rw [e]
   refine oneLt_int ?_
   have : ltP x y = decide (x.1 < y.1) := by unfold ltP; exact decide_eq_decide.mpr wF
   rw [this] at hC
   exact hC
section
variable {X : Cx} {ρ : Rho} {O : Sto} {e a b c : Expr} {es : List Expr} {d da db : D} {ds : List D} {R : D -> Sto -> Prop} {pos p : Pos} {x : Str} {xs ys : List D} {α : Type} [Inhabited α] {lt : α -> α -> Bool} {f : α -> D} {ps : List α}
theorem Z0T (o : Ord lt) (cm : CmpD X lt f) {pins : List (Addr × Obj)} {σ : L2.St} {s1 : Shared} {H1 : Hp} {G1 : Wd} {vs : List V} {its : List Value} {Q : VK} (I : L2.Inv X pins σ H1 s1) (sa : SA X.K G1 H1 O) (is : Iss X.K G1 (ps.map f) vs) (va : Vals vs its) (h64 : ps.length < 64)
  (hq : ∀ v G' H',Ext G1 G' -> SA X.K G' H' O -> Is X.K G' (.lst ((srt lt ps).map f)) v -> Q v H') :
  ∃ key,its.length < 64 /\ (2 <= its.length -> Cmp X.prog X.w X.A.in1.in1 its key { s1 with heap := Q7Y (s1.heap.push (seqObj "list" its.toArray 0)) s1.heap.objs.size its }) /\
   ∀ p : Array Nat,p.Perm (List.toArray (List.range its.length)) -> p.size = its.length -> Srt key p its.length -> EP X pins σ Q (.ref s1.heap.objs.size) { s1 with heap := sortedHeap (s1.heap.push (seqObj "list" its.toArray 0)) s1.heap.objs.size its (List.toArray (Q6t p its)) } := by
 have e1 := is.length
 have e2 := va.length
 rw [List.length_map] at e1
 have el : its.length = ps.length := by omega
 refine ⟨λ i => Q4n lt ps (ps.getD i default),by omega,λ h2 => ?_,λ p p1 p2 p3 => ?_⟩
 ·refine cm _ G1 H1 pins σ s1 _ O ps vs its I sa is va wF λ b ob q => ?_
  exact Z3C (Nat.ne_of_lt (Heap.lt_size q)) (Heap.get?_push_of_some _ q)
 ·rw [el] at p1 p2 p3
  obtain ⟨us,u1,u2,u3⟩ := Z2T o (λ i _ => rfl) is va p1 p2 p3
  obtain ⟨ec,hD⟩ := sortedHeap_at (h := s1.heap.push (seqObj "list" its.toArray 0)) (a := s1.heap.objs.size) (vs := its) (n := 0) (out := List.toArray (Q6t p its)) (Heap.get?_push_size _ rfl)
  have fr : H1 s1.heap.objs.size = none := I.hok.fresh (Nat.le_refl _)
  obtain ⟨e3,s3⟩ := sa.laid (o := .lst us) fr
  refine ⟨.ref s1.heap.objs.size,upd H1 s1.heap.objs.size (.lst us),?_,rfl,hq _ _ _ e3 s3 (.lst Q0u (u2.ext e3))⟩
  refine I.laid (t' := s1.toks) (λ b u q => ?_) (Nat.le_refl _) ⟨by rw [u3,sizeLine_eq]; omega,Q6t p its,ec,u1,hD⟩
  have hb : b < s1.heap.objs.size := Heap.lt_size q
  rw [sortedHeap_old (Nat.ne_of_lt hb) (by rw [Heap.size_push]; exact Nat.lt_succ_of_lt hb)]
  exact Heap.get?_push_of_some _ q
theorem Z3F (o : Ord lt) (cm : ∀ Y,CmpD Y lt f) {Ty : String} (hN : Z7V Ty) (hz : EvZ X ρ O e (ps.map f) Ty) (h64 : ps.length < 64) (hm : X.mg "sorted" = none) (hc : X.calm = true := by rfl) (hg : Gl X "sorted" := by rfl) (hs : starEach [e] X.env = [(false,eval e X.env)] := by rfl) :
  EvP X ρ O (.Call (.Name "sorted" p) [e] [] pos) (.lst ((srt lt ps).map f)) := λ G pins s σ H Q I ⟨h1,h2,h3⟩ => by
 refine wpAny_Call_Name_kw (Q5b I hg hm boot_sorted ?_)
 refine PyProof.Rows.callWith_builtin1 ?_ (by rw [hs]; rfl) rfl
 rw [hs]
 show wpAny _ _ (spliced ((false,eval e X.env) :: backTo pos [])) _ _ s
 refine Calls.spliced_cons (thn (hz G (.Name "" pos) pins s σ H (λ J H1 => ∃ G1,Ext G G1 /\ SA X.K G1 H1 O /\ Q2Y X.K G1 J (ps.map f)) I h1 h2 λ J G' H' q1 q2 q3 => ⟨G',q1,q2,q3⟩) λ v s1 ⟨⟨it,fp,tn,J,H1,hv,I1,T,st,fo,G1,e1,sa1,Yi⟩,hT⟩ => Calls.spliced_nil ?_)
 subst hv
 refine Z1A (Z0m (X := Cx.wA X X.A.in1.in1) (A := X.A.in1) rfl hc T (λ v => rfl) Yi (by rw [List.length_map,sizeLine_eq]; omega) hN hT (Inv_A I1 rfl rfl) st fo sa1 λ s' H' G' vs its I' e' sa' is' va' => ?_)
 exact Z0T o (cm X) (Y0k I' I.ok) sa' is' va' h64 λ v G'' H'' q1 q2 q3 => h3 v G'' H'' (e1.trans (e'.trans q1)) q2 q3
end
mutual
def toPy : D -> PyData
 | .non => .none | .bl b => .bool b | .int i => .int i | .str x => .str x | .tup xs => .tuple (Q5L xs) | .lst xs => .list (Q5L xs) | .scr xs => .list (Q5L xs) | .ptr _ => .none | .ty _ => .none | .fn _ => .none | .dct _ _ => .none
def Q5L : List D -> List PyData
 | [] => []
 | x :: xs => toPy x :: Q5L xs
end
mutual
def plD : D -> Bool
 | .non => true | .bl _ => true | .int _ => true | .str x => PyData.strOk x | .tup xs => plDs xs | .lst xs => plDs xs | .scr xs => plDs xs | .ptr _ => false | .ty _ => false | .fn _ => false | .dct _ _ => false
def plDs : List D -> Bool
 | [] => true
 | x :: xs => plD x && plDs xs
end
mutual
def dpD : D -> Nat
 | .tup xs => dpDs xs + 1 | .lst xs => dpDs xs + 1 | .scr xs => dpDs xs + 1 | .non => 0 | .bl _ => 0 | .int _ => 0 | .str _ => 0 | .ptr _ => 0 | .ty _ => 0 | .fn _ => 0 | .dct _ _ => 0
def dpDs : List D -> Nat
 | [] => 0
 | x :: xs => max (dpD x) (dpDs xs)
end
def eqD (a b : D) : Bool := PyData.eqv (toPy a) (toPy b)
def eqDs (a b : List D) : Bool := PyData.eqvAll (Q5L a) (Q5L b)
mutual
theorem Z9Y : ∀ d : D,(toPy d).depth = dpD d
 | .non => rfl | .bl _ => rfl | .int _ => rfl | .str _ => rfl | .ptr _ => rfl | .ty _ => rfl | .fn _ => rfl | .dct _ _ => rfl
 | .tup xs => by simp only [toPy,PyData.depth,dpD]; rw [Z2B xs]
 | .lst xs => by simp only [toPy,PyData.depth,dpD]; rw [Z2B xs]
 | .scr xs => by simp only [toPy,PyData.depth,dpD]; rw [Z2B xs]
theorem Z2B : ∀ xs : List D,PyData.depthAll (Q5L xs) = dpDs xs
 | [] => rfl
 | x :: xs => by simp only [Q5L,PyData.depthAll,dpDs]; rw [Z9Y x,Z2B xs]
end
mutual
theorem Z4T : ∀ d : D,plD d = true -> (toPy d).canLay0 = true
 | .non,_ => rfl | .bl _,_ => rfl | .int _,_ => rfl | .str x,h => by simp only [plD] at h; simp only [toPy,PyData.canLay0]; exact h | .ptr _,h => nomatch h | .ty _,h => nomatch h | .fn _,h => nomatch h | .dct _ _,h => nomatch h
 | .tup xs,h => Q8K xs h
 | .lst xs,h => Q8K xs h
 | .scr xs,h => Q8K xs h
theorem Q8K : ∀ xs : List D,plDs xs = true -> PyData.canLayAll0 (Q5L xs) = true
 | [],_ => rfl
 | x :: xs,h => by
  have h : (plD x && plDs xs) = true := h
  rw [Bool.and_eq_true] at h
  show (PyData.canLay0 (toPy x) && PyData.canLayAll0 (Q5L xs)) = true
  rw [Z4T x h.1,Q8K xs h.2]; rfl
end
section
variable {X : Cx} {pins : List (Addr × Obj)} {σ : L2.St} {H : Hp} {s : Shared} {G : Wd}
mutual
theorem Y0D (I : L2.Inv X pins σ H s) (sub : Same G.g H) : ∀ {d : D} {v : V} {u : Value},Is X.K G d v -> RelV v u -> plD d = true -> ∃ as,Reads s.heap u (toPy d) as
 | _,_,_,.non,r,_ => by cases r; exact ⟨[],.none⟩
 | _,_,_,.bl b,r,_ => by cases r; exact ⟨[],.bool b⟩
 | _,_,_,.int i,r,_ => by obtain ⟨t,rfl⟩ := r; exact ⟨[],.int i t⟩
 | _,_,_,.str x,r,_ => by obtain ⟨t,rfl⟩ := r; exact ⟨[],.str x t⟩
 | _,_,_,.tup h q,r,p => by
  cases r
  obtain ⟨its,va,⟨o,g1,g2,n,g3⟩,_⟩ := I.tuple (Q0V sub h)
  obtain ⟨as,ra⟩ := Q9P I sub q va p
  exact ⟨as,.tuple g1 g2 g3 (by simpa using ra)⟩
 | _,_,_,.lst h q,r,p => by
  cases r
  obtain ⟨its,va,pl,_⟩ := I.list (SqL.of (sub _ _ h))
  obtain ⟨o,g1,g2,n,g3⟩ := pl.isList
  obtain ⟨as,ra⟩ := Q9P I sub q va p
  exact ⟨_,.list g1 g2 g3 (by simpa using ra)⟩
 | _,_,_,.scr h q,r,p => by
  cases r
  obtain ⟨its,va,pl,_⟩ := I.list (sub.seq h)
  obtain ⟨o,g1,g2,n,g3⟩ := pl.isList
  obtain ⟨as,ra⟩ := Q9P I sub q va p
  exact ⟨_,.list g1 g2 g3 (by simpa using ra)⟩
 | _,_,_,.ptr _ _,_,p => by simp [plD] at p
 | _,_,_,.ty _,_,p => by simp [plD] at p
 | _,_,_,.fn _,_,p => by simp [plD] at p
 | _,_,_,.dct _ _ _,_,p => by simp [plD] at p
theorem Q9P (I : L2.Inv X pins σ H s) (sub : Same G.g H) : ∀ {ds : List D} {vs : List V} {us : List Value},Iss X.K G ds vs -> Vals vs us -> plDs ds = true -> ∃ as,ReadsAll s.heap us (Q5L ds) as
 | _,_,_,.nil,.nil,_ => ⟨[],.nil⟩
 | d :: ds,_,_,.cons i is,.cons r rs,p => by
  have p : (plD d && plDs ds) = true := p
  rw [Bool.and_eq_true] at p
  obtain ⟨as,ra⟩ := Y0D I sub i r p.1
  obtain ⟨bs,rb⟩ := Q9P I sub is rs p.2
  exact ⟨_,.cons ra rb⟩
end
end
def RD (O : Sto) (d e : D) : Prop := e = d \/ ∃ n xs,d = .ptr n /\ O[n]? = some (some (.lst xs)) /\ e = .lst xs
theorem RD.reads {X : Cx} {pins : List (Addr × Obj)} {σ : L2.St} {H : Hp} {s : Shared} {G : Wd} {O : Sto} {d e : D} {v : V} {u : Value} (h : RD O d e) (I : L2.Inv X pins σ H s) (sa : SA X.K G H O) (i : Is X.K G d v) (r : RelV v u) (p : plD e = true) : ∃ as,Reads s.heap u (toPy e) as := by
 rcases h with rfl | ⟨n,xs,rfl,h,rfl⟩
 ·exact Y0D I sa.sub i r p
 ·cases i with | ptr _ ha =>
  cases r
  obtain ⟨a,g0,_,vs,g1,g2⟩ := sa.mt n _ h
  have := Option.some.inj (ha.symm.trans g0)
  subst this
  obtain ⟨its,va,pl,_⟩ := I.list (SqL.of g1)
  obtain ⟨o,q1,q2,k,q3⟩ := pl.isList
  obtain ⟨as,ra⟩ := Q9P I sa.sub g2 va p
  exact ⟨_,.list q1 q2 q3 (by simpa using ra)⟩
section
variable {X : Cx} {ρ : Rho} {O : Sto} {e a b c : Expr} {es : List Expr} {d da db ea eb : D} {ds xs ys : List D} {R : D -> Sto -> Prop} {pos p : Pos} {x : Str} {k : Nat}
theorem Z5Y (hr : Room k X.A) (ha : RD O da ea) (hb : RD O db eb) (pa : plD ea = true) (pb : plD eb = true) (hd : min (dpD ea) (dpD eb) <= 60) : Op2 X O (compareOp .NotEq) da db (.bl (!eqD ea eb)) := λ G pins s σ H x y v u Q I rx ry ⟨h1,h2,h3,h4⟩ => by
 obtain ⟨as,ra⟩ := ha.reads I h1 h2 rx pa
 obtain ⟨bs,rb⟩ := hb.reads I h1 h3 ry pb
 have hu := hr.units
 exact PySem.SeqAt.compareNe_reads ra rb (Z4T _ pa) (Z4T _ pb) (by rw [Z9Y,Z9Y]; omega) ⟨.bl _,H,I,rfl,h4 _ G H (Ext.refl _) h1 (.bl _)⟩
end
theorem Z7j {l : List D} (h : ∀ d ∈ l,plD d = true) : plDs l = true := by
 induction l with
 | nil => rfl
 | cons x xs ih =>
  show (plD x && plDs xs) = true
  rw [h x List.mem_cons_self,ih λ d hd => h d (List.mem_cons_of_mem _ hd)]; rfl
theorem Z7i {α : Type} {f : α -> D} {l : List α} (h : ∀ a ∈ l,plD (f a) = true) : plDs (l.map f) = true := Z7j λ d hd => by obtain ⟨a,ha,rfl⟩ := List.mem_map.mp hd; exact h a ha
theorem Z9Z {l : List D} {k : Nat} (h : ∀ d ∈ l,dpD d <= k) : dpDs l <= k := by
 induction l with
 | nil => exact Nat.zero_le _
 | cons x xs ih =>
  show max (dpD x) (dpDs xs) <= k
  have := h x List.mem_cons_self
  have := ih λ d hd => h d (List.mem_cons_of_mem _ hd)
  omega
theorem Z7L {α : Type} {f : α -> D} {l : List α} {k : Nat} (h : ∀ a ∈ l,dpD (f a) <= k) : dpDs (l.map f) <= k := Z9Z λ d hd => by obtain ⟨a,ha,rfl⟩ := List.mem_map.mp hd; exact h a ha
theorem Z2z {α : Type} {f : α -> D} [DecidableEq α] (h : ∀ a b,eqD (f a) (f b) = decide (a = b)) : ∀ l m : List α,eqDs (l.map f) (m.map f) = decide (l = m)
 | [],[] => rfl
 | [],_ :: _ => rfl
 | _ :: _,[] => rfl
 | a :: l,b :: m => by
  show (eqD (f a) (f b) && eqDs (l.map f) (m.map f)) = _
  rw [h a b,Z2z h l m]
  by_cases h1 : a = b
  ·by_cases h2 : l = m
   ·simp [h1,h2]
   ·simp [h1,h2]
  ·simp [h1]
theorem Z9V (a b : Int) : eqD (.int a) (.int b) = decide (a = b) := by
 show (a == b) = _
 by_cases h : a = b
 ·simp [h]
 ·simp [h]
theorem Z5K (a b : List Int) : eqD (.tup (a.map D.int)) (.tup (b.map D.int)) = decide (a = b) := Z2z Z9V a b
theorem Z7k (a : List Int) : plDs (a.map D.int) = true := Z7i λ _ _ => rfl
theorem Z7M (a : List Int) : dpDs (a.map D.int) <= 0 := Z7L λ _ _ => Nat.le_refl _
theorem Q8W {α : Type} {l : List α} {i : Nat} (h : i < l.length) (d : α) : l.getD i d = l[i] := by simp [h]
section
variable {X : Cx} {ρ : Rho} {O : Sto} {e a b c : Expr} {es : List Expr} {d da db ea eb : D} {ds xs ys : List D} {R : D -> Sto -> Prop} {pos p : Pos} {x : Str} {k : Nat}
theorem LT.sq {K : PySem.W.Frag} {G : Wd} {H : Hp} {O : Sto} {d : D} {xs : List D} {v : V} (h : LT O d xs) (s : SA K G H O) (i : Is K G d v) : ∃ k a vs,v = .ref a /\ Sq k K H a vs /\ Iss K G xs vs := by
 rcases h with h | rfl
 ·obtain ⟨a,vs,rfl,q,r⟩ := h.sq s i; exact ⟨true,a,vs,rfl,q,r⟩
 ·obtain ⟨a,vs,rfl,q,r⟩ := Q3a s i; exact ⟨false,a,vs,rfl,q,r⟩
theorem Z4R (ns : List Int) : preSum (λ i => ns.getD i 0) ns.length = ns.sum := by rw [preSum_getD,List.take_length]
theorem Z8j {k : Bool} {h : Heap} {l : Addr} {ys : Array Value} (q : SSq k h l ys) : l < h.objs.size := by
 cases k with
 | true => obtain ⟨o,g,_⟩ := (q : h.IsList l ys); exact Heap.lt_size g
 | false => obtain ⟨o,g,_⟩ := (q : h.IsTuple l ys); exact Heap.lt_size g
theorem Z1z {prog : Program} {w : World} {A : Around} {E : Value -> Shared -> Prop} {s : Shared} {k : Bool} {l : Addr} {its : List Value} {ns : List Int} {Q : Value -> Shared -> Prop} (hh : A.handled = none) (q : SSq k s.heap l its.toArray) (hv : ∀ (i : Nat) (v : Value),its[i]? = some v -> ∃ t,v = .int (ns.getD i 0) t) (hn : ns.length = its.length)
  (h : ∀ h' tk t,(∀ b o,s.heap.get? b = some o -> h'.get? b = some o) -> Q (.int ns.sum t) { s with heap := h',toks := tk }) : wpAny (model prog w) A (call (.builtin "sum") [.ref l]) Q E s := by
 have hl := Z8j q
 have fin : ∀ (h2 : Heap),(∀ b o,s.heap.get? b = some o -> h2.get? b = some o) -> ∀ h' tk t',(∀ b o,b ∉ [s.heap.objs.size] -> h2.get? b = some o -> h'.get? b = some o) -> Q (.int (preSum (λ i => ns.getD i 0) its.toArray.size) t') { s with heap := h',toks := tk } := λ h2 up h' tk t' kp => by
  rw [show its.toArray.size = ns.length by simp [hn],Z4R]
  exact h h' tk t' λ b o e => kp b o (by simpa using Nat.ne_of_lt (Heap.lt_size e)) (up b o e)
 cases k with
 | true =>
  refine call_sum_walkG (wpAny_pyIter_list q ⟨s.heap.objs.size,[s.heap.objs.size,l],[s.heap.objs.size],its.toArray.size,λ i v => its.toArray[i]? = some v,λ i h => h.IsListIter s.heap.objs.size l i /\ h.IsList l its.toArray,λ i => ns.getD i 0,rfl,Walks.list (A := A.in1) hh _ l (Nat.ne_of_lt hl) its.toArray,⟨⟨_,Heap.get?_push_size _ rfl,rfl,rfl⟩,Heap.IsList.push q _⟩,λ b hb => ?_,λ i v e => hv i v (by simpa using e),fin _ λ b o e => Heap.get?_push_of_some _ e⟩)
  rw [Heap.size_push]
  rcases List.mem_cons.mp hb with rfl | hb
  ·exact Nat.lt_succ_self _
  ·rw [List.mem_singleton.mp hb]; exact Nat.lt_succ_of_lt hl
 | false =>
  refine call_sum_walkG (wpAny_pyIter_tuple q ⟨s.heap.objs.size,[s.heap.objs.size,l],[s.heap.objs.size],its.toArray.size,λ i v => its.toArray[i]? = some v,λ i h => h.IsTupleIter s.heap.objs.size l i /\ h.IsTuple l its.toArray,λ i => ns.getD i 0,rfl,Walks.tuple (A := A.in1) hh _ l (Nat.ne_of_lt hl) its.toArray,⟨⟨_,Heap.get?_push_size _ rfl,rfl,rfl⟩,(SSq.at (k := false) q λ o e => Heap.get?_push_of_some _ e : SSq false _ l _)⟩,λ b hb => ?_,λ i v e => hv i v (by simpa using e),fin _ λ b o e => Heap.get?_push_of_some _ e⟩)
  rw [Heap.size_push]
  rcases List.mem_cons.mp hb with rfl | hb
  ·exact Nat.lt_succ_self _
  ·rw [List.mem_singleton.mp hb]; exact Nat.lt_succ_of_lt hl
theorem Z6j {ns : List Int} (h : LT O d (ns.map D.int)) (hc : X.calm = true := by rfl) : Q1U X O (.builtin "sum") [d] (.int ns.sum) := λ G pins s σ H vs us Q I r ⟨h1,h2,h3⟩ => by
 cases h2 with | cons i r2 =>
 cases r2
 obtain ⟨kk,ad,ws,rfl,q,is⟩ := h.sq h1 i
 obtain ⟨u,rfl,ru⟩ := Q7f r
 cases ru
 obtain ⟨its,va,sq,_⟩ := Q3s I q
 have e := is.toInts
 subst e
 have el := va.length
 rw [List.length_map] at el
 refine Z1z (ns := ns) (I.ok.hd hc) sq (λ i v hv => ?_) el λ h' tk t kp => ⟨.int ns.sum,H,I.kept kp,⟨t,rfl⟩,h3 _ G H (Ext.refl _) h1 (.int _)⟩
 have hi : i < ns.length := by rw [el]; exact (List.getElem?_eq_some_iff.mp hv).1
 obtain ⟨w,hw,rw'⟩ := va.get (i := i) (x := .int ns[i]) (by simp [hi])
 rw [hv] at hw
 cases hw
 obtain ⟨t,e⟩ := rw'
 exact ⟨t,by rw [e,Q8W hi]⟩
theorem Z1B {prog : Program} {w : World} {A : Around} {E : Value -> Shared -> Prop} {s : Shared} {k : Bool} {l : Addr} {its : List Value} {bs : List Bool} {Q : Value -> Shared -> Prop} (hh : A.handled = none) (q : SSq k s.heap l its.toArray) (hv : ∀ (i : Nat) (v : Value),its[i]? = some v -> v = .bool (bs.getD i true)) (hn : bs.length = its.length) (al : Bool)
  (h : ∀ h' tk,(∀ b o,s.heap.get? b = some o -> h'.get? b = some o) -> Q (.bool (if al then bs.all id else bs.any id)) { s with heap := h',toks := tk }) : wpAny (model prog w) A (call (.builtin (if al then "all" else "any")) [.ref l]) Q E s := by
 have hl := Z8j q
 have ea : (List.range its.toArray.size).all (λ i => bs.getD i true) = bs.all id := by
  have : bs = (List.range bs.length).map λ i => bs.getD i true := by
   apply List.ext_getElem
   ·simp
   ·intro i h1 h2; simp; rw [List.getElem?_eq_getElem h1]; rfl
  conv => rhs; rw [this,List.all_map]
  rw [show its.toArray.size = bs.length by simp [hn]]
  rfl
 have eb : (List.range its.toArray.size).any (λ i => bs.getD i true) = bs.any id := by
  have : bs = (List.range bs.length).map λ i => bs.getD i true := by
   apply List.ext_getElem
   ·simp
   ·intro i h1 h2; simp; rw [List.getElem?_eq_getElem h1]; rfl
  conv => rhs; rw [this,List.any_map]
  rw [show its.toArray.size = bs.length by simp [hn]]
  rfl
 have kp' : ∀ (h2 : Heap),(∀ b o,s.heap.get? b = some o -> h2.get? b = some o) -> ∀ h' : Heap,(∀ b o,b ∉ [s.heap.objs.size] -> h2.get? b = some o -> h'.get? b = some o) -> ∀ b o,s.heap.get? b = some o -> h'.get? b = some o := λ h2 up h' kp b o e => kp b o (by simpa using Nat.ne_of_lt (Heap.lt_size e)) (up b o e)
 have tr : TruthOf prog w A.in1 (λ i v => its.toArray[i]? = some v) (λ i => bs.getD i true) := λ i v s Q E hP hQ => by
  rw [hv i v (by simpa using hP)]; exact wpAny_truthy_bool hQ
 cases k with
 | true =>
  have W := Walks.list (prog := prog) (w := w) (A := A.in1) hh s.heap.objs.size l (Nat.ne_of_lt hl) its.toArray
  have st : (s.heap.push { cls := .type "list_iterator",data := .fields #[.ref l,.int 0 0] }).IsListIter s.heap.objs.size l 0 /\ (s.heap.push { cls := .type "list_iterator",data := .fields #[.ref l,.int 0 0] }).IsList l its.toArray := ⟨⟨_,Heap.get?_push_size _ rfl,rfl,rfl⟩,Heap.IsList.push q _⟩
  cases al with
  | true => exact call_all_walk (wpAny_pyIter_list q ⟨_,_,_,_,_,_,_,rfl,W,st,tr,λ h' tk kp => by rw [ea]; exact h h' tk (kp' _ (λ b o e => Heap.get?_push_of_some _ e) h' kp)⟩)
  | false => exact call_any_walk (wpAny_pyIter_list q ⟨_,_,_,_,_,_,_,rfl,W,st,tr,λ h' tk kp => by rw [eb]; exact h h' tk (kp' _ (λ b o e => Heap.get?_push_of_some _ e) h' kp)⟩)
 | false =>
  have W := Walks.tuple (prog := prog) (w := w) (A := A.in1) hh s.heap.objs.size l (Nat.ne_of_lt hl) its.toArray
  have st : (s.heap.push { cls := .type "tuple_iterator",data := .fields #[.ref l,.int 0 0] }).IsTupleIter s.heap.objs.size l 0 /\ (s.heap.push { cls := .type "tuple_iterator",data := .fields #[.ref l,.int 0 0] }).IsTuple l its.toArray := ⟨⟨_,Heap.get?_push_size _ rfl,rfl,rfl⟩,(SSq.at (k := false) q λ o e => Heap.get?_push_of_some _ e : SSq false _ l _)⟩
  cases al with
  | true => exact call_all_walk (wpAny_pyIter_tuple q ⟨_,_,_,_,_,_,_,rfl,W,st,tr,λ h' tk kp => by rw [ea]; exact h h' tk (kp' _ (λ b o e => Heap.get?_push_of_some _ e) h' kp)⟩)
  | false => exact call_any_walk (wpAny_pyIter_tuple q ⟨_,_,_,_,_,_,_,rfl,W,st,tr,λ h' tk kp => by rw [eb]; exact h h' tk (kp' _ (λ b o e => Heap.get?_push_of_some _ e) h' kp)⟩)
theorem Z2F {bs : List Bool} (al : Bool) (h : LT O d (bs.map D.bl)) (hc : X.calm = true) : Q1U X O (.builtin (if al then "all" else "any")) [d] (.bl (if al then bs.all id else bs.any id)) := λ G pins s σ H vs us Q I r ⟨h1,h2,h3⟩ => by
 cases h2 with | cons i r2 =>
 cases r2
 obtain ⟨kk,ad,ws,rfl,q,is⟩ := h.sq h1 i
 obtain ⟨u,rfl,ru⟩ := Q7f r
 cases ru
 obtain ⟨its,va,sq,_⟩ := Q3s I q
 have e1 := is.length
 have e2 := va.length
 rw [List.length_map] at e1
 refine Z1B (bs := bs) (I.ok.hd hc) sq (λ i v hv => ?_) wF al λ h' tk kp => ⟨.bl _,H,I.kept kp,rfl,h3 _ G H (Ext.refl _) h1 (.bl _)⟩
 have hi : i < bs.length := by rw [e1,e2]; exact (List.getElem?_eq_some_iff.mp hv).1
 obtain ⟨w,hw,iw⟩ := is.get (i := i) (d := .bl bs[i]) (by simp [hi])
 obtain ⟨z,hz,rz⟩ := va.get hw
 rw [hv] at hz
 cases hz
 cases iw
 rw [Q8W hi]
 exact rz
theorem Y0d {bs : List Bool} (h : LT O d (bs.map D.bl)) (hc : X.calm = true := by rfl) : Q1U X O (.builtin "all") [d] (.bl (bs.all id)) := Z2F true h hc
theorem c_any {bs : List Bool} (h : LT O d (bs.map D.bl)) (hc : X.calm = true := by rfl) : Q1U X O (.builtin "any") [d] (.bl (bs.any id)) := Z2F false h hc
theorem Z4g {prog : Program} {w : World} {A : Around} {E : Value -> Shared -> Prop} {s : Shared} {t sl : Addr} {its : Array Value} {vl vu : Value} {lo hi : Option Int} {Q : Value -> Shared -> Prop} (ht : IsTup s.heap t its) (hs : s.heap.IsSliceOf sl vl vu .none) (pl : IsPart vl lo) (pu : IsPart vu hi)
  (hw : HT.sIx its.size 0 lo = 0 /\ HT.sIx its.size its.size hi = its.size) (h : Q (.ref t) s) : wpAny (model prog w) A (getItem (.ref t) (.ref sl)) Q E s := by
 obtain ⟨osl,hos,hcs,hds⟩ := id hs
 have hTs : s.TypeIs (.ref sl) "slice" := ⟨osl,hos,hcs⟩
 unfold getItem
 try with_reducible refine wpAny_holding ?_
 first | refine wpAny_bind (wpAny_pure ?_) | skip
 refine wpAny_bind (wpAny_sequenceKey ht.typeIs wE (wpAny_bind (wpAny_callSpecial?_slot (name := Str.ofString "__getitem__") ht.typeIs PyProof.Rows.slot_tuple_getitem (wpAny_call_entry PyProof.Rows.slot_tuple_getitem ht.typeIs entry_tuple_getitem ?_ (args_tuple_getitem _ _)))))
 show wpAny (model prog w) _ (Builtin.Tuple.tupleItemsOf (.ref t) >>= _) _ _ s
 refine wpAny_bind (tupleItemsOf_ ht (wpAny_bind (wpAny_typeOf hTs ?_)))
 rw [if_pos wE]
 refine wpAny_bind (HT.sliceApplied_gen hs pl pu ?_)
 have hyes : ((((HT.sIx its.size 0 lo : Nat) : Int) == 0 && (1 : Int) == 1 && (HT.sIx its.size its.size hi - HT.sIx its.size 0 lo) == its.size) = true) := by
  rw [hw.1,hw.2]; simp
 show wpAny (model prog w) _ (if (((HT.sIx its.size 0 lo : Nat) : Int) == 0 && (1 : Int) == 1 && (HT.sIx its.size its.size hi - HT.sIx its.size 0 lo) == its.size) = true then _ else _) _ _ s
 rw [if_pos hyes]
 first
  | exact wpAny_pure ⟨_,rfl,wpAny_pure h⟩
  | exact wpAny_bind (wpAny_rule (wpAny_pure ⟨_,rfl,wpAny_pure h⟩))
  | (refine wpAny_bind (wpAny_typeOf ht.typeIs ?_); rw [if_pos wE]; exact wpAny_pure ⟨_,rfl,wpAny_pure h⟩)
  | (refine wpAny_bind (wpAny_bind (wpAny_typeOf ht.typeIs (wpAny_pure ?_))); rw [if_pos wE]; exact wpAny_bind (wpAny_rule (wpAny_pure ⟨_,rfl,wpAny_pure h⟩)))
def rSlW (K : PySem.W.Frag) : V -> Option Int -> Option Int -> Hp -> VK -> Prop := λ x lo hi H Q => ∃ a xs,x = .ref a /\ SqT K H a xs /\ (HT.sIx xs.length 0 lo = 0 /\ HT.sIx xs.length xs.length hi = xs.length) /\ Q (.ref a) H
theorem Z6X : SlR X (rSlW X.K) := λ pins s σ H x v vl vu lo hi sl Q I rx hs pl pu h => by
 obtain ⟨a,xs,rfl,hx,hw,q⟩ := h
 cases rx
 obtain ⟨its,r,ht,hz⟩ := I.tuple hx
 have hlen : its.toArray.size = xs.length := by rw [List.size_toArray]; exact r.length.symm
 exact ⟨"tuple",_,PyProof.Rows.slot_tuple_getitem.lookup,ht.typeIs,Z4g ht hs pl pu (by rw [hlen]; exact hw) ⟨.ref a,H,I,rfl,q⟩⟩
theorem Q9E {xs : List D} {l u : Option Int} (h : HT.sIx xs.length 0 l = 0 /\ HT.sIx xs.length xs.length u = xs.length) : Q5U xs l u = xs := by
 unfold Q5U
 rw [h.1,h.2]
 simp
theorem Y1t {xs : List D} {lo hi : Option Expr} {l u : Option Int} {p2 : Pos} (ha : EvP X ρ O a (.tup xs)) (hl : EvO X ρ O lo l) (hh : EvO X ρ O hi u) : EvP X ρ O (.Subscript a (.Slice lo hi none p2) pos) (.tup (Q5U xs l u)) := λ G =>
 PE.imp (Z7n (Y0A.or Z6X) (ha G) (tl := λ σ H Q => ∃ G1,SA X.K G1 H O /\ EnvR X.K G1 σ ρ /\ ∀ G' H',Ext G1 G' -> SA X.K G' H' O -> Q l H') (λ pins s σ H Q I ⟨G1,q⟩ => hl G1 pins s σ H Q I q)
  (th := λ σ H Q => ∃ G1,SA X.K G1 H O /\ EnvR X.K G1 σ ρ /\ ∀ G' H',Ext G1 G' -> SA X.K G' H' O -> Q u H') (λ pins s σ H Q I ⟨G1,q⟩ => hh G1 pins s σ H Q I q)) λ σ H Q ⟨h1,h2,h3⟩ =>
  ⟨h1,h2,λ v G1 H1 e1 s1 i1 => ⟨G1,s1,h2.ext e1,λ G2 H2 e2 s2 => ⟨G2,s2,(h2.ext e1).ext e2,λ G3 H3 e3 s3 => by
   have i3 := i1.ext (e2.trans e3)
   obtain ⟨q,vs,rfl,q1,r⟩ := Q3a s3 i3
   by_cases hw : HT.sIx vs.length 0 l = 0 /\ HT.sIx vs.length vs.length u = vs.length
   ·refine .inr ⟨q,vs,rfl,q1,hw,h3 _ _ _ ((e1.trans e2).trans e3) s3 ?_⟩
    rw [Q9E (by rw [r.length]; exact hw)]
    exact i3
   ·refine .inl ⟨q,vs,rfl,q1,hw,λ z hz => ?_⟩
    obtain ⟨e4,s4⟩ := s3.laid (o := .tup (cutV vs l u)) hz
    exact h3 _ _ _ (((e1.trans e2).trans e3).trans e4) s4 (.tup (SqT.of Q0u) ((Y1A r).ext e4))⟩⟩⟩
theorem Z8s {xs ys : List D} (hx : xs ≠ []) (hz : xs.length + ys.length <= sizeLine) : Op2 X O (binaryOp .Add) (.tup xs) (.tup ys) (.tup (xs ++ ys)) :=
 .of Z9s λ G v u H Q s h1 h2 k => by
  have j1 := h1
  obtain ⟨q1,vs,rfl,g1,r1⟩ := Q3a s h1
  obtain ⟨q2,us,rfl,g2,r2⟩ := Q3a s h2
  refine ⟨_,_,_,_,rfl,rfl,g1,g2,?_,by rw [<- r1.length,<- r2.length]; exact hz,λ z => ?_,λ _ p hp => ?_⟩
  ·intro z; apply hx; have := r1.length; rw [z] at this; exact List.eq_nil_of_length_eq_zero this
  ·subst z
   cases r2
   rw [List.append_nil] at k
   exact k _ G H (Ext.refl _) s j1
  ·obtain ⟨e4,s4⟩ := s.laid (o := .tup _) hp
   exact k _ _ _ e4 s4 (.tup (SqT.of Q0u) ((r1.append r2).ext e4))
end
end DL
namespace DL
open PySem PySem.Spec PyProof.Rows L2
mutual
def npD : D -> Bool
 | .ptr _ => false
 | .tup xs => npDs xs
 | .lst xs => npDs xs
 | .scr xs => npDs xs
 | .dct _ xs => npDs xs
 | _ => true
def npDs : List D -> Bool
 | [] => true
 | d :: ds => npD d && npDs ds
end
theorem Q4s {α : Type} {f : α -> D} (h : ∀ a,npD (f a) = true) (l : List α) : npDs (l.map f) = true := by
 induction l with
 | nil => rfl
 | cons a l ih => rw [List.map_cons]; unfold npDs; rw [h,ih]; rfl
theorem Z0c (l : List Int) : npDs (l.map D.int) = true := Q4s (λ _ => rfl) l
section
variable {K : PySem.W.Frag} {G G' : Wd} {t : List Addr}
mutual
theorem Is.cut : ∀ {d : D} {v : V},Is K G' d v -> npD d = true -> ∀ l,Is K ⟨G'.g,l⟩ d v
 | _,_,.non,_,l => .non
 | _,_,.bl b,_,l => .bl b
 | _,_,.int i,_,l => .int i
 | _,_,.str x,_,l => .str x
 | _,_,.tup h r,e,l => .tup h (Iss.cut r e l)
 | _,_,.lst h r,e,l => .lst h (Iss.cut r e l)
 | _,_,.scr h r,e,l => .scr h (Iss.cut r e l)
 | _,_,.ptr n h,e,l => by cases e
 | _,_,.ty n,_,l => .ty n
 | _,_,.fn n,_,l => .fn n
 | _,_,.dct h hl r,e,l => .dct h hl (Iss.cut r e l)
theorem Iss.cut : ∀ {ds : List D} {vs : List V},Iss K G' ds vs -> npDs ds = true -> ∀ l,Iss K ⟨G'.g,l⟩ ds vs
 | _,_,.nil,_,l => .nil
 | _,_,.cons h r,e,l => by
  have e := (Bool.and_eq_true _ _).mp e
  exact .cons (Is.cut h e.1 l) (Iss.cut r e.2 l)
end
mutual
theorem Is.back (e : G'.l = G.l ++ t) : ∀ {d : D} {v v0 : V},Is K G d v0 -> Is K G' d v -> Is K ⟨G'.g,G.l⟩ d v
 | _,_,_,.non,h => by cases h; exact .non
 | _,_,_,.bl b,h => by cases h; exact .bl b
 | _,_,_,.int i,h => by cases h; exact .int i
 | _,_,_,.str x,h => by cases h; exact .str x
 | _,_,_,.tup _ r0,h => by cases h with | tup h r => exact .tup h (Iss.back e r0 r)
 | _,_,_,.lst _ r0,h => by cases h with | lst h r => exact .lst h (Iss.back e r0 r)
 | _,_,_,.scr _ r0,h => by cases h with | scr h r => exact .scr h (Iss.back e r0 r)
 | _,_,_,.ptr n q,h => by
  cases h with
  | ptr _ h =>
   refine .ptr n ?_
   rw [e,List.getElem?_append_left (List.getElem?_eq_some_iff.mp q).1] at h
   exact h
 | _,_,_,.ty n,h => by cases h; exact .ty n
 | _,_,_,.fn n,h => by cases h; exact .fn n
 | _,_,_,.dct _ _ r0,h => by cases h with | dct h hl r => exact .dct h hl (Iss.back e r0 r)
theorem Iss.back (e : G'.l = G.l ++ t) : ∀ {ds : List D} {vs v0 : List V},Iss K G ds v0 -> Iss K G' ds vs -> Iss K ⟨G'.g,G.l⟩ ds vs
 | _,_,_,.nil,h => by cases h; exact .nil
 | _,_,_,.cons q r,h => by cases h with | cons h1 h2 => exact .cons (Is.back e q h1) (Iss.back e r h2)
end
theorem FsIs.back (e : G'.l = G.l ++ t) : ∀ {fs : List (Str × D)} {vs v0 : List (Str × V)},FsIs K G fs v0 -> FsIs K G' fs vs -> FsIs K ⟨G'.g,G.l⟩ fs vs
 | _,_,_,.nil,h => by cases h; exact .nil
 | _,_,_,.cons q r,h => by cases h with | cons h1 h2 => exact .cons (Is.back e q h1) (FsIs.back e r h2)
theorem SA.cut {H H' : Hp} {O O2 : Sto} (s : SA K G H O) (e : Ext G G') (s' : SA K G' H' (O ++ O2)) : Ext G ⟨G'.g,G.l⟩ /\ SA K ⟨G'.g,G.l⟩ H' O := by
 obtain ⟨t,et⟩ := e.l
 refine ⟨⟨e.g,[],(List.append_nil _).symm⟩,⟨s'.sub,s.len,s.nd,λ a ha => s'.liv a (by rw [et]; exact List.mem_append_left _ ha),λ n m h => ?_⟩⟩
 have hn := (List.getElem?_eq_some_iff.mp h).1
 obtain ⟨a,q1,q2,q3⟩ := s'.mt n m (by rw [List.getElem?_append_left hn]; exact h)
 obtain ⟨a0,p1,p2,p3⟩ := s.mt n m h
 rw [et,List.getElem?_append_left (by rw [s.len]; exact hn)] at q1
 refine ⟨a,q1,q2,?_⟩
 cases m with
 | lst xs =>
  obtain ⟨vs,g1,g2⟩ := q3
  obtain ⟨v0,h1,h2⟩ := p3
  exact ⟨vs,g1,Iss.back et h2 g2⟩
 | ins C fs =>
  obtain ⟨dx,vs,g1,g2⟩ := q3
  obtain ⟨dx0,v0,h1,h2⟩ := p3
  exact ⟨dx,vs,g1,FsIs.back et h2 g2⟩
 | exc C fs ha =>
  obtain ⟨ob,g1,g2,g3,g4⟩ := q3
  obtain ⟨ob0,h1,h2,h3,_⟩ := p3
  refine ⟨ob,g1,g2,?_,g4⟩
  rcases h3 with h3 | ⟨dx0,v0,b1,b2,b3⟩
  ·exact .inl h3
  ·refine g3.imp id ?_
   rintro ⟨dx,vs,a1,a2,a3⟩
   exact ⟨dx,vs,a1,a2,FsIs.back et b3 a3⟩
 | dct ks xs =>
  obtain ⟨vs,g1,g2,g3⟩ := q3
  obtain ⟨v0,h1,h2,h3⟩ := p3
  exact ⟨vs,g1,g2,Iss.back et h3 g3⟩
 | pin ob vs ks xs => exact ⟨q3.1,q3.2.1,Iss.back et p3.2.2 q3.2.2⟩
end
section
variable {X : Cx} {ρ : Rho} {O : Sto} {e a b c : Expr} {es : List Expr} {d da db : D} {ds : List D} {R : D -> Sto -> Prop} {pos p : Pos} {x : Str} {rest : List Stmt} {P : Post}
theorem Q4F (h : Exs X ρ O rest { nx := λ _ _ => False,rt := λ d O' => (∃ O2,O' = O ++ O2) /\ npD d = true /\ P.rt d O }) : Exs X ρ O rest P := λ G pins s σ H E I ⟨q1,q2,q3⟩ => by
 refine h G pins s σ H E I ⟨q1,q2,⟨λ σ' ρ' O' G3 H3 e3 s3 n3 q => q.elim,λ v d O' G3 H3 e3 s3 i3 r => ?_,λ σ' ρ' O' G3 H3 e3 s3 n3 q => q.elim,λ σ' ρ' O' G3 H3 e3 s3 n3 q => q.elim⟩⟩
 obtain ⟨⟨O2,rfl⟩,r2,r3⟩ := r
 obtain ⟨e4,s4⟩ := q1.cut e3 s3
 exact q3.rt v d O _ H3 e4 s4 (i3.cut r2 _) r3
def Z3f (pre : List D -> Prop) (f : List D -> D -> Prop) : SpD := λ ds O R => pre ds /\ ∀ d,f ds d -> R d O
theorem Q4a {tg : Expr} (he : Ev X ρ O e λ d O' => ∃ ρ1,Tg X tg d ρ ρ1 /\ P.nx ρ1 O') (hs : swapsWithSole [tg] e pos.line X.env = pure false := by rfl) (hw : swappedStores [tg] e X.env = pure none := by rfl)
  (h1 : (assignEach [tg] X.env).map (·.2) = [assign tg X.env] := by rfl) : Ex X ρ O (.Assign [tg] e pos) P := λ G =>
 PS.imp (Y0M (he G) (g := λ v σ H Q => ∃ G1 d ρ1,Tg X tg d ρ ρ1 /\ Is X.K G1 d v /\ Same G1.g H /\ EnvR X.K G1 σ ρ /\ ∀ σ',EnvR X.K G1 σ' ρ1 -> Q σ' H) (λ pins s σ H v u Q I r ⟨G1,d,ρ1,ht,q⟩ => ht G1 pins s σ H v u Q I r q) hs hw h1) λ E σ H ⟨q1,q2,q3⟩ =>
  ⟨q1,q2,λ v d O' G' H' e1 s1 i1 ⟨ρ1,t1,r1⟩ => ⟨G',d,ρ1,t1,i1,s1.sub,q2.ext e1,λ σ' n' => q3.nx _ _ O' G' H' e1 s1 n' r1⟩⟩
theorem st0 {m : Option MO} {O2 : Sto} : (O ++ m :: O2)[O.length]? = some m := by
 rw [List.getElem?_append_right (Nat.le_refl _),Nat.sub_self]; rfl
theorem st1 {m n : Option MO} {O2 : Sto} : (O ++ m :: n :: O2)[O.length + 1]? = some n := by
 rw [List.getElem?_append_right wF,show O.length + 1 - O.length = 1 by omega]; rfl
theorem ss0 {m z : Option MO} {O2 : Sto} : (O ++ m :: O2).set O.length z = O ++ z :: O2 := by
 rw [List.set_append_right (h := Nat.le_refl _),Nat.sub_self]; rfl
theorem ss1 {m n z : Option MO} {O2 : Sto} : (O ++ m :: n :: O2).set (O.length + 1) z = O ++ m :: z :: O2 := by
 rw [List.set_append_right (h := by omega),show O.length + 1 - O.length = 1 by omega]; rfl
section
variable {α : Type} {ps : List α} {f g : α -> D} {h : α -> Option D} {tg iter elt : Expr} {ifs : List Expr} {scope : Scope}
theorem Z5D (ps : List α) (g : α -> D) : (ps.map λ q => some (g q)).filterMap id = ps.map g := by
 induction ps with
 | nil => rfl
 | cons a l ih => rw [List.map_cons,List.filterMap_cons,ih]; rfl
theorem Z2q (ps : List α) (h : α -> Option D) : (ps.map h).filterMap id = ps.filterMap h := by
 rw [List.filterMap_map]; rfl
theorem Z2v (h : α -> Option D) (T F : List Str) (js : List Nat) (hi : EvI X ρ O tg iter (ps.map f)) (hsz : ps.length <= sizeLine) (turn : ∀ q,q ∈ ps -> Z3T X T F js ρ O scope tg elt ifs (f q) (h q))
  (hfl : F.length = js.length := by rfl) (hB : Q4u X.N X.env.scope.names scope.names F js = true := by rfl) (hc : X.calm = true := by rfl) (hk : scope.kind = .function := by rfl) (hs : ∀ x,foldedSetIterable iter X.env x = pure x := by intro _; rfl) :
  EvP X ρ O (.ListComp elt [⟨tg,iter,ifs,0⟩] scope pos) (.lst (ps.filterMap h)) := by
 rw [<- Z2q]
 refine Z7F T F js hi (by rw [List.length_map,List.length_map]) (by rw [List.length_map]; exact hsz) (λ i x z h1 h2 => ?_) hfl hB hc hk hs
 rw [List.getElem?_map] at h1 h2
 cases e : ps[i]? with
 | none => rw [e] at h1; cases h1
 | some q => rw [e] at h1 h2; cases h1; cases h2; exact turn q (List.mem_of_getElem? e)
theorem Q0J (g : α -> D) (T F : List Str) (js : List Nat) (hi : EvI X ρ O tg iter (ps.map f)) (hsz : ps.length <= sizeLine) (turn : ∀ q,q ∈ ps -> Z3T X T F js ρ O scope tg elt ifs (f q) (some (g q)))
  (hfl : F.length = js.length := by rfl) (hB : Q4u X.N X.env.scope.names scope.names F js = true := by rfl) (hc : X.calm = true := by rfl) (hk : scope.kind = .function := by rfl) (hs : ∀ x,foldedSetIterable iter X.env x = pure x := by intro _; rfl) :
  EvP X ρ O (.ListComp elt [⟨tg,iter,ifs,0⟩] scope pos) (.lst (ps.map g)) := by
 rw [<- Z5D,Z2q]
 exact Z2v (λ q => some (g q)) T F js hi hsz turn hfl hB hc hk hs
theorem Y0m {x : Str} {p spos : Pos} (k : Nat) (h : α -> Option D) (T F : List Str) (js : List Nat) (hi : EvI X ρ O tg iter (ps.map f)) (hsz : ps.length <= sizeLine) (turn : ∀ q,q ∈ ps -> Z3T X T F js ρ O scope tg elt ifs (f q) (h q))
  (hP : P.nx (ρ.set k (some (.lst (ps.filterMap h)))) O) (hN : X.N.Nodup) (hx : X.N[k]? = some x := by rfl) (hlc : Loc X.env.scope x := by first | exact Or.inl rfl | exact Or.inr rfl) (hf : X.fn x = true \/ X.env.scope.names.lookup x = some .local := by first | exact .inl rfl | exact .inr rfl | assumption)
  (hfl : F.length = js.length := by rfl) (hB : Q4u X.N X.env.scope.names scope.names F js = true := by rfl) (hc : X.calm = true := by rfl) (hk : scope.kind = .function := by rfl) (hs : ∀ x,foldedSetIterable iter X.env x = pure x := by intro _; rfl)
  (hsw : swapsWith (.ListComp elt [⟨tg,iter,ifs,0⟩] scope pos) (some (.Name x p)) spos.line X.env = pure true := by rfl) : Ex X ρ O (.Assign [.Name x p] (.ListComp elt [⟨tg,iter,ifs,0⟩] scope pos) spos) P := by
 rw [<- Z2q] at hP
 refine Y0n k T F js hi (by rw [List.length_map,List.length_map]) (by rw [List.length_map]; exact hsz) (λ i x z h1 h2 => ?_) hP hN hx hlc hf hfl hB hc hk hs hsw
 rw [List.getElem?_map] at h1 h2
 cases e : ps[i]? with
 | none => rw [e] at h1; cases h1
 | some q => rw [e] at h1 h2; cases h1; cases h2; exact turn q (List.mem_of_getElem? e)
theorem Y0l {x : Str} {p spos : Pos} (k : Nat) (g : α -> D) (T F : List Str) (js : List Nat) (hi : EvI X ρ O tg iter (ps.map f)) (hsz : ps.length <= sizeLine) (turn : ∀ q,q ∈ ps -> Z3T X T F js ρ O scope tg elt ifs (f q) (some (g q)))
  (hP : P.nx (ρ.set k (some (.lst (ps.map g)))) O) (hN : X.N.Nodup) (hx : X.N[k]? = some x := by rfl) (hlc : Loc X.env.scope x := by first | exact Or.inl rfl | exact Or.inr rfl) (hf : X.fn x = true \/ X.env.scope.names.lookup x = some .local := by first | exact .inl rfl | exact .inr rfl | assumption)
  (hfl : F.length = js.length := by rfl) (hB : Q4u X.N X.env.scope.names scope.names F js = true := by rfl) (hc : X.calm = true := by rfl) (hk : scope.kind = .function := by rfl) (hs : ∀ x,foldedSetIterable iter X.env x = pure x := by intro _; rfl)
  (hsw : swapsWith (.ListComp elt [⟨tg,iter,ifs,0⟩] scope pos) (some (.Name x p)) spos.line X.env = pure true := by rfl) : Ex X ρ O (.Assign [.Name x p] (.ListComp elt [⟨tg,iter,ifs,0⟩] scope pos) spos) P := by
 rw [<- Z5D,Z2q] at hP
 exact Y0m k (λ q => some (g q)) T F js hi hsz turn hP hN hx hlc hf hfl hB hc hk hs hsw
theorem Q2z {xs : List D} (he : EvP X ρ O e d) (fa : LF d xs) : EvI X ρ O tg e xs := by
 rcases fa with rfl | rfl | rfl
 ·exact Y1x he
 ·exact Y1w he
 ·exact Y1v he
end
end
def cutA {α : Type} (a : List α) (lo hi : Option Int) : List α := (a.drop (HT.sIx a.length 0 lo)).take (HT.sIx a.length a.length hi - HT.sIx a.length 0 lo)
theorem Z4A {α : Type} {f : α -> D} (a : List α) (lo hi : Option Int) : Q5U (a.map f) lo hi = (cutA a lo hi).map f := by
 unfold Q5U cutA
 rw [List.length_map,List.map_take,List.map_drop]
theorem Q9f {α : Type} {a : List α} {lo hi : Option Int} {x : α} (h : x ∈ cutA a lo hi) : x ∈ a := List.mem_of_mem_drop (List.mem_of_mem_take h)
theorem Z5V {α : Type} (a : List α) (lo hi : Option Int) : (cutA a lo hi).length <= a.length := by
 unfold cutA
 rw [List.length_take,List.length_drop]
 omega
theorem Z5U {α : Type} (a : List α) (k : Nat) : cutA a none (some (k : Int)) = a.take k := by
 unfold cutA
 rw [HT.sIx_none,HT.sIx_nat,List.drop_zero,Nat.sub_zero]
 rcases Nat.le_total k a.length with h | h
 ·rw [Nat.min_eq_left h]
 ·rw [Nat.min_eq_right h,List.take_of_length_le (Nat.le_refl _),List.take_of_length_le h]
theorem Z5W {α : Type} (a : List α) (k : Nat) : cutA a (some (k : Int)) none = a.drop k := by
 unfold cutA
 rw [HT.sIx_none,HT.sIx_nat]
 rcases Nat.le_total k a.length with h | h
 ·rw [Nat.min_eq_left h,List.take_of_length_le (by rw [List.length_drop]; exact Nat.le_refl _)]
 ·rw [Nat.min_eq_right h,Nat.sub_self,List.take_zero,List.drop_of_length_le h]
theorem Z1M {α β : Type} {f : α -> D} {g : β -> D} : ∀ (a : List α) (b : List β),zipD (a.map f) (b.map g) = (a.zip b).map λ q => .tup [f q.1,g q.2]
 | [],_ => rfl
 | _ :: _,[] => rfl
 | x :: a,y :: b => by
  have ih := Z1M (f := f) (g := g) a b
  unfold zipD at ih ⊢
  rw [List.map_cons,List.map_cons,List.zipWith_cons_cons,ih]
  rfl
section
variable {X : Cx} {ρ : Rho} {O : Sto} {e a b c : Expr} {es : List Expr} {d da db : D} {ds : List D} {R : D -> Sto -> Prop} {pos p : Pos} {x : Str} {rest : List Stmt} {P : Post}
theorem Z1p {α : Type} {f : α -> D} {as : List α} {lo hi : Option Expr} {l u : Option Int} {p2 : Pos} (ha : EvP X ρ O a (.tup (as.map f))) (hl : EvO X ρ O lo l) (hh : EvO X ρ O hi u) : EvP X ρ O (.Subscript a (.Slice lo hi none p2) pos) (.tup ((cutA as l u).map f)) := by
 rw [<- Z4A]
 exact Y1t ha hl hh
theorem Q6P {α β : Type} {f : α -> D} {g : β -> D} {as : List α} {bs : List β} (ha : EvP X ρ O a da) (hb : EvP X ρ O b db) (fa : LF da (as.map f)) (fb : LF db (bs.map g)) (hm : X.mg "zip" = none) (hg : Gl X "zip" := by rfl) (hs : starEach [a,b] X.env = [(false,eval a X.env),(false,eval b X.env)] := by rfl) (hs2 : starEach [b] X.env = [(false,eval b X.env)] := by rfl) :
  EvZ X ρ O (.Call (.Name "zip" p) [a,b] [] pos) ((as.zip bs).map λ q => .tup [f q.1,g q.2]) "zip" := by
 rw [<- Z1M]
 exact Y1r ha hb fa fb hm hg hs hs2
end
theorem Y0f {α : Type} {f : α -> D} {a : List α} {i : Int} {v : α} (h0 : 0 <= i) (h : a[i.toNat]? = some v) : atI (a.map f) i = some (f v) := by
 obtain ⟨k,rfl⟩ := Int.eq_ofNat_of_zero_le h0
 rw [Int.toNat_natCast] at h
 exact Q2S (by rw [List.getElem?_map,h]; rfl)
def sm {α : Type} (g : α -> Int) : List α -> Int
 | [] => 0
 | a :: l => g a + sm g l
section
variable {α β : Type} {g h : α -> Int} {l m : List α}
theorem Z4z : sm g (l ++ m) = sm g l + sm g m := by
 induction l with
 | nil => exact (Int.zero_add _).symm
 | cons a l ih => show g a + sm g (l ++ m) = (g a + sm g l) + sm g m; rw [ih]; omega
theorem Z0U (p : l.Perm m) : sm g l = sm g m := by
 induction p with
 | nil => rfl
 | cons a _ ih => unfold sm; rw [ih]
 | swap a b l => unfold sm; unfold sm; omega
 | trans _ _ h1 h2 => rw [h1,h2]
theorem Z8U {i : Nat} {a : α} (e : l[i]? = some a) : sm g (l.take (i + 1)) = sm g (l.take i) + g a := by
 rw [List.take_add_one,e,Z4z]
 show _ + (g a + 0) = _
 omega
theorem Q4h (g : α -> Int) (l : List α) : (l.map g).sum = sm g l := by
 induction l with
 | nil => rfl
 | cons a l ih => rw [List.map_cons,List.sum_cons,ih]; rfl
theorem Y0w (l : List Int) : l.sum = sm (λ i => i) l := by rw [<- Q4h,List.map_id']
theorem Z4x (q : ∀ a ∈ l,g a <= h a) : sm g l <= sm h l := by
 induction l with
 | nil => exact Int.le_refl _
 | cons a l ih =>
  have h1 := q a List.mem_cons_self
  have h2 := ih λ b hb => q b (List.mem_cons_of_mem _ hb)
  unfold sm
  omega
theorem Z4y (q : ∀ a ∈ l,g a = h a) : sm g l = sm h l := by
 induction l with
 | nil => rfl
 | cons a l ih =>
  have h1 := q a List.mem_cons_self
  have h2 := ih λ b hb => q b (List.mem_cons_of_mem _ hb)
  unfold sm
  omega
theorem Q9D : sm (λ a => g a + h a) l = sm g l + sm h l := by
 induction l with
 | nil => rfl
 | cons a l ih => unfold sm; rw [ih]; omega
theorem Z4w : sm (λ _ : α => (0 : Int)) l = 0 := by
 induction l with
 | nil => rfl
 | cons a l ih => unfold sm; rw [ih]; rfl
theorem Q9C (q : ∀ a ∈ l,0 <= g a) : 0 <= sm g l := by
 have := Z4x (g := λ _ => 0) (h := g) q
 rw [Z4w] at this
 exact this
theorem sm_bd {B : Int} (q : ∀ a ∈ l,g a <= B) : sm g l <= l.length * B := by
 induction l with
 | nil => show (0 : Int) <= ((0 : Nat) : Int) * B; simp
 | cons a l ih =>
  have h1 := q a List.mem_cons_self
  have h2 := ih λ b hb => q b (List.mem_cons_of_mem _ hb)
  unfold sm
  rw [List.length_cons,Int.natCast_add,Int.add_mul]
  show _ <= _ + (1 : Int) * B
  omega
theorem sm_bd' {B : Int} {n : Nat} (hB : 0 <= B) (hn : l.length <= n) (q : ∀ a ∈ l,g a <= B) : sm g l <= n * B := by
 have h1 := sm_bd q
 have h2 : (l.length : Int) * B <= (n : Int) * B := Int.mul_le_mul_of_nonneg_right wF hB
 omega
theorem Q7O {a : List β} {b : List Int} (e : a.length = b.length) : sm (λ q : β × Int => q.2) (a.zip b) = b.sum := by
 induction a generalizing b with
 | nil => cases b with | nil => rfl | cons _ _ => cases e
 | cons x a ih =>
  cases b with
  | nil => cases e
  | cons y b =>
   rw [List.zip_cons_cons,List.sum_cons]
   unfold sm
   rw [ih (by simpa using e)]
end
theorem Y1G {b : Int} {n : Nat} (h0 : 0 <= b) (h1 : b < 2 ^ n) : PySem.Builtin.Int.intBits b <= n := by
 unfold PySem.Builtin.Int.intBits
 split
 ·exact Nat.zero_le _
 ·rename_i hz
  have hn : b.natAbs < 2 ^ n := by
   have e : ((2 ^ n : Nat) : Int) = 2 ^ n := by rw [Int.natCast_pow]; rfl
   omega
  have hp : b.natAbs ≠ 0 := by
   intro z; apply hz; rw [Int.natAbs_eq_zero.mp z]; rfl
  have := (Nat.log2_lt hp).mpr hn
  omega
theorem mulP {a b : Int} {m n : Nat} (a0 : 0 <= a) (a1 : a < 2 ^ m) (b0 : 0 <= b) (b1 : b < 2 ^ n) (h : m + n <= 134217728 := by decide) : IntMulOk a b := IntMulOk.of_le (Y1G a0 a1) (Y1G b0 b1) h
section
variable {prog : Program} {w : World} {A : Around} {E : Value -> Shared -> Prop} {s : Shared}
end
section
variable {X : Cx} {ρ : Rho} {O : Sto} {e a b c st : Expr} {es : List Expr} {d da db : D} {ds xs : List D} {R : D -> Sto -> Prop} {pos p p2 : Pos} {x : Str} {rest : List Stmt} {P : Post}
theorem reps {K : PySem.W.Frag} {G : Wd} {vs : List V} (r : Iss K G xs vs) (k : Nat) : Iss K G (List.replicate k xs).flatten (List.replicate k vs).flatten := by
 induction k with
 | zero => exact .nil
 | succ k ih => rw [List.replicate_succ,List.replicate_succ,List.flatten_cons,List.flatten_cons]; exact r.append ih
theorem rep1 {d : D} (n : Nat) : (List.replicate n [d]).flatten = List.replicate n d := by
 induction n with
 | zero => rfl
 | succ n ih => rw [List.replicate_succ,List.flatten_cons,ih]; rfl
end
theorem fm_if {α : Type} (p : α -> Bool) (g : α -> D) (l : List α) : l.filterMap (λ q => if p q = true then some (g q) else none) = (l.filter p).map g := by
 induction l with
 | nil => rfl
 | cons a l ih =>
  rw [List.filterMap_cons,List.filter_cons]
  cases h : p a with
  | true => simp [ih]
  | false => simp [ih]
theorem Z1X {α : Type} {g : α -> Int} {l : List α} (c : Int) : sm (λ a => c * g a) l = c * sm g l := by
 induction l with
 | nil => show (0 : Int) = c * 0; rw [Int.mul_zero]
 | cons a l ih => show c * g a + _ = c * (g a + _); rw [ih,Int.mul_add]
theorem Y0z {α β : Type} {g : β -> Int} {f : α -> β} {l : List α} : sm g (l.map f) = sm (λ a => g (f a)) l := by
 induction l with
 | nil => rfl
 | cons a l ih => show g (f a) + _ = g (f a) + _; rw [ih]
section
variable {prog : Program} {w : World} {A : Around} {E : Value -> Shared -> Prop} {s : Shared}
theorem Q7v : fillsNumberSlot (.type "tuple") "mul" = pure false :=
 PySem.fillsNumberSlot_seq (id := "tuple.__mul__") (r := some (.builtin "tuple.__rmul__")) F.slot_tuple_mul.lookup wD F.slot_tuple_rmul.lookup wD
theorem Z9c : seqRepeat? (.type "tuple") = pure (some (.builtin "tuple.__mul__")) := by
 unfold seqRepeat?
 rw [PySem.seqSlot_of (T := "tuple") (name := "__mul__") F.slot_tuple_mul.lookup wD,PySem.seqSlot_of (T := "tuple") (name := "__rmul__") F.slot_tuple_rmul.lookup wD]
 rfl
theorem Q9L {a : Int} {t : Tok} {l : Addr} {its : List Value} {Q : Value -> Shared -> Prop} (ht : IsTup s.heap l its.toArray) (h : Q .notImplemented s) : wpAny (model prog w) A (call (.builtin "int.__rmul__") [.int a t,.ref l]) Q E s := by
 refine wpAny_call_entry F.slot_int_rmul (typeIs_int s a t) F.entry_int_rmul ?_ (F.args_int_rmul_2 _ _)
 obtain ⟨o,ho,hc,n,hd⟩ := ht
 show wpAny (model prog w) _ (asInt? (.ref l) >>= _) _ _ s
 refine wpAny_bind ?_
 unfold asInt?
 refine wpAny_bind (wpAny_load ho ?_)
 rw [hd]
 refine wpAny_pure ?_
 exact wpAny_bind (wpAny_rule (wpAny_pure ⟨_,rfl,h⟩))
theorem Z9x {k : Int} {t : Tok} {l : Addr} {its : List Value} {Q : Value -> Shared -> Prop} (ht : IsTup s.heap l its.toArray) (h1 : 1 <= k) (h2 : k < 2 ^ 62) (hn : its ≠ []) (hz : its.length * k.toNat <= sizeLine)
  (hq1 : k = 1 -> Q (.ref l) s) (hq2 : k ≠ 1 -> Q (.ref s.heap.objs.size) { s with heap := s.heap.push { cls := .type "tuple",data := .seq (List.replicate k.toNat its).flatten.toArray } }) : wpAny (model prog w) A (call (.builtin "tuple.__mul__") [.ref l,.int k t]) Q E s := by
 refine wpAny_call_entry F.slot_tuple_mul ht.typeIs F.entry_tuple_mul ?_ (F.args_tuple_mul_2 _ _)
 show wpAny (model prog w) _ (asIndex (.int k t) >>= _) _ _ s
 refine wpAny_bind ?_
 show wpAny (model prog w) _ (pure k) _ _ s
 refine wpAny_pure ?_
 rw [if_neg (by rw [Bool.or_eq_true,decide_eq_true_eq,decide_eq_true_eq]; omega)]
 refine wpAny_bind (tupleItemsOf_ ht ?_)
 have he : its.toArray.isEmpty = false := by cases its with | nil => exact absurd rfl hn | cons a l => rfl
 by_cases hk : k = 1
 ·rw [if_pos (by rw [hk,Bool.or_eq_true]; exact Or.inr rfl)]
  unfold Builtin.Tuple.tupleIsExact
  refine wpAny_bind (wpAny_bind (wpAny_typeOf ht.typeIs (wpAny_pure ?_)))
  rw [if_pos wE]
  exact wpAny_bind (wpAny_rule (wpAny_pure ⟨_,rfl,hq1 hk⟩))
 ·have hk2 : (k == 1) = false := by simpa using hk
  rw [if_neg (by rw [he,hk2]; exact Bool.false_ne_true)]
  rw [if_neg (by rw [he,Bool.or_false,decide_eq_true_eq]; omega)]
  have hs : ((its.toArray.size : Nat) : Int) * k <= (sizeLine : Nat) := by
   rw [List.size_toArray]
   have e : k = ((k.toNat : Nat) : Int) := by omega
   rw [e]
   exact_mod_cast hz
  have hl := sizeLine_eq
  rw [hl] at hs
  rw [if_neg wF]
  have ht2 : Builtin.Tuple.tupleTooMany (((its.toArray.size : Nat) : Int) * k) = false := by
   unfold Builtin.Tuple.tupleTooMany
   rw [hl]
   exact decide_eq_false wF
  rw [if_neg (by rw [ht2]; exact Bool.false_ne_true)]
  have e : List.foldl (λ x1 x2 => x1 ++ x2) #[] (List.replicate k.toNat its.toArray) = (List.replicate k.toNat its).flatten.toArray := by
   have := Z0g its k.toNat []
   rw [List.nil_append] at this
   exact this
  rw [e]
  exact wpAny_bind (m := Builtin.Tuple.tupleExact _) (wpAny_newObj_type (wpAny_pure ⟨_,rfl,hq2 hk⟩) (by
   show (List.replicate k.toNat its).flatten.toArray.size <= sizeLine
   rw [List.size_toArray,Z5q,Nat.mul_comm]
   exact hz))
end
section
variable {X : Cx} {O : Sto} {xs : List D}
theorem Q7T {i : Int} (h1 : 1 <= i) (h2 : i < 2 ^ 62) (hn : xs ≠ []) (hz : xs.length * i.toNat <= sizeLine) : Op2 X O (binaryOp .Mult) (.tup xs) (.int i) (.tup (List.replicate i.toNat xs).flatten) := λ G pins s σ H x y v u Q I rx ry ⟨sa,j1,j2,k⟩ => by
 cases j2
 have j := j1
 obtain ⟨q,vs,rfl,g,r⟩ := Q3a sa j1
 cases rx
 obtain ⟨t,rfl⟩ := ry
 obtain ⟨its,rr,ht,hzz⟩ := I.tuple g
 have hlen := rr.length
 have hn2 : its ≠ [] := by
  rintro rfl
  have := r.length
  rw [hlen] at this
  exact hn (List.eq_nil_of_length_eq_zero this)
 refine wpAny_binaryOp_repeat_ref (T := "tuple") (U := "int") wE ht.typeIs (λ s' => typeIs_int s' i t) Q7v F.fills_int_mul F.slot_int_rmul Z9c F.slot_int_index.lookup
  (Q9L ht ⟨rfl,ht.typeIs,Z9x ht h1 h2 hn2 (by rw [<- hlen,<- r.length]; exact hz) (λ e => ?_) (λ e => ?_)⟩)
 ·subst e
  refine ⟨.ref q,H,I,rfl,k _ G H (Ext.refl _) sa ?_⟩
  have : (List.replicate (1 : Int).toNat xs).flatten = xs := by show (xs ++ []) = xs; rw [List.append_nil]
  rw [this]
  exact j
 ·obtain ⟨e4,s4⟩ := sa.laid (o := .tup (List.replicate i.toNat vs).flatten) (p := s.heap.objs.size) (I.hok.fresh (Nat.le_refl _))
  refine ⟨.ref _,_,I.laid (t' := s.toks) (o := .tup (List.replicate i.toNat vs).flatten) (λ b ob q => Heap.get?_push_of_some _ q) (Nat.le_refl _) ?_,rfl,k _ _ _ e4 s4 (.tup (SqT.of Q0u) ((reps r _).ext e4))⟩
  exact ⟨by rw [Z5q,Nat.mul_comm,<- r.length]; exact hz,_,rr.rep i.toNat,TupN.new _ _⟩
end
def putD (f : Str) (d : D) : List (Str × D) -> List (Str × D)
 | [] => [(f,d)]
 | (g,x) :: r => if g = f then (g,d) :: r else (g,x) :: putD f d r
section
variable {K : PySem.W.Frag} {G : Wd}
theorem FsIs.look {f : Str} {d : D} : ∀ {fs : List (Str × D)} {vs : List (Str × V)},FsIs K G fs vs -> fs.lookup f = some d -> ∃ v,vs.lookup f = some v /\ Is K G d v
 | _,_,.nil,e => by cases e
 | _,_,.cons (f := g) h r,e => by
  rw [List.lookup_cons] at e
  cases hc : f == g with
  | true =>
   rw [hc] at e
   cases e
   exact ⟨_,by rw [List.lookup_cons,hc],h⟩
  | false =>
   rw [hc] at e
   obtain ⟨v,e1,e2⟩ := FsIs.look r e
   exact ⟨v,by rw [List.lookup_cons,hc]; exact e1,e2⟩
theorem FsIs.none {f : Str} : ∀ {fs : List (Str × D)} {vs : List (Str × V)},FsIs K G fs vs -> fs.lookup f = Option.none -> vs.lookup f = Option.none
 | _,_,.nil,e => rfl
 | _,_,.cons (f := g) h r,e => by
  rw [List.lookup_cons] at e
  cases hc : f == g with
  | true => rw [hc] at e; cases e
  | false =>
   rw [hc] at e
   rw [List.lookup_cons,hc]
   exact FsIs.none r e
theorem FsIs.put {f : Str} {d : D} {v : V} (i : Is K G d v) : ∀ {fs : List (Str × D)} {vs : List (Str × V)},FsIs K G fs vs -> FsIs K G (putD f d fs) (putF f v vs)
 | _,_,.nil => .cons i .nil
 | _,_,.cons (f := g) h r => by
  unfold putD putF
  by_cases e : g = f
  ·rw [if_pos e,if_pos e]; exact .cons i r
  ·rw [if_neg e,if_neg e]; exact .cons h (FsIs.put i r)
theorem FsIs.len : ∀ {fs : List (Str × D)} {vs : List (Str × V)},FsIs K G fs vs -> fs.length = vs.length
 | _,_,.nil => rfl
 | _,_,.cons _ r => by rw [List.length_cons,List.length_cons,r.len]
end
theorem SA.ins {K : PySem.W.Frag} {G : Wd} {H : Hp} {O : Sto} {q : Nat} {C : Addr} {fs : List (Str × D)} {v : V} (s : SA K G H O) (i : Is K G (.ptr q) v) (h : O[q]? = some (some (.ins C fs))) : ∃ a dx vs,v = .ref a /\ G.l[q]? = some a /\ H a = some (.ins C dx vs) /\ FsIs K G fs vs := by
 cases i with
 | ptr _ ha =>
  obtain ⟨a,h1,h2,dx,vs,h3,h4⟩ := s.mt q _ h
  cases Option.some.inj (ha.symm.trans h1)
  exact ⟨_,dx,vs,rfl,h1,h3,h4⟩
section
variable {X : Cx} {ρ : Rho} {O : Sto} {e a b c o value : Expr} {es : List Expr} {d da db : D} {ds : List D} {R : D -> Sto -> Prop} {pos p apos pos' : Pos} {x f m : Str} {rest : List Stmt} {P : Post} {q : Nat} {C : Addr} {fs : List (Str × D)}
theorem Q0n (he : EvP X ρ O e (.ptr q)) (hq : O[q]? = some (some (.ins C fs))) (c : Cls X.K C) (n : Q0l X.K C f) (hl : fs.lookup f = some d) (hb : attributeBase e f X.env (eval e X.env) = eval e X.env := by rfl) : EvP X ρ O (.Attribute e f pos) d := λ G =>
 PE.imp (Y0W (he G) hb) λ σ H Q ⟨h1,h2,h3⟩ => ⟨h1,h2,λ v G1 H1 e1 s1 i1 => by
  obtain ⟨a,dx,vs,rfl,g1,g2,g3⟩ := s1.ins i1 hq
  obtain ⟨v,l,iv⟩ := g3.look hl
  exact ⟨a,C,dx,vs,v,rfl,g2,c,n,l,h3 v G1 H1 e1 s1 iv⟩⟩
theorem Q1V (hv : EvP X ρ O value d) (ho : EvP X ρ O o (.ptr q)) (hq : O[q]? = some (some (.ins C fs))) (c : Cls X.K C) (n : Q0l X.K C f) (hz : fs.length < 1000) (h : P.nx ρ (O.set q (some (.ins C (putD f d fs))))) (hs : swapsWith value (some (.Attribute o f pos')) pos.line X.env = pure false := by rfl) :
  Ex X ρ O (.Assign [.Attribute o f pos'] value pos) P := λ G pins s σ H E I ⟨h1,h2,h3⟩ => by
 refine plainObj_wpAny_Assign_Attribute (thn (hv G pins s σ H (λ v H1 => ∃ G1,Ext G G1 /\ SA X.K G1 H1 O /\ Is X.K G1 d v) I ⟨h1,h2,λ v G' H' e s i => ⟨G',e,s,i⟩⟩) λ u s1 ⟨y,H1,I1,ry,G1,e1,sa1,i1⟩ =>
  thn (ho G1 pins s1 σ H1 (λ v H2 => ∃ G2,Ext G1 G2 /\ SA X.K G2 H2 O /\ Is X.K G2 (.ptr q) v) I1 ⟨sa1,h2.ext e1,λ v G' H' e s i => ⟨G',e,s,i⟩⟩) λ ov s2 ⟨x,H2,I2,rx,G2,e2,sa2,i2⟩ => ?_) hs
 obtain ⟨a,dx,vs,rfl,g1,g2,g3⟩ := sa2.ins i2 hq
 obtain rfl : ov = Value.ref a := rx
 refine Q7R I2 g2 c n (by rw [<- g3.len]; exact hz) ry λ s3 I3 => ⟨σ,_,I3,?_⟩
 exact h3.nx σ ρ _ G2 _ (e1.trans e2) (sa2.put (m' := .ins C (putD f d fs)) hq g1 ⟨dx,_,Q0u,g3.put (i1.ext e2)⟩) (h2.ext (e1.trans e2)) h
structure Q0e (P : Program) (w : World) (K : PySem.W.Frag) (mg : Str -> Option Value) (base : Heap) (C : Addr) (k : Nat) (m : Str) (sp : SpD) : Prop where
 ex : ∃ f fd ps,FnOk P w K mg base CX0 k f fd ps (toSp K sp) /\ Meth K C m f /\ Q0A K fd ps []
 cls : Cls K C
theorem Q1e {k : Nat} {sp : SpD} {pl : Sem Bool} (M : Q0e X.prog X.w X.K X.mg X.base C k m sp) (hr : Room k X.A) (ho : EvP X ρ O o (.ptr q)) (hq : O[q]? = some (some (.ins C fs))) (hno : fs.lookup m = none) (ha : EvPs X ρ O (e :: es) ds) (hs : sp (.ptr q :: ds) O R)
  (hst : starEach (e :: es) X.env = (false,eval e X.env) :: starEach es X.env := by rfl) (hpl : (backTo pos (starEach es X.env)).any (·.1) = false := by rfl)
  (ht : eval (.Call (.Attribute o m apos) (e :: es) [] pos) X.env = (do
   let ov <- eval o X.env
   standAt apos.atName
   let (f,first) <- holding [ov] (getMethod ov m pl)
   callWith pos f first (backTo pos (starEach (e :: es) X.env)) (backToKw pos (keywordEach [] X.env))) := by rfl) : Ev X ρ O (.Call (.Attribute o m apos) (e :: es) [] pos) R := λ G pins s σ H Q I ⟨h1,h2,h3⟩ => by
 obtain ⟨f,fd,ps,g1,g2,g3⟩ := M.ex
 refine Z9m (t := λ σ H Q => ∃ G1,SA X.K G1 H O /\ EnvR X.K G1 σ ρ /\ ∀ vs G' H',Ext G1 G' -> SA X.K G' H' O -> Iss X.K G' ds vs -> Q vs H') (ho G) M.cls g2 g1 hr g3 .nil Z3i (λ pos pins s σ H Q I ⟨G1,z⟩ => ha G1 pos pins s σ H Q I z) hst hpl ht pins s σ H Q I ⟨h1,h2,λ v G1 H1 e1 s1 i1 => ?_⟩
 obtain ⟨a,dx,vs,rfl,k1,k2,k3⟩ := s1.ins i1 hq
 refine ⟨a,dx,vs,rfl,k2,k3.none hno,G1,s1,h2.ext e1,λ us G2 H2 e2 s2 i2 => ?_⟩
 show toSp X.K sp (V.ref a :: (us ++ [])) H2 Q E0
 rw [List.append_nil]
 exact ⟨G2,O,.ptr q :: ds,R,s2,.cons (i1.ext e2) i2,hs,λ v d O' G' H' e3 s3 i3 r3 => h3 v d O' G' H' ((e1.trans e2).trans e3) s3 i3 r3⟩
theorem Q1m {k : Nat} {sp : SpD} {pl : Sem Bool} (M : Q0e X.prog X.w X.K X.mg X.base C k m sp) (hr : Room k X.A) (ho : EvP X ρ O o (.ptr q)) (hq : O[q]? = some (some (.ins C fs))) (hno : fs.lookup m = none) (hs : sp [.ptr q] O R)
  (ht : eval (.Call (.Attribute o m apos) [] [] pos) X.env = (do
   let ov <- eval o X.env
   standAt apos.atName
   let (f,first) <- holding [ov] (getMethod ov m pl)
   callWith pos f first (backTo pos (starEach [] X.env)) (backToKw pos (keywordEach [] X.env))) := by rfl) : Ev X ρ O (.Call (.Attribute o m apos) [] [] pos) R := λ G pins s σ H Q I ⟨h1,h2,h3⟩ => by
 obtain ⟨f,fd,ps,g1,g2,g3⟩ := M.ex
 refine Z7o (ho G) M.cls g2 g1 hr g3 .nil Z3i ht pins s σ H Q I ⟨h1,h2,λ v G1 H1 e1 s1 i1 => ?_⟩
 obtain ⟨a,dx,vs,rfl,k1,k2,k3⟩ := s1.ins i1 hq
 refine ⟨a,dx,vs,rfl,k2,k3.none hno,?_⟩
 show toSp X.K sp (V.ref a :: []) H1 Q E0
 exact ⟨G1,O,[.ptr q],R,s1,.cons i1 .nil,hs,λ v d O' G' H' e3 s3 i3 r3 => h3 v d O' G' H' (e1.trans e3) s3 i3 r3⟩
structure Q0R (P : Program) (w : World) (K : PySem.W.Frag) (mg : Str -> Option Value) (base : Heap) (C : Addr) (k : Nat) (x : Str) (sp : SpD) : Prop where
 ex : ∃ f fd ps,FnOk P w K mg base CX0 k f fd ps (toSp K sp) /\ Mk K C f /\ Q0A K fd ps []
 at_ : mg x = some (.ref C)
theorem made {K : PySem.W.Frag} {G : Wd} {H : Hp} {y dx : Addr} (s : SA K G H O) (h1 : H y = none) (h2 : H dx = none) (h3 : dx ≠ y) : Ext G ⟨G.g,G.l ++ [y]⟩ /\ SA K ⟨G.g,G.l ++ [y]⟩ (upd (upd H dx (.own y)) y (.ins C dx [])) (O ++ [some (.ins C [])]) :=
 (s.grow (Q4m h2)).new (by rw [Q0w]; exact h1; exact λ e => h3 e.symm) ⟨dx,[],Q0u,.nil⟩
theorem Q1s {k : Nat} {sp : SpD} (M : Q0R X.prog X.w X.K X.mg X.base C k x sp) (hr : Room (k + 1) X.A) (ha : EvPs X ρ O (e :: es) ds) (hs : sp (.ptr O.length :: ds) (O ++ [some (.ins C [])]) λ d O' => d = .non /\ R (.ptr O.length) O')
  (hg : Gl X x := by rfl) (hdb : (x == ("__debug__" : Str)) = false := by decide) (he : starEach (e :: es) X.env = (false,eval e X.env) :: starEach es X.env := by rfl) (hpl : (backTo pos (starEach es X.env)).any (·.1) = false := by rfl) :
  Ev X ρ O (.Call (.Name x p) (e :: es) [] pos) R := λ G pins s σ H Q I ⟨h1,h2,h3⟩ => by
 obtain ⟨f,fd,ps,g1,g2,g3⟩ := M.ex
 refine Z4X g2 g1 hr hg M.at_ g3 .nil Z3i (ha G) hdb he hpl pins s σ H Q I ⟨h1,h2,λ vs G1 H1 e1 s1 i1 => λ y dx k1 k2 k3 => ?_⟩
 obtain ⟨e2,s2⟩ := made (C := C) s1 k1 k2 k3
 have iy : Is X.K ⟨G1.g,G1.l ++ [y]⟩ (.ptr O.length) (.ref y) := .ptr _ (by rw [<- s1.len,List.getElem?_append_right (Nat.le_refl _),Nat.sub_self]; rfl)
 show toSp X.K sp (V.ref y :: (vs ++ [])) _ _ E0
 rw [List.append_nil]
 refine ⟨_,_,.ptr O.length :: ds,_,s2,.cons iy (i1.ext e2),hs,λ v d O' G' H' e3 s3 i3 r3 => ?_⟩
 obtain ⟨rfl,r⟩ := r3
 cases i3
 exact ⟨rfl,h3 _ _ O' G' H' ((e1.trans e2).trans e3) s3 (iy.ext e3) r⟩
end
section
variable {X : Cx} {ρ : Rho} {O : Sto} {e a b c o ix value : Expr} {es : List Expr} {d da db : D} {ds xs : List D} {R : D -> Sto -> Prop} {pos p apos tpos : Pos} {x f m : Str} {rest : List Stmt} {P : Post} {q j : Nat} {i : Int}
end
end DL
namespace DL
open PySem PySem.Spec PyProof.Rows L2 PySem.W
structure EW (n : Nat) (k : Bool) (l i : Nat) (j : Int) (xs : Array Value) (f0 f1 old : Value) (h : Heap) : Prop where
 z : h.get? (n + 1) = some { cls := .type "enumerate",dict := none,data := .fields #[f0,f1,.ref n,.int j 0,.none,old],slots := #[] }
 w : SIt k h n l i
 s : SSq k h l xs
 b : l < n
def Oth2 (n : Nat) (h h' : Heap) : Prop := ∀ c o,c ≠ n -> c ≠ n + 1 -> h.get? c = some o -> h'.get? c = some o
theorem Oth2.refl (n : Nat) (h : Heap) : Oth2 n h h := λ _ _ _ _ e => e
theorem Oth2.on {n : Nat} {h h1 h2 : Heap} (p : Oth2 n h h1) (q : Oth2 n h1 h2) : Oth2 n h h2 := λ c o c1 c2 e => q c o c1 c2 (p c o c1 c2 e)
theorem Oth2.more {n : Nat} {h h' : Heap} {o : Obj} (p : Oth2 n h h') : Oth2 n h (h'.push o) := p.on λ c u _ _ q => Heap.get?_push_of_some _ q
section
variable {prog : Program} {w : World} {A : Around} {E : Value -> Shared -> Prop} {s : Shared} {n l i : Nat} {j : Int} {k : Bool} {xs : Array Value} {f0 f1 old v : Value}
theorem EW.set {m : Nat} {vs : Array Value} {Q : Unit -> Shared -> Prop} (W : EW n k l i j xs f0 f1 old s.heap) (hm : m < 6)
  (hQ : ∀ h',h'.get? (n + 1) = some { cls := .type "enumerate",dict := none,data := .fields ((#[f0,f1,.ref n,.int j 0,.none,old] : Array Value).setIfInBounds m v),slots := #[] } -> SIt k h' n l i -> SSq k h' l xs -> Oth2 n s.heap h' -> h'.objs.size = s.heap.objs.size -> Q () { s with heap := h' }) : wpAny (model prog w) A (setField (.ref (n + 1)) m v) Q E s :=
 wpAny_setField_rec W.z hm λ h' g e => hQ h' g (W.w.at λ o => e.extBut _ _ (ap wF)) (W.s.at λ o => e.extBut _ _ (ap (by have := W.b; omega))) (λ c o _ c2 q => e.extBut _ _ c2 q) e.1
theorem EW.set0 {Q : Unit -> Shared -> Prop} (W : EW n k l i j xs f0 f1 old s.heap) (hQ : ∀ h',EW n k l i j xs v f1 old h' -> Oth2 n s.heap h' -> h'.objs.size = s.heap.objs.size -> Q () { s with heap := h' }) : wpAny (model prog w) A (setField (.ref (n + 1)) 0 v) Q E s := W.set (vs := #[]) wE λ h' a b c d e => hQ h' ⟨a,b,c,W.b⟩ d e
theorem EW.set1 {Q : Unit -> Shared -> Prop} (W : EW n k l i j xs f0 f1 old s.heap) (hQ : ∀ h',EW n k l i j xs f0 v old h' -> Oth2 n s.heap h' -> h'.objs.size = s.heap.objs.size -> Q () { s with heap := h' }) : wpAny (model prog w) A (setField (.ref (n + 1)) 1 v) Q E s := W.set (vs := #[]) wE λ h' a b c d e => hQ h' ⟨a,b,c,W.b⟩ d e
theorem EW.set3 {j' : Int} {Q : Unit -> Shared -> Prop} (W : EW n k l i j xs f0 f1 old s.heap) (hQ : ∀ h',EW n k l i j' xs f0 f1 old h' -> Oth2 n s.heap h' -> h'.objs.size = s.heap.objs.size -> Q () { s with heap := h' }) : wpAny (model prog w) A (setField (.ref (n + 1)) 3 (rawInt j')) Q E s := W.set (vs := #[]) wE λ h' a b c d e => hQ h' ⟨a,b,c,W.b⟩ d e
theorem EW.set4 {Q : Unit -> Shared -> Prop} (W : EW n k l i j xs f0 f1 old s.heap) (hQ : ∀ h',EW n k l i j xs f0 f1 old h' -> Oth2 n s.heap h' -> h'.objs.size = s.heap.objs.size -> Q () { s with heap := h' }) : wpAny (model prog w) A (setField (.ref (n + 1)) 4 .none) Q E s := W.set (vs := #[]) wE λ h' a b c d e => hQ h' ⟨a,b,c,W.b⟩ d e
theorem EW.set5 {Q : Unit -> Shared -> Prop} (W : EW n k l i j xs f0 f1 old s.heap) (hQ : ∀ h',EW n k l i j xs f0 f1 v h' -> Oth2 n s.heap h' -> h'.objs.size = s.heap.objs.size -> Q () { s with heap := h' }) : wpAny (model prog w) A (setField (.ref (n + 1)) 5 v) Q E s := W.set (vs := #[]) wE λ h' a b c d e => hQ h' ⟨a,b,c,W.b⟩ d e
theorem EW.inner {Q : Value -> Shared -> Prop} (W : EW n k l i j xs f0 f1 old s.heap) (h : Q (.ref n) s) : wpAny (model prog w) A (field (.ref (n + 1)) 2) Q E s := wpAny_field W.z rfl (x := .ref n) rfl h
theorem EW.draw {x : Value} {Q : Value -> Shared -> Prop} (W : EW n k l i j xs f0 f1 old s.heap) (hx : xs[i]? = some x) (hQ : ∀ h',EW n k l (i + 1) j xs f0 f1 old h' -> Oth2 n s.heap h' -> h'.objs.size = s.heap.objs.size -> Q x { s with heap := h' }) : wpAny (model prog w) A (Builtin.SmallTypes.nextOf (.ref n)) Q E s :=
 Z0M W.w W.s hx λ h' g e => hQ h' ⟨e.extBut _ _ (ap wF) W.z,g,W.s.at λ o => e.extBut _ _ (ap (by have := W.b; omega)),W.b⟩ (λ c o c1 _ q => e.extBut _ _ c1 q) e.1
theorem EW.free {Q : Bool -> Shared -> Prop} (W : EW n k l i j xs f0 f1 old s.heap) (hf : ZF f0) (y : Q true s) (z : ∀ h' f,EW n k l i j xs f0 f old h' -> Oth2 n s.heap h' -> h'.objs.size = s.heap.objs.size -> Q false { s with heap := h' }) : wpAny (model prog w) A (Builtin.SmallTypes.ownedTupleIsFree (.ref (n + 1))) Q E s := by
 obtain ⟨h,g,d,tk,os⟩ := s
 have hz := W.z
 dsimp only at hz
 rcases hf with rfl | ⟨c,rfl⟩
 ·wp_walk
  exact y
 ·wp_walk using Z2I
  cases h.get? (Int.toNat (c : Int)) with
  | none => wp_walk; exact y
  | some o =>
   by_cases m : f1 = .bool true
   ·subst m
    wp_walk
    exact z _ _ W (Oth2.refl _ _) rfl
   ·wp_walk using W.set1
    exact λ h' V o1 o2 => wpAny_pure (z h' _ V o1 o2)
theorem EW.more {h : Heap} {o : Obj} (W : EW n k l i j xs f0 f1 old h) : EW n k l i j xs f0 f1 old (h.push o) :=
 have e : ∀ c u,h.get? c = some u -> (h.push o).get? c = some u := λ c u q => Heap.get?_push_of_some _ q
 ⟨e _ _ W.z,W.w.at (e _),W.s.at (e _),W.b⟩
theorem Z5M {x : Value} {Q : Value -> Shared -> Prop} (W : EW n k l i j xs f0 f1 old s.heap) (hf : ZF f0) (hx : xs[i]? = some x)
  (hQ : ∀ h' t f0' f1' old' tk',EW n k l (i + 1) (j + 1) xs f0' f1' old' h' -> ZF f0' -> IsPair h' s.heap.objs.size (.int j t) x -> Oth2 n s.heap h' -> Q (.ref s.heap.objs.size) { s with heap := h',toks := tk' }) :
  wpAny (model prog w) A (Builtin.«enumerate.__next__» ⟨[.ref (n + 1)],[]⟩) (λ fin s' => ∃ v,fin = .done (.ret v) /\ Q v s') E s := by
 obtain ⟨h,g,d,tk,os⟩ := s
 dsimp only at W hQ
 have z := W.z
 have lt : n + 1 < h.objs.size := Heap.lt_size z
 wp_walk using W.inner,W.draw hx
 intro h1 W1 o1 z1
 have t1 := W1.z
 wp_walk using EW.set3 (s := ⟨h1,g,d,tk + 1,os⟩) W1
 intro h2 W2 o2 z2
 wp_walk using EW.set4 (s := ⟨h2,g,d,tk + 1,os⟩) W2
 intro h3 W3 o3 z3
 have zl : h3.objs.size = h.objs.size := z3.trans (z2.trans z1)
 have ol : Oth2 n h h3 := o1.on (o2.on o3)
 have W4 : EW n k l (i + 1) (j + 1) xs f0 f1 old (h3.push { cls := .type "tuple",data := .seq #[.int j tk,x] }) := W3.more
 have t4 := W4.z
 have pr : IsPair (h3.push { cls := .type "tuple",data := .seq #[.int j tk,x] }) h3.objs.size (.int j tk) x := Heap.get?_push_size _ rfl
 have far : ∀ m,m <= 1 -> h3.objs.size ≠ n + m := λ m hm => by omega
 have far0 : h3.objs.size ≠ n := far 0 wE
 have far1 : h3.objs.size ≠ n + 1 := far 1 wE
 rw [<- zl] at hQ
 wp_walk using EW.free (s := ⟨h3.push _,g,d,tk + 1,os⟩) W4 hf,EW.set5 (s := ⟨h3.push _,g,d,tk + 1,os⟩) W4
 ·intro h5 W5 o5 z5
  wp_walk using EW.set0 (s := ⟨h5,g,d,tk + 1,os⟩) W5
  intro h6 W6 o6 z6
  wp_walk using EW.set1 (s := ⟨h6,g,d,tk + 1,os⟩) W6
  intro h7 W7 o7 z7
  wp_walk
  exact ⟨_,rfl,hQ h7 tk _ _ _ _ W7 (.inr ⟨_,rfl⟩) (o7 _ _ far0 far1 (o6 _ _ far0 far1 (o5 _ _ far0 far1 pr))) (ol.more.on (o5.on (o6.on o7)))⟩
 ·intro h5 f W5 o5 z5
  wp_walk
  exact ⟨_,rfl,hQ h5 tk _ _ _ _ W5 hf (o5 _ _ far0 far1 pr) (ol.more.on o5)⟩
theorem Z7K {Q : PySem.Fin -> Shared -> Prop} (hh : A.handled = none) (W : EW n k l i j xs f0 f1 old s.heap) (he : xs[i]? = none) (hE : ∀ h' e,Oth2 n s.heap h' -> (∃ o,h'.get? e = some o /\ o.cls = .type "StopIteration") -> E (.ref e) { s with heap := h' }) :
  wpAny (model prog w) A (Builtin.«enumerate.__next__» ⟨[.ref (n + 1)],[]⟩) Q E s := by
 obtain ⟨h,g,d,tk,os⟩ := s
 dsimp only at W hE
 wp_walk using W.inner,Z4n hh W.w W.s he
 exact λ h' e x y => hE h' e (λ c o c1 _ q => x c o c1 q) y
def etn (k : Bool) (n l i : Nat) (h : Heap) : Prop := ∃ f0 f1 old,ZF f0 /\ h.get? (n + 1) = some { cls := .type "enumerate",dict := none,data := .fields #[f0,f1,.ref n,.int i 0,.none,old],slots := #[] } /\ SIt k h n l i
theorem EW.tn {h : Heap} (W : EW n k l i i xs f0 f1 old h) (hf : ZF f0) : etn k n l i h := ⟨f0,f1,old,hf,W.z,W.w⟩
theorem Z9I {tg : Expr} {u : Value} {Q : Unit -> Shared -> Prop} (W : EW n k l i j xs f0 f1 old s.heap) (hf : ZF f0) (hQ : ∀ h' f,EW n k l i j xs f f1 old h' -> ZF f -> Oth2 n s.heap h' -> Q () { s with heap := h' }) : wpAny (model prog w) A (letOwnedTupleGo tg (.ref (n + 1)) u) Q E s := by
 have same : Q () s := hQ s.heap _ W hf (Oth2.refl _ _)
 obtain ⟨h,g,d,tk,os⟩ := s
 have z := W.z
 dsimp only at z
 unfold letOwnedTupleGo
 cases tg <;> try exact wpAny_pure same
 all_goals cases u <;> try exact wpAny_pure same
 all_goals
  wp_walk
  split
  ·exact wpAny_bind (wpAny_rule (W.set0 (s := ⟨h,g,d,tk,os⟩) (v := .none) λ h' V o z => hQ h' _ V (.inl rfl) o))
  ·exact wpAny_pure same
theorem Z0K {M : Model} {c : Value} {Q : Bool -> Shared -> Prop} (h : ∀ b,Q b s) : wpAny M A (Builtin.SmallTypes.calledThroughType c) Q E s := wpAny_bind (wpAny_stack_any λ _ => wpAny_pure (h _))
end
theorem Z5L (k : Bool) (l : Addr) (xs : Array Value) :
  Meets (Builtin.«enumerate.__new__» ⟨[.type "enumerate",.ref l],[]⟩) (λ _ R s => SSq k s.heap l xs /\
   ∀ h',EW s.heap.objs.size k l 0 0 xs .none (.bool false) .none h' -> (∀ c o,s.heap.get? c = some o -> h'.get? c = some o) -> R (.ok (.ret (.ref (s.heap.objs.size + 1)))) { s with heap := h' }) :=
 .of_wp λ prog w A R s q => by
  obtain ⟨h,g,d,tk,os⟩ := s
  obtain ⟨t,q⟩ := q
  have hsub := sub_enumerate
  have lt : l < h.objs.size := by
   cases k with
   | true => obtain ⟨o,g,_⟩ := (t : h.IsList l xs); exact Heap.lt_size g
   | false => obtain ⟨o,g,_⟩ := (t : h.IsTuple l xs); exact Heap.lt_size g
  wp_walk using Z0K
  intro b
  have fin : ∀ a,a.isFreed = false -> (∀ (h : Heap) c,h.get? c = some a -> SIt k h c l 0) -> R (.ok (.ret (.ref (h.push a).objs.size))) ⟨(h.push a).push { cls := .type "enumerate",data := .fields #[.none,.bool false,.ref h.objs.size,.int 0 0,.none,.none] },g,d,tk,os⟩ := λ a fa ia => by
   have up : ∀ c u,h.get? c = some u -> ((h.push a).push { cls := .type "enumerate",data := .fields #[.none,.bool false,.ref h.objs.size,.int 0 0,.none,.none] }).get? c = some u := λ c u e => Heap.get?_push_of_some _ (Heap.get?_push_of_some _ e)
   rw [Heap.size_push]
   refine q _ ⟨?_,ia _ _ (Heap.get?_push_of_some _ (Heap.get?_push_size _ fa)),t.at (up _),lt⟩ up
   rw [<- Heap.size_push h a]
   exact Heap.get?_push_size _ rfl
  cases b
  all_goals
   wp_walk using Z1m t
   intro a fa ia
   wp_walk
   exact ⟨_,rfl,fin a fa ia⟩
theorem Z6i {prog : Program} {w : World} {A : Around} {E : Value -> Shared -> Prop} {s : Shared} {k : Bool} {l : Addr} {xs : Array Value} {Q : Value -> Shared -> Prop} (t : SSq k s.heap l xs)
  (hQ : ∀ h',etn k s.heap.objs.size l 0 h' -> (∀ c o,s.heap.get? c = some o -> h'.get? c = some o) -> Q (.ref (s.heap.objs.size + 1)) { s with heap := h' }) : wpAny (model prog w) A (call (.type "enumerate") [.ref l]) Q E s :=
 callType_new F.called_enumerate wE (F.typeCall_enumerate_1 _) (F.newCall_enumerate_1 _) (λ obj => F.args_object_init_2 obj _) F.entry_enumerate_new (Z5L k l xs) ⟨t,λ h' W up => ⟨⟨_,W.z,rfl⟩,hQ h' (W.tn (.inl rfl)) up⟩⟩
def Ite (k : Bool) (K : PySem.W.Frag) (l : Addr) : It :=
  ⟨λ i H => ∃ as a,Sq k K H l as /\ as[i]? = some a,
   λ i H x H' => ∃ T a,H T = none /\ H' = upd H T (.tup [.int (i : Nat),a]) /\ x = .ref T /\ ∀ as,Sq k K H l as -> as[i]? = some a,
   λ i H => ∃ as,Sq k K H l as /\ as.length <= i⟩
def efp (n : Nat) : List Addr := [n,n + 1]
theorem Z7I {k : Bool} {n l i : Nat} {h h' : Heap} (st : etn k n l i h) (q : ∀ b ∈ efp n,∀ o,h.get? b = some o -> h'.get? b = some o) : etn k n l i h' := by
 obtain ⟨f0,f1,old,hf,z,w⟩ := st
 exact ⟨f0,f1,old,hf,q _ (by simp [efp]) _ z,w.at (q _ (by simp [efp]))⟩
theorem Z5J {k : Bool} {n l i : Nat} {h : Heap} (st : etn k n l i h) : ∀ b ∈ efp n,∃ o,h.get? b = some o /\ ∀ v,o.data ≠ .cell v := by
 obtain ⟨f0,f1,old,hf,z,w⟩ := st
 intro b hb
 rcases List.mem_cons.mp hb with rfl | hb
 ·exact w.obj
 ·cases List.mem_singleton.mp hb
  exact ⟨_,z,λ v e => by cases e⟩
theorem Oth2.fp {n : Nat} {h h' : Heap} (p : Oth2 n h h') : ∀ c o,c ∉ efp n -> h.get? c = some o -> h'.get? c = some o := λ c o hc => p c o (λ e => hc (by simp [efp,e])) (λ e => hc (by simp [efp,e]))
theorem Z4f {P : Program} {w : World} {K : PySem.W.Frag} {tg : Expr} (k : Bool) (n l : Nat) (hl : l < n) : Turn P w K tg (Ite k K l) (efp n) (n + 1) (etn k n l) where
 mem := by simp [efp]
 obj := λ i h st => Z5J st
 keep := λ i h h' st q => Z7I st q
 item := by
  intro X hP hw hK hc i pins s σ H E I hf st hg
  subst hP hw hK
  obtain ⟨as,a,q1,ga⟩ := hg
  obtain ⟨ia,va,sa,_⟩ := Q3s I q1
  obtain ⟨ua,hua,rua⟩ := va.get ga
  have hTn : s.heap.objs.size ∉ efp n := λ m => let ⟨o,e,_⟩ := Z5J st _ m; Nat.lt_irrefl _ (Heap.lt_size e)
  obtain ⟨f0,f1,old,zf,z,w1⟩ := st
  refine Q8S ⟨_,z,rfl⟩ F.slot_enumerate_next F.entry_enumerate_next (F.args_enumerate_next_1 _) (Z5M (x := ua) ⟨z,w1,sa,hl⟩ zf (by simpa using hua) λ h1 t f0' f1' old' tk' W1 zf1 pr o1 => ⟨_,rfl,Z9I (s := { s with heap := h1,toks := tk' }) W1 zf1 λ h2 f W2 zf2 o2 => ?_⟩)
  have Iz : L2.Inv X pins σ H { s with heap := h2,toks := tk' } := Q5I I hf (o1.on o2).fp
  have fr : H s.heap.objs.size = none := I.hok.fresh (Nat.le_refl _)
  refine ⟨.ref s.heap.objs.size,upd H s.heap.objs.size (.tup [.int (i : Nat),a]),?_,rfl,⟨_,a,fr,rfl,rfl,λ cs q => ?_⟩,?_,λ c hb => ?_⟩
  ·refine Z0D Iz (I.fpOk (Nat.le_refl _) fr) I.sz ⟨show 2 <= sizeLine by decide,[.int i t,ua],.cons ⟨t,rfl⟩ (.cons rua .nil),?_⟩
   exact ⟨_,o2.fp _ _ hTn pr,rfl,rfl,_,rfl⟩
  ·rw [Q4Y I q q1]; exact ga
  ·exact EW.tn (i := i + 1) W2 zf2
  ·rw [Q0w (λ e => hTn (by rw [<- e]; exact hb))]; exact (hf c hb).1
 done := by
  intro X hP hw hK hc i pins s σ H E I hf st hg
  subst hP hw hK
  obtain ⟨as,q1,hend⟩ := hg
  obtain ⟨ia,va,sa,_⟩ := Q3s I q1
  obtain ⟨f0,f1,old,zf,z,w1⟩ := st
  have e1 := va.length
  exact Q8S ⟨_,z,rfl⟩ F.slot_enumerate_next F.entry_enumerate_next (F.args_enumerate_next_1 _) (Z7K (I.ok.hd hc) ⟨z,w1,sa,hl⟩ (by simp; omega) λ h' e p q => ⟨q,rfl,Q5I (t' := s.toks) I hf p.fp⟩)
 self := λ A i s Q E st h => by
  obtain ⟨f0,f1,old,zf,z,_⟩ := st
  exact Z2i ⟨_,z,rfl⟩ F.slot_enumerate_iter F.entry_enumerate_iter (F.args_enumerate_iter_1 _) F.slot_enumerate_next (wpAny_pure ⟨rfl,rfl⟩) h
theorem Z3z {K : PySem.W.Frag} {G : Wd} {k : Bool} {l : Addr} {vs : List V} {xs : List D} (h1 : Sq k K G.g l vs) (r1 : Iss K G xs vs) : Q2Y K G (Ite k K l) (xs.zipIdx.map λ p => .tup [.int (p.2 : Nat),p.1]) where
 go := λ i H e hi => by
  have hi : i < xs.length := by simpa using hi
  obtain ⟨a,ha,_⟩ := r1.get (i := i) (d := xs[i]) (by simp)
  exact ⟨vs,a,h1.same e,ha⟩
 stop := λ i H e hi => by
  have hi : xs.length <= i := by simpa using hi
  exact ⟨vs,h1.same e,by rw [<- r1.length]; exact hi⟩
 yld := λ i v H H' G2 O2 e s y hi => by
  obtain ⟨T,a,hT,rfl,rfl,y1⟩ := y
  obtain ⟨x,hx,ix⟩ := r1.getV (y1 vs (h1.same (e.g.trans s.sub)))
  obtain ⟨e3,s3⟩ := s.laid (o := .tup [.int (i : Nat),a]) hT
  refine ⟨.tup [.int (i : Nat),x],_,?_,e3,s3,.tup (SqT.of Q0u) (.cons (.int _) (.cons (ix.ext (e.trans e3)) .nil))⟩
  rw [List.getElem?_map,List.getElem?_zipIdx,hx]
  simp
section
variable {X : Cx} {ρ : Rho} {O : Sto} {e a b c : Expr} {es : List Expr} {d da db : D} {ds : List D} {R : D -> Sto -> Prop} {pos p : Pos} {x : Str} {xs ys : List D}
theorem Z9Q (ha : EvP X ρ O a da) (fa : LF da xs) (hm : X.mg "enumerate" = none) (hg : Gl X "enumerate" := by rfl) (hs : starEach [a] X.env = [(false,eval a X.env)] := by rfl) :
  EvZ X ρ O (.Call (.Name "enumerate" p) [a] [] pos) (xs.zipIdx.map λ p => .tup [.int (p.2 : Nat),p.1]) "enumerate" := λ G tg pins s σ H R I sa en k => by
 refine Call_ (Q5b I hg hm boot_enumerate (PyProof.Rows.callWith_type1 (thn (Q0a ha Q0d hs G pos pins s σ H (λ vs H' => ∃ G',Ext G G' /\ SA X.K G' H' O /\ Iss X.K G' [da] vs) I ⟨sa,en,λ vs G' H' e1 s1 i1 => ⟨G',e1,s1,i1⟩⟩) λ us s1 ⟨vs,H1,I1,r1,G1,e1,sa1,is1⟩ => ?_) (by rw [hs]; rfl) rfl))
 cases is1 with | cons i1 is1 =>
 cases is1
 obtain ⟨k1,l1,v1,rfl,q1,j1⟩ := fa.sq i1
 obtain ⟨u,rfl,ru⟩ := Q7f r1
 cases ru
 obtain ⟨t1,w1,g1,z1⟩ := Q3s I1 (q1.same sa1.sub)
 have lt : l1 < s1.heap.objs.size := by
  cases k1 with
  | true => obtain ⟨o,g,_⟩ := (g1 : s1.heap.IsList l1 _); exact Heap.lt_size g
  | false => obtain ⟨o,g,_⟩ := (g1 : s1.heap.IsTuple l1 _); exact Heap.lt_size g
 refine Z6i g1 λ h' Z kp => ?_
 have Ik : L2.Inv X pins σ H1 { s1 with heap := h',toks := s1.toks } := I1.kept kp
 refine ⟨⟨s1.heap.objs.size + 1,efp s1.heap.objs.size,etn k1 s1.heap.objs.size l1,Ite k1 X.K l1,H1,rfl,Ik,Z4f k1 _ l1 lt,Z,λ b hb => ?_,k _ G1 H1 e1 sa1 (Z3z q1 j1)⟩,?_⟩
 ·have hb' : s1.heap.objs.size <= b := by
   rcases List.mem_cons.mp hb with rfl | hb
   ·exact Nat.le_refl _
   ·cases List.mem_singleton.mp hb; exact Nat.le_succ _
  exact I1.fpOk hb' (I1.hok.fresh hb')
 ·obtain ⟨f0,f1,old,_,hz,_⟩ := Z
  exact ⟨_,hz,rfl⟩
theorem Z2r {α : Type} {f : α -> D} {as : List α} (ha : EvP X ρ O a da) (fa : LF da (as.map f)) (hm : X.mg "enumerate" = none) (hg : Gl X "enumerate" := by rfl) (hs : starEach [a] X.env = [(false,eval a X.env)] := by rfl) :
  EvZ X ρ O (.Call (.Name "enumerate" p) [a] [] pos) (as.zipIdx.map λ p => .tup [.int (p.2 : Nat),f p.1]) "enumerate" := by
 have e : (as.zipIdx.map λ p => D.tup [.int (p.2 : Nat),f p.1]) = ((as.map f).zipIdx.map λ p => D.tup [.int (p.2 : Nat),p.1]) := by
  rw [List.zipIdx_map,List.map_map]
  rfl
 rw [e]
 exact Z9Q ha fa hm hg hs
end
end DL
namespace DL
open PySem PySem.Spec PyProof.Rows L2
section
variable {X : Cx} {ρ : Rho} {O : Sto} {e a b c o value : Expr} {es : List Expr} {d da db : D} {ds : List D} {R : D -> Sto -> Prop} {pos p p2 apos pos' : Pos} {x y f m : Str} {rest : List Stmt} {P : Post} {q : Nat} {C C2 : Addr} {fs : List (Str × D)}
theorem Q6R {i : Int} {t : Tok} (hm : X.mg x = some (.int i t)) (hg : Gl X x := by rfl) (hd : (x == ("__debug__" : Str)) = false := by decide) : EvP X ρ O (.Name x pos) (.int i) := λ G =>
 PE.imp (Z4Y (v := .int i) hg hm ⟨t,rfl⟩ hd) λ σ H Q ⟨h1,h2,h3⟩ => h3 _ G H (Ext.refl _) h1 (.int i)
structure Q1Z (K : PySem.W.Frag) (C : Addr) : Prop where
 cls : Cls K C
 ha : PySem.W.findIn K (.ref C) "__class__" = some (some (.builtin "object.__class__"))
 hn : PySem.W.specialIn K (.builtin "object.__class__") "__get__" = some (some (.builtin "getset_descriptor.__get__"))
 htk : PySem.W.takesIn K (.builtin "object.__class__") = some true
 hm : PySem.W.mroIn K C (.type "object") = some true
theorem Q3I {k : Bool} (hm : X.mg "isinstance" = none) (he : EvP X ρ O e (.ptr q)) (hq : O[q]? = some (some (.ins C fs))) (T : Q1Z X.K C) (hx : X.mg x = some (.ref C2)) (hk : PySem.W.kitOne X.K (.ref C) (.ref C2) = some k)
  (hg : Gl X "isinstance" := by rfl) (hgx : Gl X x := by rfl) (hdx : (x == ("__debug__" : Str)) = false := by decide) (hs : starEach [e,.Name x p2] X.env = (false,eval e X.env) :: starEach [.Name x p2] X.env := by rfl) (hpl : (backTo pos (starEach [.Name x p2] X.env)).any (·.1) = false := by rfl) :
  EvP X ρ O (.Call (.Name "isinstance" p) [e,.Name x p2] [] pos) (.bl k) := λ G => by
 refine PE.imp (Z2g (id := "isinstance") (r := λ vs H Q => ∃ a dx fs,vs = [.ref a,.ref C2] /\ H a = some (.ins C dx fs) /\ Q (.bl k) H) (λ pins s σ H xs us Q I r h => ?_) hg hm (by first | rfl | decide +kernel) (Q4Q (he G) (Q4Q (Z4Y (v := .ref C2) hgx hx rfl hdx) Z2h rfl) hs) wE wE hs hpl) λ σ H Q ⟨h1,h2,h3⟩ => ?_
 ·obtain ⟨a,dx,fs,rfl,ha,hQ⟩ := h
  obtain ⟨u,u',rfl,ru,ru'⟩ := Z0H r
  cases ru'
  exact Z5w I ru (.ins ha T.cls T.ha T.hn T.htk T.hm) hk λ tk => ⟨.bl k,H,I.kept λ _ _ e => e,rfl,hQ⟩
 ·refine ⟨h1,h2,λ v G1 H1 e1 s1 i1 => ?_⟩
  obtain ⟨a,dx,vs,rfl,g1,g2,g3⟩ := s1.ins i1 hq
  exact ⟨a,dx,vs,rfl,g2,h3 _ G1 H1 e1 s1 (.bl k)⟩
structure Z0w (P : Program) (w : World) (K : PySem.W.Frag) (mg : Str -> Option Value) (base : Heap) (x : Str) (k : Nat) (m : Str) (sp : SpD) : Prop where
 ex : ∃ C mc f fd ps,mg x = some (.ref C) /\ PySem.W.specialIn K (.ref C) "__getattribute__" = some (some (.builtin "type.__getattribute__")) /\ PySem.W.readsIn K C mc = true /\ PySem.W.findCls K (.ref C) mc m = some (.val (.ref f)) /\ PySem.W.handedIn (.ref f) = true /\
  FnOk P w K mg base CX0 k f fd ps (toSp K sp) /\ PySem.W.keepIn K (.ref f) = true /\ Q0A K fd ps []
theorem Q4v {k : Nat} {sp : SpD} {pl : Sem Bool} (M : Z0w X.prog X.w X.K X.mg X.base x k m sp) (hr : Room k X.A) (ha : EvPs X ρ O (e :: es) ds) (hs : sp ds O R) (hg : Gl X x := by rfl) (hdb : (x == ("__debug__" : Str)) = false := by decide)
  (hst : starEach (e :: es) X.env = (false,eval e X.env) :: starEach es X.env := by rfl) (hpl : (backTo pos (starEach es X.env)).any (·.1) = false := by rfl)
  (ht : eval (.Call (.Attribute (.Name x p) m apos) (e :: es) [] pos) X.env = (do
   let ov <- eval (.Name x p) X.env
   standAt apos.atName
   let (f,first) <- holding [ov] (getMethod ov m pl)
   callWith pos f first (backTo pos (starEach (e :: es) X.env)) (backToKw pos (keywordEach [] X.env))) := by rfl) : Ev X ρ O (.Call (.Attribute (.Name x p) m apos) (e :: es) [] pos) R := λ G pins s σ H Q I ⟨h1,h2,h3⟩ => by
 obtain ⟨C,mc,f,fd,ps,g1,g2,g3,g4,g5,g6,g7,g8⟩ := M.ex
 refine PySem.W.methodCall_KW (pl := pl) (Q8U I hg g1 (PySem.W.method_cls I.kIn g2 (PySem.W.cls_value I.kIn g3 g4 g5 ?_)) hdb) ht
 have I1 : L2.Inv X pins σ H { s with toks := s.toks + 1 } := I.kept λ _ _ e => e
 refine PySem.W.callWith_K (first := []) (h₀ := X.base) I.ok.mod.kin g7 (thn (ha G pos pins _ σ H (λ vs H' => ∃ G',Ext G G' /\ SA X.K G' H' O /\ Iss X.K G' ds vs) I1 ⟨h1,h2,λ vs G' H' e1 s1 i1 => ⟨G',e1,s1,i1⟩⟩) λ us s2 ⟨vs,H2,I2,r,G1,e1,s1,i1⟩ => ⟨I2.kIn,?_⟩) hst hpl
 refine Z1Z (us := us) (vs := vs) (dvs := []) (E := E0) g6 hr g8 .nil Z3i I2 r ?_
 show toSp X.K sp (vs ++ []) H2 Q E0
 rw [List.append_nil]
 exact ⟨G1,O,ds,R,s1,i1,hs,λ v d O' G' H' e2 s2 i2 r2 => h3 v d O' G' H' (e1.trans e2) s2 i2 r2⟩
end
def EvTE (X : Cx) (ρ : Rho) (O : Sto) (e : Expr) (R : Bool -> Sto -> Prop) : Prop :=
 ∀ G,PT X e (λ σ H Q => SA X.K G H O /\ EnvR X.K G σ ρ /\ ∀ k O' G' H',Ext G G' -> SA X.K G' H' O' -> R k O' -> Q k H')
section
variable {X : Cx} {ρ : Rho} {O : Sto} {e a b c : Expr} {body orelse : List Stmt} {d da db : D} {pos : Pos} {P : Post}
theorem x_ifE {R : Bool -> Sto -> Prop} (hc : EvTE X ρ O c R) (h : ∀ k O',R k O' -> (k = true -> Exs X ρ O' body P) /\ (k = false -> Exs X ρ O' orelse P)) : Ex X ρ O (.If c body orelse pos) P := λ G =>
 PS.imp (Y0L (hc G) (t := λ E σ H => ∃ G1 O',R true O' /\ SA X.K G1 H O' /\ EnvR X.K G1 σ ρ /\ Q5s X.K G1 P E) (λ pins s σ H E I ⟨G1,O',z,q⟩ => (h true O' z).1 rfl G1 pins s σ H E I q)
  (u := λ E σ H => ∃ G1 O',R false O' /\ SA X.K G1 H O' /\ EnvR X.K G1 σ ρ /\ Q5s X.K G1 P E) (λ pins s σ H E I ⟨G1,O',z,q⟩ => (h false O' z).2 rfl G1 pins s σ H E I q)) λ E σ H ⟨q1,q2,q3⟩ =>
  ⟨q1,q2,λ k O' G' H' e1 s1 r1 => by
   cases k with
   | true => exact iteT ⟨G',O',r1,s1,q2.ext e1,q3.ext e1⟩
   | false => exact iteF ⟨G',O',r1,s1,q2.ext e1,q3.ext e1⟩⟩
end
section
variable {X : Cx} {ρ : Rho} {O : Sto} {a b : Expr} {pos : Pos} {R : D -> Sto -> Prop} {xs : List D}
end
end DL
namespace DL
open PySem PySem.Spec PyProof.Rows L2 PySem.W
section
variable {X : Cx} {ρ : Rho} {O : Sto} {d : D} {xs ys : List D}
theorem Z6l (bt : Nat -> Nat -> Bool) : ∀ k,argBest bt k <= k
 | 0 => Nat.le_refl _
 | k + 1 => by
  have := Z6l bt k
  unfold argBest
  split <;> omega
end
structure FunD (K : PySem.W.Frag) (x qual : Str) (st : Stmt) (f : Addr) (fd : FuncData) (dv : List Value) : Prop where
 ex : ∃ (T : Addr) (cT : Value) (dT : Option Addr) (nT : Nat) (sT : Array (Option Value)) (oc : Value) (od : Option Addr) (kV doc pm : Value) (an : Option Addr) (cdv ct : Value) (osl : Array (Option Value)),
  fd = PySem.W.fnOf x qual (Q1A st) (Q0Y st) (Q0f st) (.ref T) kV doc pm an cdv ct /\ K.lookup f = some ⟨oc,od,.func fd,osl⟩ /\ PySem.W.codeIn K cdv qual = true /\ K.lookup T = some ⟨cT,dT,.seq dv.toArray nT,sT⟩
 kp : PySem.W.keepIn K (.ref f) = true
theorem Z9L {K : PySem.W.Frag} {x qual : Str} {st : Stmt} {f T : Addr} {cT oc : Value} {dT od an : Option Addr} {nT : Nat} {sT osl : Array (Option Value)} {kV doc pm cdv ct : Value} {dv : List Value} (l : K.lookup f = some ⟨oc,od,.func (PySem.W.fnOf x qual (Q1A st) (Q0Y st) (Q0f st) (.ref T) kV doc pm an cdv ct),osl⟩)
  (t : K.lookup T = some ⟨cT,dT,.seq dv.toArray nT,sT⟩) (c : PySem.W.codeIn K cdv qual = true) (k : PySem.W.keepIn K (.ref f) = true) : FunD K x qual st f (PySem.W.fnOf x qual (Q1A st) (Q0Y st) (Q0f st) (.ref T) kV doc pm an cdv ct) dv := ⟨⟨T,cT,dT,nT,sT,oc,od,kV,doc,pm,an,cdv,ct,osl,rfl,l,c,t⟩,k⟩
theorem FunD.binds {K : PySem.W.Frag} {x qual : Str} {st : Stmt} {f : Addr} {fd : FuncData} {dv rest : List Value} {ps : List Str} (F : FunD K x qual st f fd dv)
  (h : ∀ (T : Addr) (kV doc pm : Value) (an : Option Addr) (cdv ct : Value) (us : List Value),(us ++ rest).length = ps.length -> ∃ k,bindArgs (PySem.W.fnOf x qual (Q1A st) (Q0Y st) (Q0f st) (.ref T) kV doc pm an cdv ct) ⟨us,[]⟩ = seqItems? (.ref T) >>= k /\ k (some dv.toArray) = pure (ps.zip (us ++ rest))) : Q0A K fd ps rest := by
 obtain ⟨T,cT,dT,nT,sT,oc,od,kV,doc,pm,an,cdv,ct,osl,rfl,l,c,t⟩ := F.ex
 intro s us X hl
 obtain ⟨k,h1,h2⟩ := h T kV doc pm an cdv ct us hl
 exact PySem.W.binds_K X rfl t rfl h1 h2
section
variable {P : Program} {w : World} {K : PySem.W.Frag} {mg : Str -> Option Value} {base : Heap}
theorem okFD {x qual : Str} {st : Stmt} {f : Addr} {fd : FuncData} {N ps : List Str} {k : Nat} {sp : SpD} {dv : List Value} (F : FunD K x qual st f fd dv) (S : Q0k N ps (Q0f st))
  (len : ∀ ds O R,sp ds O R -> ds.length = ps.length)
  (hbody : ∀ (cdv : Value) (A : Around) (outer : List Env) (s : Shared) (H : Hp) (E : XK) (ds : List D) (O : Sto) (R : D -> Sto -> Prop),Room k (A.deeper (envOfC qual (Q0f st) s.heap.objs.size f cdv)) -> sp ds O R ->
   Exs (cxOf CX0 P w K mg base N qual (Q0f st) f cdv A outer s H E).nox (Q7M N ds) O (Q0Y st) { nx := λ _ O' => R .non O',rt := R }) : FnOk P w K mg base CX0 (k + 1) f fd ps (toSp K sp) := by
 obtain ⟨T,cT,dT,nT,sT,oc,od,kV,doc,pm,an,cdv,ct,osl,rfl,l,c,t⟩ := F.ex
 refine Y1q l c S (λ vs H Q E h => ?_) λ A outer s H vs Q E hr h => ?_
 ·obtain ⟨G,O,ds,R,h1,h2,h3,h4⟩ := h
  rw [<- h2.length]
  exact len _ _ _ h3
 ·obtain ⟨G,O,ds,R,h1,h2,h3,h4⟩ := h
  exact ⟨_,(hbody cdv A outer s H E ds O R hr h3 G).nox,h1,Q9A h2,⟨λ σ ρ O' G' H' e1 s1 n1 q => h4 _ _ O' G' H' e1 s1 .non q,λ v d O' G' H' e1 s1 i1 q => h4 v d O' G' H' e1 s1 i1 q,λ σ ρ O' G' H' e1 s1 n1 q => q.elim,λ σ ρ O' G' H' e1 s1 n1 q => q.elim⟩⟩
end
section
variable {X : Cx} {ρ : Rho} {O : Sto} {a : Expr} {pos p : Pos} {R : D -> Sto -> Prop} {xs : List D} {d : D}
end
def minP (ps : List (Int × Int)) : Int × Int := ps.getD (argBest (λ i j => ltP (ps.getD i (0,0)) (ps.getD j (0,0))) (ps.length - 1)) (0,0)
theorem Z5o (g : Nat -> Int × Int) : ∀ k i,i <= k -> ltP (g i) (g (argBest (λ i j => ltP (g i) (g j)) k)) = false
 | 0,i,h => by
  have : i = 0 := by omega
  subst this
  show ltP (g 0) (g 0) = false
  unfold ltP
  exact decide_eq_false wF
 | k + 1,i,h => by
  have ih := Z5o g k
  unfold argBest
  by_cases hd : ltP (g (k + 1)) (g (argBest (λ i j => ltP (g i) (g j)) k)) = true
  ·rw [if_pos hd]
   by_cases he : i = k + 1
   ·subst he; unfold ltP; exact decide_eq_false wF
   ·have := ih i wF
    generalize argBest (λ i j => ltP (g i) (g j)) k = b at *
    unfold ltP at *
    have h1 := of_decide_eq_true hd
    have h2 := of_decide_eq_false this
    exact decide_eq_false wF
  ·rw [if_neg hd]
   by_cases he : i = k + 1
   ·subst he; exact Bool.eq_false_iff.mpr hd
   ·exact ih i wF
theorem Z7u {ps : List (Int × Int)} (h : ps ≠ []) : minP ps ∈ ps := by
 have h0 := List.length_pos_iff.mpr h
 unfold minP
 rw [Q8W (by have := Z6l (λ i j => ltP (ps.getD i (0,0)) (ps.getD j (0,0))) (ps.length - 1); omega)]
 exact List.getElem_mem _
theorem Z9y {ps : List (Int × Int)} {q : Int × Int} (h : q ∈ ps) : ltP q (minP ps) = false := by
 obtain ⟨i,hi,rfl⟩ := List.getElem_of_mem h
 have := Z5o (λ i => ps.getD i (0,0)) (ps.length - 1) i wF
 rw [Q8W hi] at this
 exact this
def Z0v (h : Heap) (v : Value) (p : Int × Int) : Prop := ∃ a o n t u,v = .ref a /\ h.get? a = some o /\ o.cls = .type "tuple" /\ o.data = .seq #[.int p.1 t,.int p.2 u] n
section
variable {prog : Program} {w : World} {A : Around} {E : Value -> Shared -> Prop} {s : Shared}
theorem Z5n {a b : Int} {t u : Tok} {Q : Value -> Shared -> Prop} (h : Q (.bool (decide (a < b))) s) : wpAny (model prog w) A (richCompare .Lt (.int a t) (.int b u)) Q E s :=
 CmpOf.ints_lt (P := λ i v => v = if i = 0 then .int a t else .int b u) (λ i => if i = 0 then a else b) (λ i v e => ⟨if i = 0 then t else u,by subst e; split <;> rfl⟩) 0 1 _ _ s Q E rfl rfl h
theorem Z9A {x y : Value} {p q : Int × Int} {Q : Value -> Shared -> Prop} (hx : Z0v s.heap x p) (hy : Z0v s.heap y q) (hu : A.units < cLine) (h : Q (.bool (ltP p q)) s) : wpAny (model prog w) A (richCompare .Lt x y) Q E s := by
 obtain ⟨a,oa,na,ta,ua,rfl,a1,a2,a3⟩ := hx
 obtain ⟨b,ob,nb,tb,ub,rfl,b1,b2,b3⟩ := hy
 have Ta : s.TypeIs (.ref a) "tuple" := ⟨oa,a1,a2⟩
 have Tb : s.TypeIs (.ref b) "tuple" := ⟨ob,b1,b2⟩
 refine wpAny_richCompare_same_room (op := .Lt) Ta Tb PySem.F.slot_tuple_lt (wpAny_call_entry PySem.F.slot_tuple_lt Ta PySem.F.entry_tuple_lt ?_ (PySem.F.args_tuple_lt_2 _ _)) hu
 obtain ⟨h0,g,d,tk,os⟩ := s
 obtain ⟨ca,da,xa,sa⟩ := oa
 obtain ⟨cb,db,xb,sb⟩ := ob
 simp only at a2 a3 b2 b3
 subst a2 a3 b2 b3
 dsimp only at a1 b1
 have f2 := AutoSeq1.sub_tuple_tuple
 have hq1 : ((p.1 == q.1) = true) ↔ p.1 = q.1 := by simp
 by_cases e1 : p.1 = q.1
 ·have z1 : (p.1 == q.1) = true := by simpa using e1
  by_cases e2 : p.2 = q.2
  ·have z2 : (p.2 == q.2) = true := by simpa using e2
   have z : ltP p q = false := by unfold ltP; exact decide_eq_false wF
   rw [z] at h
   wp_walk using wpAny_loadPart' a1,wpAny_loadPart' b1,wpAny_eqBool_int
   exact ⟨.bool false,rfl,λ z => (by cases z),h⟩
  ·have z2 : (p.2 == q.2) = false := by simpa using e2
   have z : ltP p q = decide (p.2 < q.2) := by unfold ltP; exact decide_eq_decide.mpr wF
   rw [z] at h
   wp_walk using wpAny_loadPart' a1,wpAny_loadPart' b1,wpAny_eqBool_int,Z5n
   exact ⟨_,rfl,λ z => (by cases z),h⟩
 ·have z1 : (p.1 == q.1) = false := by simpa using e1
  have z : ltP p q = decide (p.1 < q.1) := by unfold ltP; exact decide_eq_decide.mpr wF
  rw [z] at h
  wp_walk using wpAny_loadPart' a1,wpAny_loadPart' b1,wpAny_eqBool_int,Z5n
  exact ⟨_,rfl,λ z => (by cases z),h⟩
theorem Z5l {R : Result -> Shared -> Prop} {I S : Addr} {fp wr : List Addr} {n : Nat} {P : Nat -> Value -> Prop} {St : Nat -> Heap -> Prop} {Kp : Heap -> Prop} {bt : Nat -> Nat -> Bool} (W : Walks prog w A.in1 I fp wr n P St)
  (hc : ∀ i j vi vj (s : Shared) (Q : Value -> Shared -> Prop) (E : Value -> Shared -> Prop),P i vi -> P j vj -> Kp s.heap -> Q (.bool (bt i j)) s -> wpAny (model prog w) A.in1 (richCompare .Lt vi vj) Q E s)
  (hK : ∀ h h' : Heap,Kp h -> (∀ b o,b ∉ wr -> b ≠ S -> h.get? b = some o -> h'.get? b = some o) -> Kp h') (hS : S ∉ fp) :
  ∀ (k j : Nat) (s : Shared) (vb : Value) (c : Nat),j + 1 + k = n -> St (j + 1) s.heap -> Kp s.heap -> P (argBest bt j) vb -> s.heap.get? S = some (lsC [vb,vb] c) ->
   (∀ v h' tk,P (argBest bt (n - 1)) v -> (∀ b o,b ∉ wr -> b ≠ S -> s.heap.get? b = some o -> h'.get? b = some o) -> R (.ok (.ret v)) { s with heap := h',toks := tk }) -> codeAny (model prog w) A (.builtin "min.loop" ⟨[.ref I,.none,.ref S],[]⟩) R s
 | 0,j,s,vb,c,hk,st,kp,pb,own,fin => by
  refine Q3X F.plain_min_loop F.entry_min_loop ?_
  obtain ⟨h,g,d,tk,os⟩ := s
  have hn : j + 1 = n := hk
  subst hn
  have nx : ∀ (Q : Option Value -> Shared -> Prop) (E : Value -> Shared -> Prop) (f : Value -> Sem (Option Value)),(∀ h' tk',(∀ b o,b ∉ wr -> h.get? b = some o -> h'.get? b = some o) -> Q none ⟨h',g,d,tk',os⟩) -> wpAny (model prog w) A.in1 ((pyNext (.ref I)).tryCatch f) Q E ⟨h,g,d,tk,os⟩ := λ Q E f q => wpAny_tryCatch (W.done _ _ _ st q)
  wp_walk using wpAny_seqItems own rfl,nx
  intro h' tk' ke
  have own' := ke S _ (λ z => hS (W.sub _ z)) own
  wp_walk using wpAny_updateSeq own' rfl
  exact fin vb _ _ pb λ b o hb hbS e => (Heap.get?_update_other _ _ (Ne.symm hbS)).trans (ke b o hb e)
 | k + 1,j,s,vb,c,hk,st,kp,pb,own,fin => by
  refine Q3X F.plain_min_loop F.entry_min_loop ?_
  obtain ⟨h,g,d,tk,os⟩ := s
  have nx : ∀ (Q : Option Value -> Shared -> Prop) (E : Value -> Shared -> Prop) (f : Value -> Sem (Option Value)),(∀ v h' tk',P (j + 1) v -> St (j + 2) h' -> (∀ b o,b ∉ wr -> h.get? b = some o -> h'.get? b = some o) -> Q (some v) ⟨h',g,d,tk',os⟩) -> wpAny (model prog w) A.in1 ((pyNext (.ref I)).tryCatch f) Q E ⟨h,g,d,tk,os⟩ := λ Q E f q => wpAny_tryCatch (W.item _ _ _ _ wF st q)
  wp_walk using wpAny_seqItems own rfl,nx
  intro v h' tk' pv st' ke
  have own' := ke S _ (λ z => hS (W.sub _ z)) own
  have kp' : Kp h' := hK h h' kp λ b o hb _ e => ke b o hb e
  have cmp : ∀ (Q : Value -> Shared -> Prop) (E : Value -> Shared -> Prop),Q (.bool (bt (j + 1) (argBest bt j))) ⟨h',g,d,tk',os⟩ -> wpAny (model prog w) A.in1 (richCompare .Lt v vb) Q E ⟨h',g,d,tk',os⟩ := λ Q E q => hc _ _ _ _ _ Q E pv pb kp' q
  wp_walk
  refine wpAny_tryCatch ?_
  have nm : (toString "min" ++ toString ".loop" : String) = "min.loop" := by decide
  rw [nm]
  have hb1 : argBest bt (j + 1) = if bt (j + 1) (argBest bt j) then j + 1 else argBest bt j := rfl
  cases hz : bt (j + 1) (argBest bt j) with
  | true =>
   rw [hz] at cmp hb1
   wp_walk using cmp,wpAny_truthy_bool,wpAny_updateSeq own' rfl
   refine ⟨plainId_quiet F.plain_min_loop _,Z5l W hc hK hS k (j + 1) _ v _ wF (W.frame _ _ _ st' λ b hbf o e => (Heap.get?_update_other _ _ (λ z : S = b => hS (by rw [z]; exact hbf))).trans e) (hK _ _ kp' λ b o _ hbS e => (Heap.get?_update_other _ _ (Ne.symm hbS)).trans e) (by rw [hb1]; exact pv) (Heap.get?_update_self _ own' rfl) λ v2 h2 tk2 p2 ke2 => fin v2 h2 tk2 p2 λ b o hbw hbS e => ke2 b o hbw hbS ((Heap.get?_update_other _ _ (Ne.symm hbS)).trans (ke b o hbw e))⟩
  | false =>
   rw [hz] at cmp hb1
   wp_walk using cmp,wpAny_truthy_bool
   exact ⟨plainId_quiet F.plain_min_loop _,Z5l W hc hK hS k (j + 1) _ vb _ wF st' kp' (by rw [hb1]; exact pb) own' λ v2 h2 tk2 p2 ke2 => fin v2 h2 tk2 p2 λ b o hbw hbS e => ke2 b o hbw hbS (ke b o hbw e)⟩
theorem Z5m {R : Result -> Shared -> Prop} {I S : Addr} {fp wr : List Addr} {n : Nat} {P : Nat -> Value -> Prop} {St : Nat -> Heap -> Prop} {Kp : Heap -> Prop} {bt : Nat -> Nat -> Bool} {c : Nat} (W : Walks prog w A.in1 I fp wr n P St)
  (hc : ∀ i j vi vj (s : Shared) (Q : Value -> Shared -> Prop) (E : Value -> Shared -> Prop),P i vi -> P j vj -> Kp s.heap -> Q (.bool (bt i j)) s -> wpAny (model prog w) A.in1 (richCompare .Lt vi vj) Q E s)
  (hK : ∀ h h' : Heap,Kp h -> (∀ b o,b ∉ wr -> b ≠ S -> h.get? b = some o -> h'.get? b = some o) -> Kp h') (hS : S ∉ fp) (hn : 0 < n) (st : St 0 s.heap) (kp : Kp s.heap) (own : s.heap.get? S = some (lsC [] c))
  (fin : ∀ v h' tk,P (argBest bt (n - 1)) v -> (∀ b o,b ∉ wr -> b ≠ S -> s.heap.get? b = some o -> h'.get? b = some o) -> R (.ok (.ret v)) { s with heap := h',toks := tk }) : codeAny (model prog w) A (.builtin "min.loop" ⟨[.ref I,.none,.ref S],[]⟩) R s := by
 refine Q3X F.plain_min_loop F.entry_min_loop ?_
 obtain ⟨h,g,d,tk,os⟩ := s
 have nx : ∀ (Q : Option Value -> Shared -> Prop) (E : Value -> Shared -> Prop) (f : Value -> Sem (Option Value)),(∀ v h' tk',P 0 v -> St 1 h' -> (∀ b o,b ∉ wr -> h.get? b = some o -> h'.get? b = some o) -> Q (some v) ⟨h',g,d,tk',os⟩) -> wpAny (model prog w) A.in1 ((pyNext (.ref I)).tryCatch f) Q E ⟨h,g,d,tk,os⟩ := λ Q E f q => wpAny_tryCatch (W.item _ _ _ _ hn st q)
 wp_walk using wpAny_seqItems own rfl,nx
 intro v h' tk' pv st' ke
 have own' := ke S _ (λ z => hS (W.sub _ z)) own
 wp_walk using wpAny_updateSeq own' rfl
 have nm : (toString "min" ++ toString ".loop" : String) = "min.loop" := by decide
 rw [nm]
 exact ⟨plainId_quiet F.plain_min_loop _,Z5l W hc hK hS (n - 1) 0 _ v _ wF (W.frame _ _ _ st' λ b hbf o e => (Heap.get?_update_other _ _ (λ z : S = b => hS (by rw [z]; exact hbf))).trans e) (hK _ _ (hK _ _ kp λ b o hb _ e => ke b o hb e) λ b o _ hbS e => (Heap.get?_update_other _ _ (Ne.symm hbS)).trans e) pv (Heap.get?_update_self _ own' rfl) λ v2 h2 tk2 p2 ke2 => fin v2 h2 tk2 p2 λ b o hbw hbS e => ke2 b o hbw hbS ((Heap.get?_update_other _ _ (Ne.symm hbS)).trans (ke b o hbw e))⟩
theorem Z6e {l : Addr} {its : List Value} {ps : List (Int × Int)} {Q : Value -> Shared -> Prop} (hh : A.handled = none) (hu : A.in1.units < cLine) (q : s.heap.IsList l its.toArray) (hv : ∀ (i : Nat) (v : Value),its[i]? = some v -> Z0v s.heap v (ps.getD i (0,0))) (hn : ps.length = its.length) (h0 : 0 < ps.length)
  (h : ∀ v h' tk,its[argBest (λ i j => ltP (ps.getD i (0,0)) (ps.getD j (0,0))) (ps.length - 1)]? = some v -> (∀ b o,s.heap.get? b = some o -> h'.get? b = some o) -> Q v { s with heap := h',toks := tk }) : wpAny (model prog w) A (call (.builtin "min") [.ref l]) Q E s := by
 obtain ⟨h1,g,d,tk,os⟩ := s
 dsimp only at q hv h
 have hl : l < h1.objs.size := by obtain ⟨o,e,_⟩ := q; exact Heap.lt_size e
 refine call_function_tree F.kind_min F.plain_min F.entry_min (F.args_min1 (.ref l)) ?_
 have bp : Builtin.Builtins.bindParams "min" ["key","default"] 0 ⟨[],[]⟩ = pure [none,none] := rfl
 wp_walk using wpAny_pyIter_list q
 have nm : (toString "min" ++ toString ".loop" : String) = "min.loop" := by decide
 rw [nm]
 have W := Walks.list (prog := prog) (w := w) (A := A.in1) hh h1.objs.size l (Nat.ne_of_lt hl) its.toArray
 have ez : its.toArray.size = ps.length := by simp [hn]
 have up : ∀ b o,h1.get? b = some o -> ((h1.push { cls := .type "list_iterator",data := .fields #[.ref l,.int 0 0] }).push { cls := .type "list",data := .seq #[] }).get? b = some o := λ b o e => Heap.get?_push_of_some _ (Heap.get?_push_of_some _ e)
 have es : (h1.push { cls := .type "list_iterator",data := .fields #[.ref l,.int 0 0] }).objs.size = h1.objs.size + 1 := Heap.size_push ..
 refine ⟨plainId_quiet F.plain_min_loop _,Z5m (c := 0) (Kp := λ h' => ∀ b o,h1.get? b = some o -> h'.get? b = some o) (bt := λ i j => ltP (ps.getD i (0,0)) (ps.getD j (0,0))) W (λ i j vi vj s' Q' E' pi pj kp hq => ?_) (λ h2 h3 kp ke b o e => ?_) ?_ (by rw [ez]; exact h0) ⟨⟨_,Heap.get?_push_of_some _ (Heap.get?_push_size _ rfl),rfl,rfl⟩,?_⟩ up (Heap.get?_push_size _ rfl) λ v h2 tk2 pv ke => ?_⟩
 ·have far : ∀ {x : Value} {p : Int × Int},Z0v h1 x p -> Z0v s'.heap x p := λ ⟨a,o,n,t,u,e,e1,r⟩ => ⟨a,o,n,t,u,e,kp a o e1,r⟩
  exact Z9A (far (hv i vi (by simpa using pi))) (far (hv j vj (by simpa using pj))) hu hq
 ·have hb := Heap.lt_size e
  refine ke b o (by simpa using Nat.ne_of_lt hb) (λ z => ?_) (kp b o e)
  rw [z] at hb
  have hb : h1.objs.size + 1 < h1.objs.size := by rw [<- es]; exact hb
  omega
 ·intro z
  have z : h1.objs.size + 1 ∈ [h1.objs.size,l] := by rw [<- es]; exact z
  rcases List.mem_cons.mp z with z | z
  ·exact Nat.succ_ne_self _ z
  ·have z := List.mem_singleton.mp z
   rw [<- z] at hl
   exact Nat.lt_irrefl _ (Nat.lt_of_succ_lt hl)
 ·obtain ⟨o,e,r⟩ := q
  exact ⟨o,up _ _ e,r⟩
 ·rw [ez] at pv
  refine h v h2 tk2 (by simpa using pv) λ b o e => ke b o (by simpa using Nat.ne_of_lt (Heap.lt_size e)) (λ z => ?_) (up b o e)
  have hb := Heap.lt_size e
  rw [z] at hb
  have hb : h1.objs.size + 1 < h1.objs.size := by rw [<- es]; exact hb
  omega
end
section
variable {X : Cx} {O : Sto} {d : D} {k : Nat}
theorem Y1D {ps : List (Int × Int)} (hr : Room k X.A) (h : LV O d (ps.map pD)) (h0 : ps ≠ []) (hc : X.calm = true := by rfl) : Q1U X O (.builtin "min") [d] (pD (minP ps)) := λ G pins s σ H vs us Q I r ⟨h1,h2,h3⟩ => by
 cases h2 with | cons i r2 =>
 cases r2
 obtain ⟨ad,ws,rfl,q,is⟩ := h.sq h1 i
 obtain ⟨u,rfl,ru⟩ := Q7f r
 cases ru
 obtain ⟨its,va,sq,_⟩ := I.list q
 have e1 := is.length
 have e2 := va.length
 rw [List.length_map] at e1
 have hp := List.length_pos_iff.mpr h0
 have at' : ∀ i (v : Value),its[i]? = some v -> ∃ x,ws[i]? = some x /\ RelV x v /\ ∃ p,ps[i]? = some p /\ Is X.K G (pD p) x := λ i v hv => by
  have hi : i < ps.length := by rw [e1,e2]; exact (List.getElem?_eq_some_iff.mp hv).1
  obtain ⟨x,hx,ix⟩ := is.get (i := i) (d := pD ps[i]) (by simp [hi])
  obtain ⟨z,hz,rz⟩ := va.get hx
  rw [hv] at hz
  cases hz
  exact ⟨x,hx,rz,ps[i],List.getElem?_eq_getElem hi,ix⟩
 refine Z6e (ps := ps) (I.ok.hd hc) (show X.A.in1.units < cLine from ?_) sq.isList (λ i v hv => ?_) wF hp λ v h' tk hv kp => ?_
 ·exact hu_of hr
 ·obtain ⟨x,hx,rx,p,hpp,ix⟩ := at' i v hv
  rw [List.getD_eq_getElem?_getD,hpp]
  cases ix with
  | tup hh rr =>
  cases rr with | cons j1 rr => cases rr with | cons j2 rr =>
  cases rr
  cases j1
  cases j2
  cases rx
  obtain ⟨its2,v2,⟨o,g1,g2,n,g3⟩,_⟩ := I.tuple (Q0V h1.sub hh)
  obtain ⟨u1,u2,rfl,q1,q2⟩ := Z0H v2
  obtain ⟨t,rfl⟩ := q1
  obtain ⟨t',rfl⟩ := q2
  exact ⟨_,o,n,t,t',rfl,g1,g2,g3⟩
 ·obtain ⟨x,hx,rx,p,hpp,ix⟩ := at' _ v hv
  have e : minP ps = p := by
   unfold minP
   rw [List.getD_eq_getElem?_getD,hpp]
   rfl
  rw [e] at h3
  exact ⟨x,H,I.kept kp,rx,h3 _ G H (Ext.refl _) h1 ix⟩
end
section
variable {X : Cx} {ρ : Rho} {O : Sto} {e : Expr} {p p2 pos pos2 : Pos}
end
section
variable {X : Cx} {ρ : Rho} {O : Sto} {e : Expr} {es : List Expr} {ds : List D} {R : D -> Sto -> Prop} {pos p : Pos} {x : Str} {C : Addr}
end
end DL
namespace DL
open PySem PySem.Spec PyProof.Rows L2
section
variable {X : Cx} {ρ : Rho} {O : Sto} {a b : Expr} {pos : Pos}
theorem Y1u {R : Bool -> Sto -> Prop} (ha : Ev X ρ O a λ d O' => ∃ k,d = .bl k /\ R k O') (he : ∀ whole,isTrue a X.env whole = (do let v <- whole; standAt a.pos; holding [v] (truthy v)) := by intro _; rfl) : EvTE X ρ O a R := λ G =>
 (Z2e (ha G) he).imp λ σ H Q ⟨q1,q2,q3⟩ => ⟨q1,q2,λ v d O' G' H' e1 s1 i1 r => by
  obtain ⟨k,rfl,r⟩ := r
  cases i1
  exact ⟨k,rfl,q3 k O' G' H' e1 s1 r⟩⟩
theorem Z9U {R : Bool -> Sto -> Prop} (ha : EvTE X ρ O a λ k O' => R (!k) O') : EvTE X ρ O (.UnaryOp .Not a pos) R := λ G =>
 (Z8m (ha G)).imp λ σ H Q ⟨q1,q2,q3⟩ => ⟨q1,q2,λ k O' G' H' e1 s1 r => q3 (!k) O' G' H' e1 s1 r⟩
end
section
variable {X : Cx} {ρ : Rho} {O : Sto} {a e : Expr} {d : D}
end
section
variable {prog : Program} {w : World} {A : Around} {E : Value -> Shared -> Prop} {s : Shared}
end
section
variable {X : Cx} {O : Sto} {xs : List D}
end
section
variable {X : Cx} {ρ : Rho} {O : Sto} {a b : Expr} {d : D} {pos : Pos}
end
section
variable {X : Cx} {ρ : Rho} {O : Sto} {e a b c st : Expr} {d da db : D} {xs ys : List D} {R : D -> Sto -> Prop} {pos p p2 : Pos} {P : Post} {q : Nat}
end
section
variable {prog : Program} {w : World} {A : Around} {E : Value -> Shared -> Prop} {s : Shared}
end
section
variable {X : Cx} {ρ : Rho} {O : Sto} {a st lo : Expr} {xs : List D} {pos p2 : Pos}
end
section
variable {X : Cx} {ρ : Rho} {O : Sto} {e : Expr} {C C2 : Addr} {x : Str} {p p2 pos : Pos} {R : D -> Sto -> Prop}
end
section
variable {X : Cx} {ρ : Rho} {O : Sto} {o ix e : Expr} {pos tpos : Pos} {P : Post} {q : Nat}
end
end DL
namespace DL
open PySem PySem.Spec PyProof.Rows L2 PySem.W
section
variable {prog : Program} {w : World} {A : Around} {E : Value -> Shared -> Prop} {s : Shared} {n l : Nat} {j : Int} {xs : Array Value} {v : Value}
end
section
variable {X : Cx} {ρ : Rho} {O : Sto} {a : Expr} {pos p : Pos} {xs : List D}
end
section
variable {prog : Program} {w : World} {A : Around} {E : Value -> Shared -> Prop} {s : Shared} {l : Nat} {k : Int} {t : Tok} {vs : List Value} {ns : List Int}
end
section
variable {X : Cx} {ρ : Rho} {O : Sto} {a e : Expr}
end
end DL
namespace L2
open PySem PySem.Spec PyProof.Rows
def Mild {α : Type} : Sem α -> Prop
 | .pure _ => True
 | .raise _ => True
 | .unsupported _ => True
 | .finish _ => True
 | .rule _ k => Mild (k ())
 | .at _ k => Mild (k ())
 | .load _ _ k => ∀ o,Mild (k o)
 | .update _ _ f k => (∀ o : Obj,((f o).dict = o.dict /\ ctxOf (f o) = ctxOf o) /\ (o.data ≠ .freed -> (f o).data ≠ .freed)) /\ Mild (k ())
 | .alloc _ k => ∀ a,Mild (k a)
 | .loadIfAlive _ k => ∀ o,Mild (k o)
 | .point _ k => Mild (k ())
 | .fresh k => ∀ t,Mild (k t)
 | .ask k => ∀ t,Mild (k t)
 | .handled _ k => ∀ t,Mild (k t)
 | .stack k => ∀ t,Mild (k t)
 | .thread k => ∀ t,Mild (k t)
 | _ => False
section
variable {P : Program} {w : World}
end
section
variable {CX : CXT} {P : Program} {w : World} {K : PySem.W.Frag} {mg : Str -> Option Value} {base : Heap} {N : List Str} {qual : Str} {scope : Scope} {f : Addr} {cd : Value} {A : Around} {outer : List Env} {s : Shared} {H : Hp} {E : XK}
end
end L2
namespace DL
open PySem PySem.Spec PyProof.Rows L2
abbrev XR := Addr -> List (Str × D) -> Sto -> Prop
abbrev SpX := List D -> Sto -> (D -> Sto -> Prop) -> XR -> Prop
abbrev XC := Addr -> List (Str × D) -> Rho -> Sto -> Prop
section
variable {X : Cx} {mk : Prop} {ρ : Rho} {O : Sto} {e a b c o : Expr} {es : List Expr} {d da db : D} {ds : List D} {R : D -> Sto -> Prop} {RX : XC} {pos p apos : Pos} {x m : Str} {st : Stmt} {rest body orelse : List Stmt} {P : Post} {C : Addr} {q : Nat} {fs : List (Str × D)}
end
section
variable {P : Program} {w : World} {K : PySem.W.Frag} {mg : Str -> Option Value} {base : Heap}
end
end DL
namespace L2
open PySem PySem.Spec PyProof.Rows
section
variable {X : Cx} {pins : List (Addr × Obj)} {σ : St} {H : Hp} {s : Shared}
abbrev Cx.as (X : Cx) (A : Around) (calm : Bool) (pn : List (Addr × Obj)) (E : Value -> Shared -> Prop) : Cx := { X with A := A,calm := calm,pn := pn,xe := E }
end
end L2
namespace DL
open PySem PySem.Spec PyProof.Rows L2
abbrev bmV : List Value := [.type "ValueError",.type "Exception",.type "BaseException",.type "object"]
section
variable {X : Cx} {mk : Prop} {ρ : Rho} {O : Sto} {e a b c o : Expr} {es : List Expr} {d da db : D} {ds : List D} {R : D -> Sto -> Prop} {RX : XC} {pos p np cpos hpos : Pos} {x y n : Str} {st b₀ : Stmt} {rest body suite : List Stmt} {P : Post} {C CB : Addr} {fs : List (Str × D)}
end
end DL
namespace L2
open PySem PySem.Spec PyProof.Rows Builtin.ObjectAttr Builtin.Getset_descriptor
section
variable {prog : Program} {w : World} {A : Around} {E : Value -> Shared -> Prop} {s : Shared} {K : PySem.W.Frag} {x C : Addr} {n : Str}
end
end L2
namespace DL
open PySem PySem.Spec PyProof.Rows L2
section
variable {X : Cx} {ρ : Rho} {O : Sto} {e : Expr} {es : List Expr} {p p2 pos : Pos} {x : Str} {C C2 : Addr} {q : Nat} {fs : List (Str × D)} {k : Bool} {x1 : Nat}
end
end DL
namespace L2
open PySem PySem.Spec PyProof.Rows
section
variable {X : Cx} {tg a b c : Expr} {p pos : Pos}
end
end L2
namespace DL
open PySem PySem.Spec PyProof.Rows L2
section
variable {X : Cx} {ρ : Rho} {O : Sto} {a b c : Expr} {p pos : Pos} {P : Post} {st : Stmt} {rest : List Stmt}
end
end DL
namespace L2
open PySem PySem.Spec PyProof.Rows Builtin.ObjectAttr
open DL (bmV)
section
variable {prog : Program} {w : World} {A : Around} {s : Shared} {K : PySem.W.Frag} {C f N : Addr} {nm q : Str} {bs bm : List Value} {hdct : Bool} {sn : List Str} {sub : List Value} {ab : Bool} {col : Option Bool} {dd : Option Addr} {k0 k1 k2 k3 k5 : Option Value}
end
end L2
namespace L2
open PySem PySem.Spec PyProof.Rows Builtin.ObjectAttr DL
section
variable {X : Cx} {pins : List (Addr × Obj)} {σ : St} {H : Hp} {s : Shared} {C f a t : Addr} {name : Str}
end
end L2
namespace L2
open PySem PySem.Spec PyProof.Rows Builtin.ObjectAttr DL
section
variable {P : Program} {w : World} {K : PySem.W.Frag} {mg : Str -> Option Value} {base : Heap} {C f : Addr} {name sn nn qual : Str} {st : Stmt} {fd : FuncData} {p1 p2 p3 p4 : Pos}
end
end L2
namespace DL
open PySem PySem.Spec PyProof.Rows L2
section
variable {X : Cx} {mk : Prop} {ρ : Rho} {O : Sto} {e : Expr} {d : D} {RX : XC} {pos np cpos : Pos} {x name : Str} {P : Post} {C : Addr} {k : Nat}
end
end DL
namespace L2
open PySem PySem.Spec PyProof.Rows Builtin.ObjectAttr
section
variable {prog : Program} {w : World} {A : Around} {E : Value -> Shared -> Prop} {s : Shared} {K : PySem.W.Frag} {x C : Addr} {n : Str} {ox od : Obj} {u : Value}
end
end L2
namespace DL
open PySem PySem.Spec PyProof.Rows L2
section
variable {X : Cx} {ρ : Rho} {O : Sto} {e : Expr} {d : D} {pos : Pos} {f : Str} {C : Addr} {q : Nat} {fs : List (Str × D)}
end
section
variable {P : Program} {w : World} {K : PySem.W.Frag} {mg : Str -> Option Value} {base : Heap} {C : Addr} {k : Nat} {x m : Str} {sp : SpX}
end
end DL
namespace L2
open PySem PySem.Spec PyProof.Rows
theorem Z7p {X : Cx} : OpR X (binaryOp .Add) (λ x y H Q => ∃ a b ys,x = .ref a /\ y = .ref b /\ SqT X.K H a [] /\ SqT X.K H b ys /\ Q (.ref b) H) := by
 intro pins s σ H x y v u Q I rx ry ⟨a,b,ys,ex,ey,ha,hb,q⟩
 subst ex ey
 cases rx; cases ry
 obtain ⟨i1,r1,p1,_⟩ := I.tuple ha
 obtain ⟨i2,r2,p2,_⟩ := I.tuple hb
 cases r1
 obtain ⟨⟨c1,d1,t1,l1⟩,o1,rfl,n1,rfl⟩ := id p1
 obtain ⟨⟨c2,d2,t2,l2⟩,o2,rfl,n2,rfl⟩ := id p2
 exact concat_meets ⟨_,o1,rfl⟩ ⟨_,o2,rfl⟩ noFill_tuple_add seq_tuple_add PySem.F.slot_tuple_add PySem.F.entry_tuple_add (PySem.F.args_tuple_add_2 _ _) (tuple_addW0 a b _ i2.toArray n1 n2 d1 d2 l1 l2 rfl) ⟨o1,o2,⟨.ref b,H,I,rfl,q⟩⟩
end L2
namespace DL
open PySem PySem.Spec PyProof.Rows L2
section
variable {X : Cx} {O : Sto}
theorem Z9v {ys : List D} : Op2 X O (binaryOp .Add) (.tup []) (.tup ys) (.tup ys) := .of Z7p λ G v u H Q s h1 h2 k => by
 obtain ⟨q1,vs,rfl,g1,r1⟩ := Q3a s h1
 have j2 := h2
 obtain ⟨q2,us,rfl,g2,r2⟩ := Q3a s h2
 cases r1
 exact ⟨_,_,_,rfl,rfl,g1,g2,k _ G H (Ext.refl _) s j2⟩
theorem Z9u {xs ys : List D} (hz : xs.length + ys.length <= sizeLine) : Op2 X O (binaryOp .Add) (.tup xs) (.tup ys) (.tup (xs ++ ys)) := by
 cases xs with
 | nil => exact Z9v
 | cons x r => exact Z8s (by simp) hz
end
section
variable {X : Cx} {mk : Prop} {ρ : Rho} {O : Sto} {P : Post} {RX : XC} {pos : Pos}
end
section
variable {X : Cx} {O : Sto} {da db ea eb : D} {k : Nat} {v : Value}
end
section
variable {X : Cx} {ρ : Rho} {O : Sto} {value o ix : Expr} {P : Post} {pos tpos : Pos} {q j : Nat} {i : Int} {xs : List D}
end
end DL
namespace L2
open PySem PySem.Spec PyProof.Rows
def Z8H (n : Int) : Str := if n = 1 then "0" else ⟨(List.replicate n.toNat (("0" : Str).cps)).foldl (· ++ ·) #[]⟩
end L2
namespace DL
open PySem PySem.Spec PyProof.Rows L2
section
variable {X : Cx} {ρ : Rho} {O : Sto} {a e : Expr} {d : D}
end
section
variable {X : Cx} {ρ : Rho} {O : Sto} {elt tg iter : Expr} {ifs : List Expr} {scope : Scope} {pos : Pos} {xs : List D} {zs : List (Option D)}
end
section
variable {X : Cx} {ρ : Rho} {O : Sto} {P : Post} {pos : Pos}
variable {α : Type} {ps : List α} {f g : α -> D} {h : α -> Option D} {tg iter elt : Expr} {ifs : List Expr} {scope : Scope}
end
section
variable {P : Program} {w : World} {K : PySem.W.Frag} {mg : Str -> Option Value} {base : Heap}
end
section
variable {prog : Program} {w : World} {A : Around} {E : Value -> Shared -> Prop} {s : Shared}
end
section
variable {X : Cx} {O : Sto}
end
section
variable {X : Cx} {mk : Prop} {ρ : Rho} {O : Sto} {value o : Expr} {RX : XC} {pos pos' : Pos} {f : Str} {P : Post} {C : Addr} {q : Nat} {fs : List (Str × D)}
end
end DL
namespace DL
open PySem PySem.Spec PyProof.Rows L2 PySem.SeqAt PySem.MeetsSeq
section
variable {X : Cx} {ρ : Rho} {O : Sto} {a e : Expr} {d : D}
end
end DL
namespace DL
open PySem PySem.Spec PyProof.Rows L2 PySem.W
section
variable {prog : Program} {w : World} {A : Around} {s : Shared} {E : Value -> Shared -> Prop} {it : Addr} {Ty : String}
end
section
variable {prog : Program} {w : World} {A : Around} {s : Shared} {E : Value -> Shared -> Prop} {it l : Addr} {i : Int}
end
section
variable {X : Cx} {ρ : Rho} {O : Sto} {a : Expr} {pos p pos2 p2 : Pos} {xs : List D}
end
end DL
namespace L2
open PySem PySem.Spec PyProof.Rows
section
variable {X : Cx} {tg a b c : Expr} {p pos : Pos}
end
end L2
namespace DL
open PySem PySem.Spec PyProof.Rows L2
section
variable {X : Cx} {ρ : Rho} {O : Sto} {a b c : Expr} {p pos : Pos} {P : Post} {st : Stmt} {rest : List Stmt}
end
section
variable {X : Cx} {ρ : Rho} {O : Sto} {a b e : Expr} {pos : Pos} {P : Post} {d da db ea eb : D} {k : Nat} {xs : List D}
end
section
variable {X : Cx} {ρ : Rho} {O : Sto} {a b e : Expr} {pos p : Pos} {d : D} {x y : Str}
end
section
variable {X : Cx} {ρ : Rho} {O : Sto} {a b e : Expr} {pos p : Pos} {d : D} {x y sep : Str}
end
section
variable {X : Cx} {ρ : Rho} {O : Sto} {pos : Pos} {x y : Str}
end
end DL
namespace L2
open PySem PySem.Spec PyProof.Rows
section
variable {prog : Program} {w : World} {A : Around} {E : Value -> Shared -> Prop}
end
end L2
namespace DL
open PySem PySem.Spec PyProof.Rows L2
section
variable {X : Cx} {ρ ρ1 : Rho} {O : Sto} {e a b : Expr} {es : List Expr} {d da : D} {ds xs : List D} {R : D -> Sto -> Prop} {P : Post} {pos p : Pos} {x : Str} {q : Nat} {v : Value}
end
section
variable {X : Cx} {ρ : Rho} {O : Sto} {e a b c : Expr} {d da db y : D} {ks : List Key} {xs : List D} {k : Key} {j q : Nat} {R : D -> Sto -> Prop} {P : Post} {pos apos cpos tpos : Pos}
end
section
variable {X : Cx} {ρ : Rho} {O : Sto} {a b e : Expr} {pos p : Pos} {d : D} {ks : List Key} {xs : List D}
end
section
variable {X : Cx} {ρ : Rho} {O : Sto} {a b e : Expr} {elts : List Expr} {x1 : Nat} {pos p tp apos cpos : Pos} {d : D} {ks : List Key} {xs : List D}
end
mutual
def sbD (n : Nat) (e : D) : D -> D
 | .ptr m => if m = n then e else .ptr m
 | .tup xs => .tup (sbDs n e xs)
 | .non => .non | .bl b => .bl b | .int i => .int i | .str x => .str x | .lst xs => .lst xs | .scr xs => .scr xs | .ty t => .ty t | .fn a => .fn a | .dct ks xs => .dct ks xs
def sbDs (n : Nat) (e : D) : List D -> List D
 | [] => []
 | x :: xs => sbD n e x :: sbDs n e xs
end
section
variable {X : Cx} {ρ : Rho} {O : Sto} {rest : List Stmt} {P : Post} {n q : Nat} {ks : List Key} {xs : List D} {d : D} {C : Addr} {fs : List (Str × D)} {f : Str}
end
end DL
namespace DL
open PySem PySem.Spec PyProof.Rows L2 PySem.W
section
variable {prog : Program} {w : World} {A : Around} {s : Shared} {E : Value -> Shared -> Prop} {T : String} {r d : Addr} {n : Nat} {P : Nat -> Value -> Prop} {OK : Heap -> Prop}
end
section
variable {X : Cx} {ρ : Rho} {O : Sto} {a b e : Expr} {pos p apos cpos : Pos} {d da : D} {ks : List Key} {xs : List D} {R : D -> Sto -> Prop}
end
instance : Inhabited Str := ⟨⟨#[]⟩⟩
section
variable {X : Cx} {ρ : Rho} {O : Sto} {e : Expr} {pos p : Pos} {da : D} {ps : List Str} {xs : List D}
end
section
variable {X : Cx} {ρ : Rho} {O : Sto} {a e : Expr} {pos apos cpos : Pos} {q : Nat} {ps : List Str} {x : Str} {P : Post} {ks : List Key} {xs : List D}
end
section
variable {X : Cx} {ρ : Rho} {O : Sto} {value o : Expr} {pos pos' : Pos} {q : Nat} {C : Addr} {fs : List (Str × D)} {f : Str} {P : Post}
theorem Z8e (hv : Ev X ρ O value λ d O' => EvP X ρ O' o (.ptr q) /\ O'[q]? = some (some (.ins C fs)) /\ P.nx ρ (O'.set q (some (.ins C (putD f d fs))))) (c : Cls X.K C) (n : Q0l X.K C f) (hz : fs.length < 1000) (hs : swapsWith value (some (.Attribute o f pos')) pos.line X.env = pure false := by rfl) :
  Ex X ρ O (.Assign [.Attribute o f pos'] value pos) P := λ G pins s σ H E I ⟨h1,h2,h3⟩ => by
 refine plainObj_wpAny_Assign_Attribute (thn (hv G pins s σ H (λ v H1 => ∃ d O1 G1,Ext G G1 /\ SA X.K G1 H1 O1 /\ Is X.K G1 d v /\ EvP X ρ O1 o (.ptr q) /\ O1[q]? = some (some (.ins C fs)) /\ P.nx ρ (O1.set q (some (.ins C (putD f d fs))))) I ⟨h1,h2,λ v d O' G' H' e s i r => ⟨d,O',G',e,s,i,r⟩⟩) λ u s1 ⟨y,H1,I1,ry,d,O1,G1,e1,sa1,i1,ho,hq,h⟩ =>
  thn (ho G1 pins s1 σ H1 (λ v H2 => ∃ G2,Ext G1 G2 /\ SA X.K G2 H2 O1 /\ Is X.K G2 (.ptr q) v) I1 ⟨sa1,h2.ext e1,λ v G' H' e s i => ⟨G',e,s,i⟩⟩) λ ov s2 ⟨x,H2,I2,rx,G2,e2,sa2,i2⟩ => ?_) hs
 obtain ⟨a,dx,vs,rfl,g1,g2,g3⟩ := sa2.ins i2 hq
 obtain rfl : ov = Value.ref a := rx
 refine Q7R I2 g2 c n (by rw [<- g3.len]; exact hz) ry λ s3 I3 => ⟨σ,_,I3,?_⟩
 exact h3.nx σ ρ _ G2 _ (e1.trans e2) (sa2.put (m' := .ins C (putD f d fs)) hq g1 ⟨dx,_,Q0u,g3.put (i1.ext e2)⟩) (h2.ext (e1.trans e2)) h
end
section
variable {X : Cx} {ρ : Rho} {O : Sto} {e : Expr} {qs : List Str} {xs : List D}
end
section
variable {X : Cx} {ρ : Rho} {O : Sto}
theorem Z5F {es : List Expr} {R : D -> Sto -> Prop} {x1 : Nat} {pos : Pos} (h : EvAs X ρ O es λ ds O' => ds.length <= sizeLine /\ R (.tup ds) O') : Ev X ρ O (.Tuple es x1 pos) R := λ G =>
 PE.imp (Z8p (h G)) λ σ H Q ⟨h1,h2,h3⟩ => ⟨h1,h2,λ vs ds O1 G1 H1 e1 s1 i1 r1 => ⟨by rw [<- i1.length]; exact r1.1,λ p hp => by
  obtain ⟨e2,s2⟩ := s1.laid (o := .tup vs) hp
  exact h3 _ _ _ _ _ (e1.trans e2) s2 (.tup (SqT.of Q0u) (i1.ext e2)) r1.2⟩⟩
end
section
variable {X : Cx} {ρ : Rho} {O : Sto} {a : Expr} {pos apos cpos : Pos} {q : Nat} {ks : List Key} {xs : List D} {P : Post}
end
end DL
namespace L2
open PySem PySem.Spec PyProof.Rows
end L2
namespace DL
open PySem PySem.Spec PyProof.Rows L2
end DL
namespace DL
open PySem PySem.Spec PyProof.Rows L2 PySem.W
section
variable {X : Cx} {O : Sto} {da db ea : D} {k : Nat} {xs : List D}
end
section
variable {X : Cx} {ρ : Rho} {O : Sto} {a e : Expr} {pos apos cpos : Pos} {q : Nat} {xs : List D} {P : Post}
theorem Z3X (ho : EvP X ρ O a (.ptr q)) (he : Ev X ρ O e λ d O' => O'[q]? = some (some (.lst xs)) /\ P.nx ρ (O'.set q (some (.lst (xs ++ [d]))))) (hq : O[q]? = some (some (.lst xs))) (hz : xs.length < sizeLine)
  (hbase : attributeBase a ("append" : Str) X.env (eval a X.env) = eval a X.env := by rfl) (hline : (apos.endLine == cpos.line) = true := by rfl) (hst : starEach [e] X.env = [(false,eval e X.env)] := by rfl)
  (hsw : swapsWith (.Call (.Attribute a ("append" : Str) apos) [e] [] cpos) none pos.line X.env = pure false := by rfl) : Ex X ρ O (.Expr (.Call (.Attribute a ("append" : Str) apos) [e] [] cpos) pos) P := λ G =>
 PS.imp (Z1e (Y0X PySem.F.plainAttrs_list PySem.F.slot_list_append PySem.F.type_list_append Z0e (ho G)
  (Q4Q (te := λ σ H Q => ∃ G1,SA X.K G1 H O /\ EnvR X.K G1 σ ρ /\ ∀ v d O' G' H',Ext G1 G' -> SA X.K G' H' O' -> Is X.K G' d v -> (O'[q]? = some (some (.lst xs)) /\ P.nx ρ (O'.set q (some (.lst (xs ++ [d]))))) -> Q v H') (λ pins s σ H Q I ⟨G1,q⟩ => he G1 pins s σ H Q I q) Z2h hst) hbase
  (by rw [hst]; rfl) hline hst (by rfl)) hsw) λ E σ H ⟨q1,q2,q3⟩ => ⟨q1,q2,λ v G1 H1 e1 s1 i1 => by
   cases i1 with
   | ptr _ ha =>
   obtain ⟨a1,g0,g1,vs,g2,g3⟩ := s1.mt q _ hq
   obtain rfl := Option.some.inj (ha.symm.trans g0)
   refine ⟨.inl ⟨rfl,vs,SqL.of g2⟩,G1,s1,q2.ext e1,λ w d O' G2 H2 e2 s2 i2 ⟨hq2,h⟩ => ?_⟩
   obtain ⟨a2,g7,g4,us,g5,g6⟩ := s2.mt q _ hq2
   obtain rfl := Option.some.inj ((e2.at g0).symm.trans g7)
   refine ⟨_,us,w,rfl,rfl,g5,by rw [<- g6.length]; exact hz,?_⟩
   exact q3.nx σ ρ _ G2 _ (e1.trans e2) (s2.put (m' := .lst (xs ++ [d])) hq2 g7 ⟨_,Q0u,g6.append (.cons i2 .nil)⟩) (q2.ext (e1.trans e2)) h⟩
end
section
variable {X : Cx} {ρ : Rho} {O : Sto} {e a b c : Expr} {body : List Stmt} {d da db : D} {xs : List D} {ks : List Key} {ps : List Str} {R : D -> Sto -> Prop} {P : Post} {pos p : Pos} {j n : Nat}
end
section
variable {X : Cx} {ρ : Rho} {O : Sto} {e a b c iter tg : Expr} {st : Stmt} {body rest : List Stmt} {d da db : D} {xs : List D} {ks : List Key} {k : Key} {ob : Obj} {vs : List V} {ps : List Str} {R : D -> Sto -> Prop} {P : Post} {pos p : Pos} {j n : Nat}
end
section
variable {X : Cx} {O : Sto} {da db : D} {ks : List Key} {ns : List Int} {j : Nat}
end
section
variable {X : Cx} {ρ : Rho} {O : Sto} {a : Expr} {da : D} {xs : List D} {ks : List Key} {pos : Pos}
end
mutual
def ndD : D -> Bool
 | .dct _ _ => false
 | .tup xs => ndDs xs
 | .lst xs => ndDs xs
 | .scr xs => ndDs xs
 | .non => true | .bl _ => true | .int _ => true | .str _ => true | .ptr _ => true | .ty _ => true | .fn _ => true
def ndDs : List D -> Bool
 | [] => true
 | x :: xs => ndD x && ndDs xs
end
section
variable {K : PySem.W.Frag} {G : Wd} {p : Addr} {ob : Obj} {kvs : List (Key × V)}
end
section
variable {X : Cx} {ρ : Rho} {O : Sto} {e a b : Expr} {d d0 : D} {xs : List D} {ks : List Key} {k : Key} {R : D -> Sto -> Prop} {pos : Pos} {n : Nat}
end
section
variable {X : Cx} {ρ : Rho} {O : Sto} {a b : Expr} {d da db : D} {ks : List Key} {k : Key} {ns : List Int} {R : D -> Sto -> Prop} {pos : Pos} {j : Nat}
end
section
variable {X : Cx} {ρ : Rho} {O : Sto} {e a b : Expr} {d : D} {xs : List D} {ks : List Key} {R : D -> Sto -> Prop} {RT : Bool -> Sto -> Prop} {pos : Pos} {n : Nat}
end
end DL
namespace L2
open PySem PySem.Spec PyProof.Rows
section
variable {M : Model} {A : Around} {E : Value -> Shared -> Prop} {s : Shared} {B : Heap} {l : List Env} {a : Addr} {cls a0 : Value}
end
section
variable {CX : CXT} {P : Program} {w : World} {K : PySem.W.Frag} {mg : Str -> Option Value} {base : Heap} {N : List Str} {qual : Str} {scope : Scope} {f : Addr} {cd : Value} {A : Around} {outer : List Env} {s : Shared} {H : Hp} {E : XK}
end
end L2
namespace DL
open PySem PySem.Spec PyProof.Rows L2
section
variable {X : Cx} {N : List Str} {scope : Scope} {s2 s9 s10 : Shared} {H2 H9 H' : Hp} {fp : List Addr} {F : Value -> Shared -> Prop} {pins pinsY : List (Addr × Obj)} {σ σ9 : L2.St} {a C : Addr} {od : Option Addr} {B : Heap} {Q : Value -> Shared -> Prop} {acc : Value}
end
section
variable {X : Cx} {ρ : Rho} {O : Sto} {elt tg iter : Expr} {scope : Scope} {pos : Pos} {xs zs : List D} {RX : XC}
end
section
variable {X : Cx} {ρ : Rho} {O : Sto} {e c elt tg iter : Expr} {scope : Scope} {pos p : Pos} {xs : List D} {RX : XC} {st : Stmt} {rest body orelse : List Stmt} {P : Post} {R : D -> Sto -> Prop}
end
section
variable {P : Program} {w : World} {K : PySem.W.Frag} {mg : Str -> Option Value} {base : Heap}
end
section
variable {prog : Program} {w : World} {A : Around} {E : Value -> Shared -> Prop} {s : Shared}
end
section
variable {X : Cx} {O : Sto} {d : D} {q : Nat} {C ah : Addr} {fs : List (Str × D)}
end
end DL
namespace L2
open PySem PySem.Spec PyProof.Rows
end L2
namespace DL
open PySem PySem.Spec PyProof.Rows L2
section
variable {X : Cx} {ρ : Rho} {O : Sto} {a b a2 b2 : Expr} {d d2 : D} {k k2 : Key} {R : D -> Sto -> Prop} {pos : Pos}
end
end DL
namespace DL
open PySem PySem.Spec PyProof.Rows L2 PySem.W
section
open PySem.AutoSeq1 (wpAny_loadPart')
open PySem.SeqAt PySem.MeetsSeq PySem.MeetsSeq2 PySem.MeetsSeq3 PySem.SeqRoads2
end
section
variable {X : Cx} {ρ : Rho} {O : Sto} {da db : D} {ks : List Key} {ns : List Int} {j : Nat} {ts : List D}
end
end DL
namespace DL
open PySem PySem.Spec PyProof.Rows L2
section
variable {X : Cx} {ρ : Rho} {O : Sto} {da ea : D} {xs : List D} {k : Nat} {es : List Expr} {R : D -> Sto -> Prop} {pos : Pos}
end
section
variable {P : Program} {w : World} {K : PySem.W.Frag} {mg : Str -> Option Value} {base : Heap} {C : Addr} {j k : Nat} {x m : Str} {sp sp' : SpD}
theorem Q0e.mono (M : Q0e P w K mg base C j m sp) (h : j <= k) : Q0e P w K mg base C k m sp := let ⟨f,fd,ps,h1,h2⟩ := M.ex; ⟨⟨f,fd,ps,h1.mono h,h2⟩,M.cls⟩
end
section
variable {X : Cx} {mk : Prop} {ρ : Rho} {O : Sto} {x y : Str} {f : Addr} {p pos : Pos} {e : Expr} {es : List Expr} {ds : List D} {R : D -> Sto -> Prop} {RX : XC}
end
end DL
set_option maxHeartbeats 2000000
namespace DL
open PySem PySem.Spec PyProof.Rows L2 PySem.W
section
variable {prog : Program} {w : World} {A : Around} {E : Value -> Shared -> Prop} {s : Shared} {n l1 l2 l3 i1 i2 i3 : Nat} {k1 k2 k3 : Bool} {xs ys zs : Array Value} {f0 f1 a b c v : Value}
end
section
variable {prog : Program} {w : World} {A : Around} {E : Value -> Shared -> Prop} {s : Shared} {n l1 l2 l3 i1 i2 i3 i : Nat} {k1 k2 k3 : Bool} {xs ys zs : Array Value} {f0 f1 a b c v : Value}
end
section
variable {X : Cx} {ρ : Rho} {O : Sto} {a b c : Expr} {da db dc : D} {pos p : Pos} {xs ys zs : List D}
end
end DL
set_option maxHeartbeats 1000000
namespace DL
open PySem PySem.Spec PyProof.Rows L2
section
variable {X : Cx} {ρ : Rho} {O : Sto} {elt tg iter : Expr} {scope : Scope} {pos : Pos} {xs zs : List D}
theorem Z3I (S : Nat -> Sto) (hS0 : S 0 = O) (N : List Str) (js : List Nat) (ρ0 : Rho) (hi : EvI X ρ O tg iter xs) (hc : X.calm = true) (hk : scope.kind = .function) (hfr : Z2J X scope) (hnm : ∀ x ∈ scope.names,x.2 = .local -> scope.names.lookup x.1 = some .local)
    (hl0 : ρ0.length = N.length)
    (h0 : ∀ (i : Nat) (d : D),ρ0[i]? = some (some d) -> ∃ (x : Str) (j : Nat),N[i]? = some x /\ scope.names.lookup x = some .free /\ (∀ y ∈ scope.names,y.1 = x -> y.2 ≠ .cell) /\ X.N[j]? = some x /\ ρ[j]? = some (some d) /\ Vis X.env.scope x)
    (hzl : zs.length = xs.length) (hsz : xs.length <= sizeLine)
    (turn : ∀ (s : Shared) (H : Hp) (fp : List Addr) (i : Nat) (x : D) (z : D),xs[i]? = some x -> zs[i]? = some z -> ∃ ρ1,Tg (cxC X N scope s H fp) tg x ρ0 ρ1 /\ ρ1.length = ρ0.length /\ (∀ (j : Nat) (d : D),ρ0[j]? = some (some d) -> ρ1[j]? = some (some d)) /\ Ev (cxC X N scope s H fp) ρ1 (S i) elt λ d O' => d = z /\ O' = S (i + 1))
    {use : Option (Value -> Sem Unit)} {pins : List (Addr × Obj)} {s : Shared} {σ : L2.St} {H : Hp} {G : Wd} {Q : Value -> Shared -> Prop} (I : L2.Inv X pins σ H s) (sa : SA X.K G H O) (en : EnvR X.K G σ ρ)
    (fin : ∀ (D C : Addr) (s' : Shared) (H5 : Hp) (G5 : Wd) (vs : List V),L2.Inv X pins σ (upd H5 D (.lst vs)) s' -> Ext G G5 -> SA X.K G5 H5 (S xs.length) -> H5 D = none -> Iss X.K G5 zs vs -> FpOk X pins (upd H5 D (.lst vs)) C -> (∃ m,s'.heap.Ns C m) -> compPost (model X.prog X.w) X.A X.xe use Q (.ref D) C (.ok .next) s')
    (hs : ∀ x,foldedSetIterable iter X.env x = pure x := by intro _; rfl) :
    wpAny (model X.prog X.w) X.A (comprehension (.ListComp elt [⟨tg,iter,[],0⟩] scope pos) scope X.env (firstIterPos [⟨tg,iter,[],0⟩] pos) (newList []) false (eval iter X.env) use) Q X.xe s := by
  refine wpAny_comprehension_free rfl hs (Z6a λ y hy e => I.ok.has _ (hfr y hy e)) hk hnm (thn (hi G pins s σ H (λ J H1 => ∃ G1,Ext G G1 /\ SA X.K G1 H1 O /\ Q2Y X.K G1 J xs) I ⟨sa,en,λ J G1 H1 e1 s1 y1 => ⟨G1,e1,s1,y1⟩⟩) λ v s1 h1 => thn h1 λ itv s2 h2 => ?_)
  obtain ⟨it,fp,tn,J,H2,e,I2,T,st2,f2,G2,e2,sa2,Yi⟩ := h2
  subst e
  have ho2 : ∀ b ∈ fp,∃ o,s2.heap.get? b = some o := λ b hb => let ⟨o,q,_⟩ := T.obj 0 _ st2 b hb; ⟨o,q⟩
  have hlt : ∀ b ∈ fp,b < s2.heap.objs.size := λ b hb => let ⟨o,q⟩ := ho2 b hb; Heap.lt_size q
  unfold newList
  refine wpAny_newObj_type (Q6H λ bb hbb => ?_)
  have hbb' : bb = X.env.builtins := hbb
  subst hbb'
  have hz1 : (s2.heap.push { cls := .type "list",dict := none,data := .seq ([] : List Value).toArray }).objs.size = s2.heap.objs.size + 1 := Heap.size_push ..
  dsimp only
  rw [hz1]
  generalize hD : s2.heap.objs.size = dd at hz1 ⊢
  -- the block's own context
  have en2 : EnvR X.K G2 σ ρ := en.ext e2
  obtain ⟨σ0,hσl,hσ0⟩ := Z1o (λ i (o : Option V) => (∀ d,ρ0[i]? = some (some d) -> ∃ v,o = some v /\ Is X.K G2 d v) /\ ∀ v,o = some v -> ∃ (x : Str) (j : Nat),N[i]? = some x /\ scope.names.lookup x = some .free /\ (∀ y ∈ scope.names,y.1 = x -> y.2 ≠ .cell) /\ X.N[j]? = some x /\ σ[j]? = some (some v) /\ Vis X.env.scope x) N.length (λ i hi => by
    cases q : ρ0[i]? with
    | none => exact ⟨none,And.intro (λ d z => nomatch z) (λ v z => nomatch z)⟩
    | some o =>
      cases o with
      | none => exact ⟨none,And.intro (λ d z => nomatch z) (λ v z => nomatch z)⟩
      | some d =>
        obtain ⟨x,j,q1,q2,q3,q4,q5,q6⟩ := h0 i d q
        obtain ⟨v,q7,q8⟩ := en2.get j d q5
        exact ⟨some v,And.intro (λ d' z => by cases z; exact ⟨v,rfl,q8⟩) (λ v' z => by cases z; exact ⟨x,j,q1,q2,q3,q4,q7,q6⟩)⟩)
  have en0 : EnvR X.K G2 σ0 ρ0 := ⟨hσl.trans hl0.symm,λ i d e => by
    have hi : i < σ0.length := by rw [hσl,<- hl0]; exact (List.getElem?_eq_some_iff.mp e).1
    obtain ⟨v,e1,e2⟩ := (hσ0 i σ0[i] (List.getElem?_eq_getElem hi)).1 d e
    exact ⟨v,by rw [List.getElem?_eq_getElem hi,e1],e2⟩⟩
  have I3 := Z2n (N := N) (scope := scope) (fp := fp) (σ0 := σ0) I2 f2 ho2 hk hfr hσl (λ i v e => (hσ0 i _ e).2 v rfl) s2.toks { cls := .type "list",dict := none,data := .seq ([] : List Value).toArray }
  generalize hY : cxC X N scope s2 H2 fp = Y at I3
  have hD1 : (pushCells ((s2.heap.push { cls := .type "list",dict := none,data := .seq ([] : List Value).toArray }).push { cls := .type "dict",data := .dict #[] }) scope.names).get? dd = some (lstO []) := by
    refine pushCells_keeps _ _ _ _ (Heap.get?_push_of_some _ ?_)
    rw [<- hD]
    exact Heap.get?_push_size _ rfl
  have hHD : H2 dd = none := I2.hok.fresh (by rw [hD]; exact Nat.le_refl _)
  have hsD : s2.heap.get? dd = none := Heap.get?_none_of_le (by rw [hD]; exact Nat.le_refl _)
  have hDC : dd ≠ Y.env.locals := by
    rw [<- hY]; show dd ≠ s2.heap.objs.size + 1; rw [hD]; exact Nat.ne_of_lt (Nat.lt_succ_self _)
  have hfs : ∀ b ∈ frs X.stack,b < s2.heap.objs.size := λ b hb => by
    rcases List.mem_cons.mp (I2.stkSub b hb) with q | q
    · rw [q]; exact I2.lt
    · exact Nat.lt_of_not_le λ z => I2.nofs z q
  have hYfs : Y.fs = frs X.stack := by rw [<- hY]; rfl
  have hDfs : dd ∉ Y.fs := λ z => by rw [hYfs] at z; have := hfs dd z; rw [hD] at this; exact Nat.lt_irrefl _ this
  have hYex : Y.ex = fp := by rw [<- hY]; rfl
  have hYpn : Y.pn = [] := by rw [<- hY]; rfl
  have hYxe : Y.xe = λ _ _ => False := by rw [<- hY]; rfl
  have hYs : Y.s₀.heap.objs.size = dd := by rw [<- hY]; exact hD
  have hYc : ∀ x c,Y.env.cells.lookup x = some c -> c ≠ dd /\ ∀ b ∈ fp,c ≠ b := λ x c e => by
    refine ⟨?_,λ b hb => ?_⟩
    · intro z
      subst z
      obtain ⟨v,o,q1,q2⟩ := I3.cell x c e
      rw [hD1] at q1; cases q1; cases q2
    · have := I3.ok.exf b (by rw [hYex]; exact hb)
      exact this.2 x c e
  have fpY : ∀ {H' : Hp} {pl : List (Addr × Obj)},(∀ b ∈ fp,H' b = none) -> (∀ p ∈ pl,p.1 = dd) -> ∀ b ∈ fp,FpOk Y pl H' b := λ hn hp b hb => ⟨hn b hb,(I3.ok.exf b (by rw [hYex]; exact hb)).1,I3.ok.exfs b (by rw [hYex]; exact hb),.inl (by rw [hYex]; exact hb),λ x c e => (hYc x c e).2 b hb,λ p hq => by
    rw [hYpn,List.nil_append] at hq
    rw [hp p hq]
    exact Nat.ne_of_gt (by rw [<- hD]; exact hlt b hb)⟩
  have I4 : L2.Inv Y [(dd,lstO [])] σ0 H2 { s2 with heap := pushCells ((s2.heap.push { cls := .type "list",dict := none,data := .seq ([] : List Value).toArray }).push { cls := .type "dict",data := .dict #[] }) scope.names,toks := s2.toks } := I3.pins_of λ p hp => by
    rw [List.mem_singleton.mp hp]
    exact ⟨hD1,hHD,hDC,hDfs,λ v z => by cases z⟩
  have st4 : tn 0 (pushCells ((s2.heap.push { cls := .type "list",dict := none,data := .seq ([] : List Value).toArray }).push { cls := .type "dict",data := .dict #[] }) scope.names) := T.keep 0 _ _ st2 λ b hb o e => pushCells_keeps _ _ b o (Heap.get?_push_of_some _ (Heap.get?_push_of_some _ e))
  have hYp : Y.prog = X.prog := by rw [<- hY]; rfl
  have hYw : Y.w = X.w := by rw [<- hY]; rfl
  have hYK : Y.K = X.K := by rw [<- hY]; rfl
  have hYA : Y.A = X.A := by rw [<- hY]; rfl
  have hYcm : Y.calm = true := by rw [<- hY]; exact hc
  have loop : ∀ s3 : Shared,s3 = { s2 with heap := pushCells ((s2.heap.push { cls := .type "list",dict := none,data := .seq ([] : List Value).toArray }).push { cls := .type "dict",data := .dict #[] }) scope.names } ->
      codeAny (model X.prog X.w) X.A (.compLoop (.ListComp elt [⟨tg,iter,[],0⟩] scope pos) 0 (.ref it) (.ref dd) Y.env) (compPost (model X.prog X.w) X.A X.xe use Q (.ref dd) (dd + 1)) s3 := by
    rintro s3 rfl
    refine Q5e (λ n s' => ∃ (i : Nat) (G' : Wd) (σ' : L2.St) (H' : Hp) (vs : List V) (its : List Value),n = xs.length - i /\ i <= xs.length /\ L2.Inv Y [(dd,lstO its)] σ' H' s' /\ tn i s'.heap /\ (∀ b ∈ fp,H' b = none) /\ Ext G2 G' /\ SA X.K G' H' (S i) /\ EnvR X.K G' σ' ρ0 /\
      Iss X.K G' (zs.take i) vs /\ Vals vs its /\ its.length <= i) ?_ xs.length _ ⟨0,G2,σ0,H2,[],[],rfl,Nat.zero_le _,I4,st4,λ b hb => (f2 b hb).1,Ext.refl _,hS0 ▸ sa2,en0,.nil,.nil,Nat.le_refl _⟩
    rintro n s5 F ⟨i,G5,σ5,H5,vs,its,rfl,hil,I5,st5,fr5,e5,sa5,en5,is5,va5,hl5⟩
    by_cases hlt5 : i < xs.length
    · have hx : xs[i]? = some xs[i] := List.getElem?_eq_getElem hlt5
      have hzi : i < zs.length := by omega
      have hz : zs[i]? = some zs[i] := List.getElem?_eq_getElem hzi
      generalize xs[i] = x at hx
      generalize zs[i] = z at hz
      have it5 := T.item Y hYp hYw hYK hYcm i [(dd,lstO its)] s5 σ5 H5 F I5 (fpY fr5 (λ p hp => by rw [List.mem_singleton.mp hp])) st5 (Yi.go i H5 (e5.g.trans sa5.sub) hlt5)
      rw [hYA] at it5
      refine thn it5 λ r s6 ⟨u,hr,h6⟩ => ?_
      subst hr
      refine thn h6 λ _ s7 ⟨xv,H7,I7,r7,y7,st7,fr7⟩ => ?_
      obtain ⟨x',G7,hx',e7,sa7,ix⟩ := Yi.yld i xv H5 H7 G5 (S i) e5 sa5 y7 hlt5
      have : x' = x := Option.some.inj (hx'.symm.trans hx)
      subst this
      have I7' := I7.pinned (fpY fr7 (λ p hp => by rw [List.mem_singleton.mp hp])) (T.obj _ _ st7)
      obtain ⟨ρ1,tg1,hl1,hs1,kp1⟩ := turn s2 H2 fp i x' z hx hz
      rw [hY] at tg1 kp1
      have xeF : ∀ {α : Type} {t : Sem α} {P : α -> Shared -> Prop} {q : Shared},wpAny (model Y.prog Y.w) Y.A t P Y.xe q -> wpAny (model X.prog X.w) X.A t P F q := λ h => by
        rw [hYp,hYw,hYA,hYxe] at h
        exact wpAny_mono h (λ _ _ q => q) λ _ _ q => q.elim
      refine thn (xeF (tg1 G7 _ s7 σ5 H7 xv u (λ σ' H' => EnvR X.K G7 σ' ρ1 /\ H' = H7) I7' r7 (by
        rw [hYK]
        exact ⟨ix,sa7.sub,en5.ext e7,λ σ' q => ⟨q,rfl⟩⟩))) λ _ s8 ⟨σ8,H8,I8,en8,hH8⟩ => ?_
      subst hH8
      -- back to the invariant,with or without one more
      have again : ∀ {s9 : Shared} {H9 : Hp} {G9 : Wd} {its' : List Value} {vs' : List V},L2.Inv Y ((dd,lstO its') :: Q2d fp s7.heap) σ8 H9 s9 -> Ext G7 G9 -> SA X.K G9 H9 (S (i + 1)) -> Iss X.K G9 (zs.take (i + 1)) vs' -> Vals vs' its' -> its'.length <= i + 1 ->
          ∃ m,m < xs.length - i /\ ∃ (i : Nat) (G' : Wd) (σ' : L2.St) (H' : Hp) (vs : List V) (its : List Value),m = xs.length - i /\ i <= xs.length /\ L2.Inv Y [(dd,lstO its)] σ' H' s9 /\ tn i s9.heap /\ (∀ b ∈ fp,H' b = none) /\ Ext G2 G' /\ SA X.K G' H' (S i) /\ EnvR X.K G' σ' ρ0 /\
            Iss X.K G' (zs.take i) vs /\ Vals vs its /\ its.length <= i := λ {s9 H9 G9 its' vs'} I9 e9 sa9 is9 va9 hl9 => by
        refine ⟨xs.length - (i + 1),by omega,i + 1,G9,σ8,H9,vs',its',rfl,hlt5,I9.pins_of (λ p hp => I9.pin p (by rw [hYpn,List.nil_append]; rw [List.mem_singleton.mp hp]; exact List.mem_cons_self)),T.keep _ _ _ st7 λ b hb o e => (I9.pin (b,o) (by rw [hYpn,List.nil_append]; exact List.mem_cons_of_mem _ (Q1F hb e))).1,λ b hb => ?_,(e5.trans e7).trans e9,sa9,(en8.weak hl1.symm hs1).ext e9,is9,va9,hl9⟩
        obtain ⟨o,e,_⟩ := T.obj _ _ st7 b hb
        exact (I9.pin (b,o) (by rw [hYpn,List.nil_append]; exact List.mem_cons_of_mem _ (Q1F hb e))).2.1
      have more : ∀ {s9 : Shared} {G9 : Wd} {H9 : Hp},L2.Inv Y ([(dd,lstO its)] ++ Q2d fp s7.heap) σ8 H9 s9 -> Ext G7 G9 -> SA X.K G9 H9 (S i) -> Ev Y ρ1 (S i) elt (λ d O' => d = z /\ O' = S (i + 1)) -> wpAny (model X.prog X.w) X.A (eval elt Y.env) (λ x s5 => wpAny (model X.prog X.w) X.A (call (.builtin "list.append") [.ref dd,x]) (λ _ s6 => ∃ m,m < xs.length - i /\ ∃ (i : Nat) (G' : Wd) (σ' : L2.St) (H' : Hp) (vs : List V) (its : List Value),m = xs.length - i /\ i <= xs.length /\ L2.Inv Y [(dd,lstO its)] σ' H' s6 /\ tn i s6.heap /\ (∀ b ∈ fp,H' b = none) /\ Ext G2 G' /\ SA X.K G' H' (S i) /\ EnvR X.K G' σ' ρ0 /\
            Iss X.K G' (zs.take i) vs /\ Vals vs its /\ its.length <= i) F s5) F s9 := λ {s9 G9 H9} I9 e9 sa9 ev => by
        refine thn (xeF (ev G9 _ s9 σ8 H9 (λ v H' => ∃ G',Ext G9 G' /\ SA X.K G' H' (S (i + 1)) /\ Is X.K G' z v) I9 (by
          rw [hYK]
          exact ⟨sa9,en8.ext e9,λ v d O' G' H' q1 q2 q3 q4 => by obtain ⟨rfl,rfl⟩ := q4; exact ⟨G',q1,q2,q3⟩⟩))) λ uy s10 ⟨vy,H10,I10,r10,G10,e10,sa10,iy⟩ => ?_
        have p10 := I10.pin (dd,lstO its) (by rw [hYpn,List.nil_append]; exact List.mem_append_left _ List.mem_cons_self)
        refine append_at (hsz := by show its.toArray.size <= sizeLine; rw [List.size_toArray]; omega) p10.1 λ h' hs' hD' => ?_
        have Ia : L2.Inv Y (Q2d fp s7.heap) σ8 H10 s10 := I10.pins_of λ p hp => I10.pin p (by rw [hYpn,List.nil_append]; exact List.mem_append_right _ hp)
        have Ib : L2.Inv Y (Q2d fp s7.heap) σ8 H10 { s10 with heap := h' } := Ia.turned (t' := s10.toks) (λ b o hb e => (hs'.2 b hb).trans e) p10.2.1 hDC (.inr (by rw [hYs]; exact Nat.le_refl _)) (λ x c e => (hYc x c e).1) (λ p hp => by
          rw [hYpn,List.nil_append] at hp
          obtain ⟨hb,_⟩ := Q6G hp
          exact Nat.ne_of_lt (by rw [<- hD]; exact hlt p.1 hb))
        have Ic : L2.Inv Y ((dd,lstO (its ++ [uy])) :: Q2d fp s7.heap) σ8 H10 { s10 with heap := h' } := Ib.pins_of λ p hp => by
          rcases List.mem_cons.mp hp with q | q
          · rw [q]
            refine ⟨hD'.trans ?_,p10.2.1,hDC,hDfs,λ v z => by cases z⟩
            congr 1
            simp [lstO]
          · exact Ib.pin p (by rw [hYpn,List.nil_append]; exact q)
        refine again Ic (e9.trans e10) sa10 (vs' := vs ++ [vy]) ?_ (va5.append (.cons r10 .nil)) (by rw [List.length_append,List.length_singleton]; omega)
        rw [List.take_succ,hz]
        exact (is5.ext ((e7.trans e9).trans e10)).append (.cons iy .nil)
      unfold compTests
      refine wpAny_bind (wpAny_tests_nil (wpAny_pure ?_))
      simp only [if_true]
      exact more I8 (Ext.refl _) sa7 kp1
    · have hie : i = xs.length := by omega
      subst hie
      have dn := T.done Y hYp hYw hYK hYcm xs.length [(dd,lstO its)] s5 σ5 H5 F I5 (fpY fr5 (λ p hp => by rw [List.mem_singleton.mp hp])) st5 (Yi.stop _ H5 (e5.g.trans sa5.sub) (Nat.le_refl _))
      rw [hYA] at dn
      refine thn dn λ r s6 ⟨hr,I6⟩ => ?_
      subst hr
      have p6 := I6.pin (dd,lstO its) (by rw [hYpn,List.nil_append]; exact List.mem_cons_self)
      rw [<- hzl,List.take_length] at is5
      have vl : vs.length <= sizeLine := by rw [va5.length]; omega
      have Ix : L2.Inv X pins σ (upd H5 dd (.lst vs)) s6 := by
        have un := I6.base
        rw [hYfs,hYex,<- hY] at un
        have un : Un (frs X.stack) fp H2 H5 s2.heap s6.heap := un
        refine I2.call' (ch := fp) (I6.os.trans (by rw [<- hY]; rfl)) (Z6s un hHD hsD) ?_ I6.bare λ b hb => ?_
        · have hk6 := I6.hok
          rw [hYp,hYw] at hk6
          exact Q9s hk6 p6.2.1 ⟨vl,its,its.length,va5,p6.1⟩
        · obtain ⟨_,f1,_,f3,f4,f5⟩ := f2 b hb
          exact ⟨f3,f1,f4,f5⟩
      refine fin dd (dd + 1) s6 _ _ vs Ix (e2.trans e5) sa5 p6.2.1 is5 ?_ ?_
      · have hC : dd + 1 = Y.env.locals := by rw [<- hY]; show dd + 1 = s2.heap.objs.size + 1; rw [hD]
        have ge : s2.heap.objs.size <= dd + 1 := by rw [hD]; exact Nat.le_succ _
        have := I2.fpOk (H' := upd H5 dd (.lst vs)) ge (by
          have q := I6.free
          rw [<- hC] at q
          rw [Q0w (show dd + 1 ≠ dd from Nat.succ_ne_self _)]
          exact q)
        exact this
      · obtain ⟨m,hn,_⟩ := I6.loc
        rw [<- hY] at hn
        have hn : s6.heap.Ns (s2.heap.objs.size + 1) m := hn
        rw [hD] at hn
        exact ⟨m,hn⟩
  have eY : Y.env = { scope := relabel scope X.env,locals := dd + 1,globals := X.env.globals,cells := cellsFrom (dd + 1 + 1) scope.names (Q1C X.env scope.names []),qual := X.env.qual,func := none,code := X.env.code,frame := X.env.frame,builtins := X.env.builtins } := by
    rw [<- hY]
    show compEnvC _ _ _ _ = _
    rw [hD]
    rfl
  rw [<- eY]
  exact codeAny_compStart_list (loop _ rfl) (T.self X.A 0 _ _ _ st4 (loop _ rfl))
def Z8E (X : Cx) (T F : List Str) (js : List Nat) (ρ : Rho) (Oa Ob : Sto) (scope : Scope) (tg elt : Expr) (x z : D) : Prop :=
 ∀ (s : Shared) (H : Hp) (fp : List Addr),∃ ts : Rho,ts.length = T.length /\ Tg (cxC X (T ++ F) scope s H fp) tg x (T.map (λ _ => (none : Option D)) ++ frOf ρ js) (ts ++ frOf ρ js) /\ Ev (cxC X (T ++ F) scope s H fp) (ts ++ frOf ρ js) Oa elt λ d O' => d = z /\ O' = Ob
theorem Z7G {R : D -> Sto -> Prop} (S : Nat -> Sto) (hS0 : S 0 = O) (T F : List Str) (js : List Nat) (hi : EvI X ρ O tg iter xs) (hzl : zs.length = xs.length) (hsz : xs.length <= sizeLine) (turn : ∀ (i : Nat) (x z : D),xs[i]? = some x -> zs[i]? = some z -> Z8E X T F js ρ (S i) (S (i + 1)) scope tg elt x z) (hR : R (.lst zs) (S xs.length))
  (hfl : F.length = js.length) (hB : Q4u X.N X.env.scope.names scope.names F js = true) (hc : X.calm = true) (hk : scope.kind = .function) (hs : ∀ x,foldedSetIterable iter X.env x = pure x) :
  Ev X ρ O (.ListComp elt [⟨tg,iter,[],0⟩] scope pos) R := λ G pins s σ H Q I ⟨h1,h2,h3⟩ => by
 rw [eval_ListComp]
 refine Z3I S hS0 (T ++ F) js (T.map (λ _ => (none : Option D)) ++ frOf ρ js) hi hc hk (Q4V hB) (Q6O hB) (by simp [frOf,hfl]) (Q8X hB) hzl hsz (λ s H fp i x z q1 q2 => ?_) I h1 h2 (λ dd C s' H5 G5 vs I' e' sa5 hd5 is5 fo ns => ?_) hs
 ·obtain ⟨ts,t1,t2,t3⟩ := turn i x z q1 q2 s H fp
  obtain ⟨u1,u2⟩ := Z4l (fr := frOf ρ js) t1
  exact ⟨_,t2,u1,u2,t3⟩
 ·obtain ⟨m,hn⟩ := ns
  refine ⟨m,hn,λ h' hs' => ?_⟩
  obtain ⟨f0,f1,f2,f3,f4,f5⟩ := fo
  obtain ⟨e2,s2⟩ := sa5.laid (o := .lst vs) hd5
  exact ⟨.ref dd,upd H5 dd (.lst vs),I'.turned (t' := s'.toks) (λ b o hb e => (hs'.2 b hb).trans e) f0 f1 f3 f4 f5,rfl,h3 _ _ _ _ _ (e'.trans e2) s2 (.lst Q0u (is5.ext e2)) hR⟩
end
section
variable {X : Cx} {ρ : Rho} {O : Sto} {e : Expr} {es : List Expr} {R : D -> Sto -> Prop} {x : Str} {p pos : Pos}
theorem Z3G {T : String} (hm : X.mg x = none) (ha : EvAs X ρ O (e :: es) λ ds O1 => ∃ d,Q1U X O1 (.type T) ds d /\ R d O1) (hg : Gl X x := by rfl) (hv : bootBuiltins x = some (.type T) := by first | rfl | decide +kernel) (hn : x ≠ "__name__" := by decide) (hdb : (x == ("__debug__" : Str)) = false := by decide)
  (he : starEach (e :: es) X.env = (false,eval e X.env) :: starEach es X.env := by rfl) (hpl : (backTo pos (starEach es X.env)).any (·.1) = false := by rfl) : Ev X ρ O (.Call (.Name x p) (e :: es) [] pos) R := λ G =>
 PE.imp (Q9S (r := λ vs H Q => ∃ G1 O1 ds d,SA X.K G1 H O1 /\ Iss X.K G1 ds vs /\ Q1U X O1 (.type T) ds d /\ ∀ w G' H',Ext G1 G' -> SA X.K G' H' O1 -> Is X.K G' d w -> Q w H') (λ pins s σ H xs us Q I r ⟨G1,O1,ds,d,q1,q2,hc,q3⟩ => hc G1 pins s σ H xs us Q I r ⟨q1,q2,q3⟩) hg hm hv (ha G) hn hdb he hpl)
  λ σ H Q ⟨h1,h2,h3⟩ => ⟨h1,h2,λ vs ds O1 G1 H1 e1 s1 i1 ⟨d,hc,hR⟩ => ⟨G1,O1,ds,d,s1,i1,hc,λ w G2 H2 e2 s2 i2 => h3 w d O1 G2 H2 (e1.trans e2) s2 i2 hR⟩⟩
end
section
variable {X : Cx} {ρ : Rho} {O : Sto} {pos : Pos} {R : D -> Sto -> Prop}
variable {α : Type} {ps : List α} {f : α -> D} {tg iter elt : Expr} {scope : Scope}
theorem Z5I (g : Nat -> D) (S : Nat -> Sto) (hS0 : S 0 = O) (T F : List Str) (js : List Nat) (hi : EvI X ρ O tg iter (ps.map f)) (hsz : ps.length <= sizeLine) (turn : ∀ (i : Nat) (q : α),ps[i]? = some q -> Z8E X T F js ρ (S i) (S (i + 1)) scope tg elt (f q) (g i)) (hR : R (.lst ((List.range ps.length).map g)) (S ps.length))
  (hfl : F.length = js.length := by rfl) (hB : Q4u X.N X.env.scope.names scope.names F js = true := by first | rfl | decide +kernel) (hc : X.calm = true := by rfl) (hk : scope.kind = .function := by rfl) (hs : ∀ x,foldedSetIterable iter X.env x = pure x := by intro _; rfl) :
  Ev X ρ O (.ListComp elt [⟨tg,iter,[],0⟩] scope pos) R :=
 Z7G (zs := (List.range ps.length).map g) S hS0 T F js hi (by rw [List.length_map,List.length_range,List.length_map]) (by rw [List.length_map]; exact hsz) (λ i x z q1 q2 => by
  rw [List.getElem?_map] at q1 q2
  obtain ⟨q,hq,rfl⟩ := Option.map_eq_some_iff.mp q1
  obtain ⟨j,hj,rfl⟩ := Option.map_eq_some_iff.mp q2
  have hi := (List.getElem?_eq_some_iff.mp hq).1
  rw [List.getElem?_range hi] at hj
  cases hj
  exact turn i q hq) (by rw [List.length_map]; exact hR) hfl hB hc hk hs
end
end DL
namespace DL
open PySem PySem.Spec PyProof.Rows L2 PySem.W
section
variable {X : Cx} {ρ : Rho} {O : Sto} {e : Expr} {p p2 pos pos2 : Pos}
variable {R : D -> Sto -> Prop}
end
section
variable {X : Cx} {ρ : Rho} {O : Sto} {e a b c : Expr} {body : List Stmt} {d da db : D} {xs : List D} {ks : List Key} {ps : List Str} {R : D -> Sto -> Prop} {P : Post} {pos p : Pos} {j n : Nat}
theorem Z8I {tg iter : Expr} (hi : Ev X ρ O iter λ d O1 => ∃ (xs : List D) (inv : Nat -> Rho -> Sto -> Prop),d = .tup xs /\ inv 0 ρ O1 /\
      (∀ i x ρ' O',xs[i]? = some x -> inv i ρ' O' -> ∃ ρ1,Tg X tg x ρ' ρ1 /\ Exs X ρ1 O' body { P with nx := inv (i + 1),ct := inv (i + 1),bk := P.nx }) /\ ∀ ρ' O',inv xs.length ρ' O' -> P.nx ρ' O')
    (hp : PassesOwn (model X.prog X.w) X.A X.env X.xe := by exact PassesOwn.never) (hc : X.calm = true := by rfl) (hf : ∀ x,foldedSetIterable iter X.env x = pure x := by intro _; rfl) : Ex X ρ O (.For tg iter body [] pos) P := λ G =>
  PS.imp (Z8n hp hc (Z8o (hi G)) (g := λ v σ H Q => ∃ G1 ρ1 ρ2 x,Tg X tg x ρ1 ρ2 /\ Is X.K G1 x v /\ Same G1.g H /\ EnvR X.K G1 σ ρ1 /\ ∀ σ',EnvR X.K G1 σ' ρ2 -> Q σ' H) (λ pins s σ H v u Q I r ⟨G1,ρ1,ρ2,x,q,q'⟩ => q G1 pins s σ H v u Q I r q')
    (tb := λ E σ H => ∃ G1 ρ1 O1 P1,SA X.K G1 H O1 /\ EnvR X.K G1 σ ρ1 /\ Exs X ρ1 O1 body P1 /\ Q5s X.K G1 P1 E) (λ pins s σ H E I ⟨G1,ρ1,O1,P1,q1,q2,q3,q4⟩ => q3 G1 pins s σ H E I ⟨q1,q2,q4⟩) hf) λ E σ H ⟨q1,q2,q3⟩ => by
    refine ⟨q1,q2,λ v d O1 G1 H1 e1 s1 i1 r => ?_⟩
    obtain ⟨xs,inv,rfl,h0,hs,hd⟩ := r
    cases i1 with
    | tup q r =>
    refine ⟨_,rfl,⟨_,Q0V s1.sub q⟩,?_⟩
    have Y := Q7U q r
    refine ⟨λ i m σ H => ∃ G2 ρ2 O2,Ext G1 G2 /\ SA X.K G2 H O2 /\ EnvR X.K G2 σ ρ2 /\ inv i ρ2 O2 /\ i <= xs.length /\ m = xs.length - i,⟨_,G1,ρ,O1,Ext.refl _,s1,q2.ext e1,h0,Nat.zero_le _,rfl⟩,?_⟩
    rintro i m σ2 H2 ⟨G2,ρ2,O2,e2,s2,n2,v2,l2,rfl⟩
    by_cases hlt : i < xs.length
    · refine .inr ⟨Y.go i H2 (e2.g.trans s2.sub) hlt,λ σ' H' => ∃ G3 ρ3 O3,Ext G1 G3 /\ SA X.K G3 H' O3 /\ EnvR X.K G3 σ' ρ3 /\ inv (i + 1) ρ3 O3,λ σ' H' ⟨G3,ρ3,O3,e3,s3,n3,v3⟩ => ⟨xs.length - (i + 1),by omega,G3,ρ3,O3,e3,s3,n3,v3,hlt,rfl⟩,λ v H3 y => ?_⟩
      obtain ⟨x,G3,hx,e3,s3,i3⟩ := Y.yld i v H2 H3 G2 O2 e2 s2 y hlt
      obtain ⟨ρ3,t3,b3⟩ := hs i x ρ2 O2 hx v2
      have e13 : Ext G1 G3 := e2.trans e3
      refine ⟨G3,ρ2,ρ3,x,t3,i3,s3.sub,n2.ext e3,λ σ' n' => ⟨G3,ρ3,O2,_,s3,n',b3,⟨λ σ4 ρ4 O4 G4 H4 e4 s4 n4 q => ⟨G4,ρ4,O4,e13.trans e4,s4,n4,q⟩,λ v d O4 G4 H4 e4 s4 i4 r => q3.rt v d O4 G4 H4 (e1.trans (e13.trans e4)) s4 i4 r,
        λ σ4 ρ4 O4 G4 H4 e4 s4 n4 q => q3.nx σ4 ρ4 O4 G4 H4 (e1.trans (e13.trans e4)) s4 n4 q,λ σ4 ρ4 O4 G4 H4 e4 s4 n4 q => ⟨G4,ρ4,O4,e13.trans e4,s4,n4,q⟩⟩⟩⟩
    · have ei : i = xs.length := by omega
      subst ei
      exact .inl ⟨Y.stop _ H2 (e2.g.trans s2.sub) (Nat.le_refl _),q3.nx σ2 ρ2 O2 G2 H2 (e1.trans e2) s2 n2 (hd _ _ v2)⟩
theorem Z9T {op : Operator} (ha : EvP X ρ O a da) (hb : Ev X ρ O b λ db O1 => ∃ d,Op2 X O1 (binaryOp op) da db d /\ R d O1) : Ev X ρ O (.BinOp a op b pos) R := λ G pins s σ H Q I ⟨h1,h2,h3⟩ =>
 wpAny_BinOp (binT (ta := λ σ H Q => SA X.K G H O /\ EnvR X.K G σ ρ /\ ∀ v G' H',Ext G G' -> SA X.K G' H' O -> Is X.K G' da v -> Q v H') (ha G)
  (tb := λ σ H Q => ∃ G1,SA X.K G1 H O /\ EnvR X.K G1 σ ρ /\ ∀ v db O1 G' H',Ext G1 G' -> SA X.K G' H' O1 -> Is X.K G' db v -> (∃ d,Op2 X O1 (binaryOp op) da db d /\ R d O1) -> Q v H') (λ pins s σ H Q I ⟨G1,q⟩ => hb G1 pins s σ H Q I q) I
  (R := λ x y H2 => ∃ G2 O1 db d,Ext G G2 /\ SA X.K G2 H2 O1 /\ Is X.K G2 da x /\ Is X.K G2 db y /\ Op2 X O1 (binaryOp op) da db d /\ R d O1)
  ⟨h1,h2,λ v G1 H1 e1 s1 i1 => ⟨G1,s1,h2.ext e1,λ u db O1 G2 H2 e2 s2 i2 ⟨d,ho,hr⟩ => ⟨G2,O1,db,d,e1.trans e2,s2,i1.ext e2,i2,ho,hr⟩⟩⟩
  λ v u s2 x y H2 I2 rx ry ⟨G2,O1,db,d,e2,s2',i1,i2,ho,hr⟩ => ho G2 pins s2 σ H2 x y v u Q I2 rx ry ⟨s2',i1,i2,λ w G3 H3 e3 s3 i3 => h3 w d O1 G3 H3 (e2.trans e3) s3 i3 hr⟩)
end
end DL
namespace DL
open PySem PySem.Spec PyProof.Rows L2
section
variable {X : Cx} {ρ : Rho} {O : Sto} {e : Expr} {es : List Expr} {R : D -> Sto -> Prop} {x : Str} {C : Addr} {p pos : Pos}
theorem Z2s {k : Nat} {sp : SpD} (M : Q0R X.prog X.w X.K X.mg X.base C k x sp) (hr : Room (k + 1) X.A) (ha : EvAs X ρ O (e :: es) λ ds O1 => sp (.ptr O1.length :: ds) (O1 ++ [some (.ins C [])]) λ d O' => d = .non /\ R (.ptr O1.length) O')
  (hg : Gl X x := by rfl) (hdb : (x == ("__debug__" : Str)) = false := by decide) (he : starEach (e :: es) X.env = (false,eval e X.env) :: starEach es X.env := by rfl) (hpl : (backTo pos (starEach es X.env)).any (·.1) = false := by rfl) :
  Ev X ρ O (.Call (.Name x p) (e :: es) [] pos) R := λ G pins s σ H Q I ⟨h1,h2,h3⟩ => by
 obtain ⟨f,fd,ps,g1,g2,g3⟩ := M.ex
 refine Z4X g2 g1 hr hg M.at_ g3 .nil Z3i (ha G) hdb he hpl pins s σ H Q I ⟨h1,h2,λ vs ds O1 G1 H1 e1 s1 i1 hs => λ y dx k1 k2 k3 => ?_⟩
 obtain ⟨e2,s2⟩ := made (C := C) s1 k1 k2 k3
 have iy : Is X.K ⟨G1.g,G1.l ++ [y]⟩ (.ptr O1.length) (.ref y) := .ptr _ (by rw [<- s1.len,List.getElem?_append_right (Nat.le_refl _),Nat.sub_self]; rfl)
 show toSp X.K sp (V.ref y :: (vs ++ [])) _ _ E0
 rw [List.append_nil]
 refine ⟨_,_,.ptr O1.length :: ds,_,s2,.cons iy (i1.ext e2),hs,λ v d O' G' H' e3 s3 i3 r3 => ?_⟩
 obtain ⟨rfl,r⟩ := r3
 cases i3
 exact ⟨rfl,h3 _ _ O' G' H' ((e1.trans e2).trans e3) s3 (iy.ext e3) r⟩
end
end DL
set_option maxHeartbeats 4000000
namespace My
open PySem PySem.Spec PyProof.Rows L2 DL
def top (i : Nat) : Stmt := PySem.Challenge.pw_heedwise_k73_whole_heads_over_sayings.main.body.getD i (.Pass ⟨0,0,0,0⟩)
abbrev Q4L : Stmt := top 6
abbrev Z3O : List Str := ["value"]
theorem Z0W : Q0k Z3O ["value"] (Q0f Q4L) := by constructor <;> first | rfl | decide +kernel
abbrev Z1b : Stmt := top 7
abbrev Y0i : List Str := ["base","exponent","product","step"]
theorem Q5z : Q0k Y0i ["base","exponent"] (Q0f Z1b) := by constructor <;> first | rfl | decide +kernel
abbrev Q6o : Stmt := top 8
abbrev Z6C : List Str := ["weights"]
theorem Z3a : Q0k Z6C ["weights"] (Q0f Q6o) := by constructor <;> first | rfl | decide +kernel
abbrev Q8B : Stmt := top 9
abbrev Z7W : List Str := ["numbers","weights","shares","whole","reached","number","share"]
theorem Q1I : Q0k Z7W ["numbers","weights"] (Q0f Q8B) := by constructor <;> first | rfl | decide +kernel
abbrev Q2i : Stmt := top 16
abbrev Q7z : List Str := ["what","value","least","most"]
theorem Q5X : Q0k Q7z ["what","value","least","most"] (Q0f Q2i) := by constructor <;> first | rfl | decide +kernel
abbrev Q2L : Stmt := top 17
abbrev Q9q : List Str := ["scale"]
theorem Q7j : Q0k Q9q ["scale"] (Q0f Q2L) := by constructor <;> first | rfl | decide +kernel
abbrev Q2j : Stmt := top 18
abbrev Q7A : List Str := ["many","scale"]
theorem Q5Y : Q0k Q7A ["many","scale"] (Q0f Q2j) := by constructor <;> first | rfl | decide +kernel
abbrev Q1w : Stmt := top 19
abbrev Q5p : List Str := ["top","bottom"]
theorem Q4I : Q0k Q5p ["top","bottom"] (Q0f Q1w) := by constructor <;> first | rfl | decide +kernel
abbrev Q3m : Stmt := top 20
abbrev Z0A : List Str := ["many","push","one"]
theorem Q4k : Q0k Z0A ["many","push"] (Q0f Q3m) := by constructor <;> first | rfl | decide +kernel
abbrev Q2K : Stmt := top 21
abbrev Q9p : List Str := ["share","parts"]
theorem Q7i : Q0k Q9p ["share","parts"] (Q0f Q2K) := by constructor <;> first | rfl | decide +kernel
abbrev Q2H : Stmt := top 23
abbrev Q9m : List Str := ["scale","value"]
theorem Q7g : Q0k Q9m ["scale","value"] (Q0f Q2H) := by constructor <;> first | rfl | decide +kernel
abbrev Q6m : Stmt := top 24
abbrev Z6A : List Str := ["many","scale","said"]
theorem Z2Y : Q0k Z6A ["many","scale","said"] (Q0f Q6m) := by constructor <;> first | rfl | decide +kernel
abbrev Q6l : Stmt := top 25
abbrev Z6z : List Str := ["many","scale","turn"]
theorem Z2X : Q0k Z6z ["many","scale","turn"] (Q0f Q6l) := by constructor <;> first | rfl | decide +kernel
abbrev Q3l : Stmt := top 26
abbrev Z0z : List Str := ["many","scale","said"]
theorem Q8z : Q0k Z0z ["many","scale","said"] (Q0f Q3l) := by constructor <;> first | rfl | decide +kernel
abbrev Q3j : Stmt := top 27
abbrev Z0x : List Str := ["many","scale","said","so"]
theorem Q8x : Q0k Z0x ["many","scale","said","so"] (Q0f Q3j) := by constructor <;> first | rfl | decide +kernel
abbrev Q2J : Stmt := top 28
abbrev Q9o : List Str := ["many","scale","turns","number","turn"]
theorem Q2f : Q0k Q9o ["many","scale","turns"] (Q0f Q2J) := by constructor <;> first | rfl | decide +kernel
abbrev Q4M : Stmt := top 29
abbrev Z3P : List Str := ["said"]
theorem Z0X : Q0k Z3P ["said"] (Q0f Q4M) := by constructor <;> first | rfl | decide +kernel
abbrev Q8H : Stmt := top 30
abbrev Z8c : List Str := ["what","so"]
theorem Z4G : Q0k Z8c ["what","so"] (Q0f Q8H) := by constructor <;> first | rfl | decide +kernel
abbrev Q3n : Stmt := top 31
abbrev Z0B : List Str := ["adviser","turns"]
theorem Q8A : Q0k Z0B ["adviser","turns"] (Q0f Q3n) := by constructor <;> first | rfl | decide +kernel
abbrev Q6p : Stmt := top 32
abbrev Z6D : List Str := ["many","turns"]
theorem Z3b : Q0k Z6D ["many","turns"] (Q0f Q6p) := by constructor <;> first | rfl | decide +kernel
abbrev Q2h : Stmt := top 34
abbrev Q7y : List Str := ["said","weights","awake"]
theorem Q3g : Q0k Q7y ["said","weights"] (Q0f Q2h) := by constructor <;> first | rfl | decide +kernel
abbrev Q1N : Stmt := Q0z (top 35) 0
abbrev Q7a : List Str := ["self","many","scale"]
theorem Q5h : Q0k Q7a ["self","many","scale"] (Q0f Q1N) := by constructor <;> first | rfl | decide +kernel
abbrev Q2O : Stmt := Q0z (top 35) 1
abbrev Q9r : List Str := ["self"]
theorem Q7k : Q0k Q9r ["self"] (Q0f Q2O) := by constructor <;> first | rfl | decide +kernel
abbrev Q4N : Stmt := Q0z (top 35) 2
abbrev Z3S : List Str := ["self","said"]
theorem Z0Y : Q0k Z3S ["self","said"] (Q0f Q4N) := by constructor <;> first | rfl | decide +kernel
abbrev Q3P : Stmt := Q0z (top 35) 3
abbrev Z1I : List Str := ["self","said","so"]
theorem Q9J : Q0k Z1I ["self","said","so"] (Q0f Q3P) := by constructor <;> first | rfl | decide +kernel
abbrev Q3Q : Stmt := Q0z (top 35) 4
abbrev Z1J : List Str := ["self"]
theorem Q9K : Q0k Z1J ["self"] (Q0f Q3Q) := by constructor <;> first | rfl | decide +kernel
abbrev Q3O : Stmt := top 37
abbrev Z1F : List Str := ["hands"]
theorem Q9I : Q0k Z1F ["hands"] (Q0f Q3O) := by constructor <;> first | rfl | decide +kernel
abbrev Q6n : Stmt := top 38
abbrev Z6B : List Str := ["hands","head"]
theorem Z2Z : Q0k Z6B ["hands","head"] (Q0f Q6n) := by constructor <;> first | rfl | decide +kernel
abbrev Q3k : Stmt := top 39
abbrev Z0y : List Str := ["hands","head"]
theorem Q8y : Q0k Z0y ["hands","head"] (Q0f Q3k) := by constructor <;> first | rfl | decide +kernel
abbrev Q1j : Stmt := Q0z (top 40) 0
abbrev Q6Z : List Str := ["self","hands","head"]
theorem Q2V : Q0k Q6Z ["self","hands","head"] (Q0f Q1j) := by constructor <;> first | rfl | decide +kernel
abbrev Q1c : Stmt := Q0z (top 40) 1
abbrev Q3Y : List Str := ["self"]
theorem Q3B : Q0k Q3Y ["self"] (Q0f Q1c) := by constructor <;> first | rfl | decide +kernel
abbrev Q3y : Stmt := Q0z (top 40) 2
abbrev Z3R : List Str := ["self","said"]
theorem Q6c : Q0k Z3R ["self","said"] (Q0f Q3y) := by constructor <;> first | rfl | decide +kernel
abbrev Q3x : Stmt := Q0z (top 40) 3
abbrev Z3Q : List Str := ["self","said"]
theorem Q6b : Q0k Z3Q ["self","said"] (Q0f Q3x) := by constructor <;> first | rfl | decide +kernel
abbrev Q2M : Stmt := Q0z (top 40) 4
abbrev Z1G : List Str := ["self","said","so","sayings","hand"]
theorem Q2c : Q0k Z1G ["self","said","so"] (Q0f Q2M) := by constructor <;> first | rfl | decide +kernel
abbrev Q2N : Stmt := Q0z (top 40) 5
abbrev Z1H : List Str := ["self"]
theorem Q4Z : Q0k Z1H ["self"] (Q0f Q2N) := by constructor <;> first | rfl | decide +kernel
abbrev Z8Y : Stmt := top 42
abbrev N_ran : List Str := ["hand","turns","runner","sayings","said","so"]
theorem Q9F : Q0k N_ran ["hand","turns"] (Q0f Z8Y) := by constructor <;> first | rfl | decide +kernel
abbrev Z1c : Stmt := top 43
abbrev Y0j : List Str := ["weigher","turns","runner","lines","said","so","saying"]
theorem Q3v : Q0k Y0j ["weigher","turns"] (Q0f Z1c) := by constructor <;> first | rfl | decide +kernel
abbrev Q6g : Stmt := top 45
abbrev Z6u : List Str := ["many","push"]
theorem Z2V : Q0k Z6u ["many","push"] (Q0f Q6g) := by constructor <;> first | rfl | decide +kernel
abbrev Q2I : Stmt := top 46
abbrev Q9n : List Str := ["scores","advisers"]
theorem Q7h : Q0k Q9n ["scores","advisers"] (Q0f Q2I) := by constructor <;> first | rfl | decide +kernel
abbrev Q0C : Stmt := Q0z (top 47) 0
abbrev Q3Z : List Str := ["self","many","scale","push"]
theorem Q3C : Q0k Q3Z ["self","many","scale","push"] (Q0f Q0C) := by constructor <;> first | rfl | decide +kernel
abbrev Q2r : Stmt := Q0z (top 47) 3
abbrev Q7I : List Str := ["self","said","awake"]
theorem Q3i : Q0k Q7I ["self","said"] (Q0f Q2r) := by constructor <;> first | rfl | decide +kernel
abbrev Q1O : Stmt := Q0z (top 47) 4
abbrev Q7b : List Str := ["self","said","so"]
theorem Q5i : Q0k Q7b ["self","said","so"] (Q0f Q1O) := by constructor <;> first | rfl | decide +kernel
abbrev Q1P : Stmt := Q0z (top 47) 5
abbrev Q7c : List Str := ["self"]
theorem Q5j : Q0k Q7c ["self"] (Q0f Q1P) := by constructor <;> first | rfl | decide +kernel
abbrev Q1l : Stmt := Q0z (top 49) 0
abbrev Q4D : List Str := ["self","many","scale"]
theorem Q3L : Q0k Q4D ["self","many","scale"] (Q0f Q1l) := by constructor <;> first | rfl | decide +kernel
abbrev Q1y : Stmt := Q0z (top 49) 3
abbrev Q5r : List Str := ["self"]
theorem Q4K : Q0k Q5r ["self"] (Q0f Q1y) := by constructor <;> first | rfl | decide +kernel
abbrev Q2p : Stmt := Q0z (top 49) 4
abbrev Q7G : List Str := ["self","said","so","left"]
theorem Q3h : Q0k Q7G ["self","said","so"] (Q0f Q2p) := by constructor <;> first | rfl | decide +kernel
abbrev Q2q : Stmt := Q0z (top 49) 5
abbrev Q7H : List Str := ["self"]
theorem Q6f : Q0k Q7H ["self"] (Q0f Q2q) := by constructor <;> first | rfl | decide +kernel
abbrev Q2F : Stmt := top 51
abbrev Q9k : List Str := ["keeper","own","off","kept"]
theorem Q3F : Q0k Q9k ["keeper","own","off"] (Q0f Q2F) := by constructor <;> first | rfl | decide +kernel
abbrev Q2g : Stmt := top 52
abbrev Q7x : List Str := ["keeper","own"]
theorem Q5W : Q0k Q7x ["keeper","own"] (Q0f Q2g) := by constructor <;> first | rfl | decide +kernel
abbrev Z1a : Stmt := top 53
abbrev Y0h : List Str := ["keeper","own","what","so"]
theorem Z6Z : Q0k Y0h ["keeper","own","what","so"] (Q0f Z1a) := by constructor <;> first | rfl | decide +kernel
abbrev Q1i : Stmt := Q0z (top 55) 0
abbrev Q4B : List Str := ["self","many","scale","top","bottom"]
theorem Q3J : Q0k Q4B ["self","many","scale","top","bottom"] (Q0f Q1i) := by constructor <;> first | rfl | decide +kernel
abbrev Q1x : Stmt := Q0z (top 55) 1
abbrev Q5q : List Str := ["self"]
theorem Q4J : Q0k Q5q ["self"] (Q0f Q1x) := by constructor <;> first | rfl | decide +kernel
abbrev Q1M : Stmt := Q0z (top 55) 3
abbrev Q6Y : List Str := ["self"]
theorem Q5g : Q0k Q6Y ["self"] (Q0f Q1M) := by constructor <;> first | rfl | decide +kernel
abbrev Q1L : Stmt := Q0z (top 55) 4
abbrev Q6X : List Str := ["self","said","so","own"]
theorem Q2U : Q0k Q6X ["self","said","so"] (Q0f Q1L) := by constructor <;> first | rfl | decide +kernel
abbrev Q2k : Stmt := Q0z (top 55) 5
abbrev Q7B : List Str := ["self","said","so"]
theorem Q5Z : Q0k Q7B ["self","said","so"] (Q0f Q2k) := by constructor <;> first | rfl | decide +kernel
abbrev Q2l : Stmt := Q0z (top 55) 6
abbrev Q7C : List Str := ["self"]
theorem Q6a : Q0k Q7C ["self"] (Q0f Q2l) := by constructor <;> first | rfl | decide +kernel
abbrev Q1k : Stmt := Q0z (top 57) 0
abbrev Q4C : List Str := ["self","many","scale","top","bottom","share","parts"]
theorem Q3K : Q0k Q4C ["self","many","scale","top","bottom","share","parts"] (Q0f Q1k) := by constructor <;> first | rfl | decide +kernel
abbrev Q2n : Stmt := Q0z (top 57) 1
abbrev Q7E : List Str := ["self","dealt","kept"]
theorem Q1J : Q0k Q7E ["self"] (Q0f Q2n) := by constructor <;> first | rfl | decide +kernel
abbrev Q2m : Stmt := Q0z (top 57) 2
abbrev Q7D : List Str := ["self","said","so"]
theorem Q6d : Q0k Q7D ["self","said","so"] (Q0f Q2m) := by constructor <;> first | rfl | decide +kernel
abbrev Q2o : Stmt := Q0z (top 57) 3
abbrev Q7F : List Str := ["self"]
theorem Q6e : Q0k Q7F ["self"] (Q0f Q2o) := by constructor <;> first | rfl | decide +kernel
abbrev Q3M : Stmt := top 59
abbrev Z1D : List Str := ["_law_script","_law_k"]
theorem Q9H : Q0k Z1D ["_law_script","_law_k"] (Q0f Q3M) := by constructor <;> first | rfl | decide +kernel
abbrev Q8E : Stmt := top 60
abbrev Z7Z : List Str := ["_law_x"]
theorem Z4E : Q0k Z7Z ["_law_x"] (Q0f Q8E) := by constructor <;> first | rfl | decide +kernel
abbrev Q8D : Stmt := top 61
abbrev Z7Y : List Str := ["_law_script","_law_k","_law_x"]
theorem Q9G : Q0k Z7Y ["_law_script","_law_k"] (Q0f Q8D) := by constructor <;> first | rfl | decide +kernel
abbrev Q8C : Stmt := top 62
abbrev Z7X : List Str := ["_law_x","_law_many_here","_law_scale_here","_law_sleeps","_law_so","_law_said","_law_k","_law_what"]
theorem Q1u : Q0k Z7X ["_law_x","_law_many_here","_law_scale_here","_law_sleeps"] (Q0f Q8C) := by constructor <;> first | rfl | decide +kernel
abbrev Q6h : Stmt := top 63
abbrev Z6v : List Str := ["_law_script","_law_start","_law_many_here","_law_scale_here","_law_sleeps","_law_most","_law_fewest_turns","_law_found","_law_k"]
theorem Q2u : Q0k Z6v ["_law_script","_law_start","_law_many_here","_law_scale_here","_law_sleeps"] (Q0f Q6h) := by constructor <;> first | rfl | decide +kernel
abbrev Q8F : Stmt := top 64
abbrev Z8a : List Str := ["_law_x"]
theorem Z4F : Q0k Z8a ["_law_x"] (Q0f Q8F) := by constructor <;> first | rfl | decide +kernel
abbrev Q6i : Stmt := top 65
abbrev Z6w : List Str := ["_law_x"]
theorem Z2W : Q0k Z6w ["_law_x"] (Q0f Q6i) := by constructor <;> first | rfl | decide +kernel
abbrev Q8G : Stmt := top 66
abbrev Z8b : List Str := ["_law_many_here","_law_scale_here","_law_x","_law_bottom","_law_top","_law_way"]
theorem Q4j : Q0k Z8b ["_law_many_here","_law_scale_here","_law_x"] (Q0f Q8G) := by constructor <;> first | rfl | decide +kernel
abbrev Q6k : Stmt := top 67
abbrev Z6y : List Str := ["_law_many_here","_law_scale_here","_law_x","_law_found","_law_k"]
theorem Q3w : Q0k Z6y ["_law_many_here","_law_scale_here","_law_x"] (Q0f Q6k) := by constructor <;> first | rfl | decide +kernel
abbrev Q2G : Stmt := top 68
abbrev Q9l : List Str := ["_law_hands_here","_law_many_here","_law_scale_here","_law_x","_law_low"]
theorem Q3H : Q0k Q9l ["_law_hands_here","_law_many_here","_law_scale_here","_law_x"] (Q0f Q2G) := by constructor <;> first | rfl | decide +kernel
abbrev Q3N : Stmt := top 69
abbrev Z1E : List Str := ["_law_hands_here","_law_turns_here","_law_sayings","_law_found","_law_k"]
theorem Q2b : Q0k Z1E ["_law_hands_here","_law_turns_here"] (Q0f Q3N) := by constructor <;> first | rfl | decide +kernel
abbrev Q6j : Stmt := top 70
abbrev Z6x : List Str := ["_law_hands_here","_law_head","_law_turns_here","_law_tier","_law_inner","_law_said","_law_so","_law_row"]
theorem Q1E : Q0k Z6x ["_law_hands_here","_law_head","_law_turns_here"] (Q0f Q6j) := by constructor <;> first | rfl | decide +kernel
abbrev Z3e : Stmt := top 71
abbrev N_law : List Str := ["_law_script","_law_x","_law_many_here","_law_scale_here","_law_turns_here","_law_y","_law_z","_law_hands_here","_law_head","_law_two"]
theorem Q3G : Q0k N_law ["_law_script"] (Q0f Z3e) := by constructor <;> first | rfl | decide +kernel
structure Txt (K : PySem.W.Frag) (mg : Str -> Option Value) (CK1 CK5 CK3 CK2 CK0 CK4 : Addr) : Prop where
 j2M : mg "len" = none
 j2N : mg "tuple" = none
 j2O : mg "list" = none
 j2P : mg "sum" = none
 j2Q : mg "zip" = none
 j2R : mg "sorted" = none
 j2S : mg "range" = none
 j2T : mg "isinstance" = none
 j2U : mg "int" = none
 j2V : mg "bool" = none
 j2W : mg "all" = none
 j2X : mg "any" = none
 j2Y : mg "enumerate" = none
 j2Z : mg "abs" = none
 j3a : mg "min" = none
 j3b : mg "max" = none
 j3c : ∃ t,mg "MOST_ADVISERS" = some (.int 24 t)
 j3d : ∃ t,mg "MOST_SCALE" = some (.int 10 t)
 j3e : ∃ t,mg "MOST_BOTTOM" = some (.int 100 t)
 j3f : ∃ t,mg "MOST_PARTS" = some (.int 100 t)
 j3g : ∃ t,mg "MOST_FIGURES" = some (.int 60 t)
 j3h : Q1Z K CK1
 j3i : mg "Hand" = some (.ref CK1)
 j3j : Q0l K CK1 "many"
 j3k : Q0l K CK1 "scale"
 j3l : PySem.W.kitOne K (.ref CK1) (.ref CK1) = some true
 j3m : PySem.W.kitOne K (.ref CK1) (.ref CK5) = some false
 j3n : Q1Z K CK5
 j3o : mg "Weigher" = some (.ref CK5)
 j3p : Q0l K CK5 "many"
 j3q : Q0l K CK5 "scale"
 j3r : Q0l K CK5 "top"
 j3s : Q0l K CK5 "bottom"
 j3t : Q0l K CK5 "tops"
 j3u : Q0l K CK5 "under"
 j3v : PySem.W.kitOne K (.ref CK5) (.ref CK1) = some true
 j3w : PySem.W.kitOne K (.ref CK5) (.ref CK5) = some true
 j3x : Q1Z K CK3
 j3y : mg "Shifter" = some (.ref CK3)
 j3z : Q0l K CK3 "many"
 j3A : Q0l K CK3 "scale"
 j3B : Q0l K CK3 "top"
 j3C : Q0l K CK3 "bottom"
 j3D : Q0l K CK3 "tops"
 j3E : Q0l K CK3 "under"
 j3F : Q0l K CK3 "share"
 j3G : Q0l K CK3 "parts"
 j3H : PySem.W.kitOne K (.ref CK3) (.ref CK1) = some true
 j3I : PySem.W.kitOne K (.ref CK3) (.ref CK5) = some true
 j3J : Q1Z K CK2
 j3K : mg "Rounder" = some (.ref CK2)
 j3L : Q0l K CK2 "many"
 j3M : Q0l K CK2 "scale"
 j3N : Q0l K CK2 "inside"
 j3O : Q0l K CK2 "over"
 j3P : PySem.W.kitOne K (.ref CK2) (.ref CK1) = some true
 j3Q : PySem.W.kitOne K (.ref CK2) (.ref CK5) = some false
 j3R : Q1Z K CK0
 j3S : mg "Follower" = some (.ref CK0)
 j3T : Q0l K CK0 "many"
 j3U : Q0l K CK0 "scale"
 j3V : Q0l K CK0 "push"
 j3W : Q0l K CK0 "reached"
 j3X : PySem.W.kitOne K (.ref CK0) (.ref CK1) = some true
 j3Y : PySem.W.kitOne K (.ref CK0) (.ref CK5) = some false
 j3Z : Q1Z K CK4
 j4a : mg "Tier" = some (.ref CK4)
 j4b : Q0l K CK4 "many"
 j4c : Q0l K CK4 "scale"
 j4d : Q0l K CK4 "hands"
 j4e : Q0l K CK4 "head"
 j4f : Q0l K CK4 "charged"
 j4g : PySem.W.kitOne K (.ref CK4) (.ref CK1) = some true
 j4h : PySem.W.kitOne K (.ref CK4) (.ref CK5) = some false
def cnt (ws : List Int) : List Int := if ws.sum = 0 then ws.map (λ _ => 1) else ws
theorem Z1v (ws : List Int) : (cnt ws).length = ws.length := by unfold cnt; split <;> simp
def Wok (ws : List Int) : Prop := ∀ w ∈ ws,0 <= w
theorem Z5X {ws : List Int} (h : Wok ws) : Wok (cnt ws) := by
 unfold cnt
 split
 ·intro w hw
  obtain ⟨_,_,rfl⟩ := List.mem_map.mp hw
  decide
 ·exact h
def go (W : Int) : Int -> List (Int × Int) -> Int
 | _,[] => 0
 | r,p :: l => if W <= 2 * (r + p.2) then p.1 else go W (r + p.2) l
def mid (ns ws : List Int) : Int := go (cnt ws).sum 0 (srt ltP (ns.zip (cnt ws)))
def Two (ns ws : List Int) : Prop := ns.length = ws.length /\ ws.length <= 63 /\ Wok ws
def Q5S : List D -> D -> Prop := λ ds d => ∃ ws : List Int,ds = [.tup (ws.map D.int)] /\ ws.length <= 63 /\ d = .lst ((cnt ws).map D.int)
def Q8p : List D -> D -> Prop := λ ds d => ∃ ns ws : List Int,ds = [.tup (ns.map D.int),.tup (ws.map D.int)] /\ Two ns ws /\ d = .int (mid ns ws)
def Q0P (ns : List Int) (k : Int) : Int := (ns[k.toNat]?).getD 0
def Z4t : List D -> D -> Prop := λ ds d => ∃ (ns : List Int) (k : Int),ds = [.scr (ns.map D.int),.int k] /\ 0 <= k /\ d = .int (Q0P ns k)
def Z3K (f : Int) (ns ws : List Int) : Int := sm (λ q => if q.1 < f then q.2 else 0) (ns.zip ws)
def there (f : Int) (ns ws : List Int) : Int := sm (λ q => if q.1 = f then q.2 else 0) (ns.zip ws)
def Z2b (f : Int) (ns ws : List Int) : Bool := if ns = [] then decide (f = 0) else (decide (f ∈ ns) && (decide (2 * Z3K f ns (cnt ws) < (cnt ws).sum) && decide ((cnt ws).sum <= 2 * (Z3K f ns (cnt ws) + there f ns (cnt ws)))))
theorem Y1o (W : Int) : ∀ (L : List (Int × Int)) (r : Int),2 * r < W -> W <= 2 * (r + sm (λ q => q.2) L) -> ∃ A p B,L = A ++ p :: B /\ 2 * (r + sm (λ q => q.2) A) < W /\ W <= 2 * (r + sm (λ q => q.2) A + p.2) /\ go W r L = p.1
 | [],r,h1,h2 => by exfalso; unfold sm at h2; omega
 | p :: L,r,h1,h2 => by
  unfold go
  by_cases h : W <= 2 * (r + p.2)
  ·rw [if_pos h]
   refine ⟨[],p,L,rfl,?_,?_,rfl⟩
   ·show 2 * (r + 0) < W; omega
   ·show W <= 2 * (r + 0 + p.2); omega
  ·rw [if_neg h]
   have h2 : W <= 2 * (r + (p.2 + sm (λ q => q.2) L)) := h2
   obtain ⟨A,q,B,e1,e2,e3,e4⟩ := Y1o W L (r + p.2) wF wF
   refine ⟨p :: A,q,B,by rw [e1]; rfl,?_,?_,e4⟩
   ·show 2 * (r + (p.2 + sm (λ q => q.2) A)) < W; omega
   ·show W <= 2 * (r + (p.2 + sm (λ q => q.2) A) + q.2); omega
theorem Z8P {ws : List Int} (h : Wok ws) : 0 <= ws.sum := by
 rw [Y0w]; exact Q9C λ a ha => h a ha
theorem Y0c {ws : List Int} (h : Wok ws) (hn : ws ≠ []) : 0 < (cnt ws).sum := by
 unfold cnt
 split
 ·cases ws with
  | nil => exact absurd rfl hn
  | cons a l =>
   rw [List.map_cons,List.sum_cons]
   have : 0 <= (l.map λ _ => (1 : Int)).sum := by rw [Q4h]; exact Q9C λ _ _ => by decide
   omega
 ·have := Z8P h
  omega
theorem Q9N {ns ws : List Int} (h : Two ns ws) : Z2b (mid ns ws) ns ws = true := by
 obtain ⟨h1,h2,h3⟩ := h
 unfold Z2b
 by_cases hn : ns = []
 ·rw [if_pos hn]
  subst hn
  have e : mid [] ws = 0 := by unfold mid srt; simp [go]
  exact decide_eq_true e
 ·rw [if_neg hn]
  have hw : ws ≠ [] := by
   intro e; apply hn
   rw [e] at h1
   exact List.eq_nil_of_length_eq_zero h1
  have hp := Y0c h3 hw
  have hc := Z5X h3
  have hl : ns.length = (cnt ws).length := by rw [Z1v]; exact h1
  unfold mid Z3K there
  generalize cnt ws = cs at hp hc hl
  have pm := Q5u ltP (ns.zip cs)
  have pw := Z8k ordP (ns.zip cs)
  have hs : sm (λ q : Int × Int => q.2) (srt ltP (ns.zip cs)) = cs.sum := by rw [Z0U pm,Q7O hl]
  obtain ⟨A,p,B,e1,e2,e3,e4⟩ := Y1o cs.sum (srt ltP (ns.zip cs)) 0 wF (by rw [hs]; omega)
  rw [e4]
  have nn : ∀ q ∈ srt ltP (ns.zip cs),0 <= q.2 := λ q hq => hc _ (List.of_mem_zip (pm.mem_iff.mp hq)).2
  rw [<- Z0U (g := λ q : Int × Int => if q.1 < p.1 then q.2 else 0) pm,<- Z0U (g := λ q : Int × Int => if q.1 = p.1 then q.2 else 0) pm]
  have hm : p.1 ∈ ns := (List.of_mem_zip (pm.mem_iff.mp (by rw [e1]; exact List.mem_append_right _ List.mem_cons_self) : (p.1,p.2) ∈ ns.zip cs)).1
  rw [e1] at pw nn ⊢
  have pA : ∀ q ∈ A,q.1 <= p.1 := λ q hq => by
   have := (List.pairwise_append.mp pw).2.2 q hq p List.mem_cons_self
   simp [ltP] at this
   omega
  have pB : ∀ q ∈ B,p.1 <= q.1 := λ q hq => by
   have := (List.pairwise_cons.mp (List.pairwise_append.mp pw).2.1).1 q hq
   simp [ltP] at this
   omega
  have b1 : sm (λ q : Int × Int => if q.1 < p.1 then q.2 else 0) (A ++ p :: B) <= sm (λ q => q.2) A := by
   rw [Z4z]
   have z : sm (λ q : Int × Int => if q.1 < p.1 then q.2 else 0) (p :: B) = 0 := by
    rw [Z4y (h := λ _ => 0),Z4w]
    intro a ha
    rcases List.mem_cons.mp ha with rfl | ha
    ·exact if_neg wF
    ·exact if_neg (by have := pB a ha; omega)
   rw [z]
   have := Z4x (l := A) (g := λ q : Int × Int => if q.1 < p.1 then q.2 else 0) (h := λ q => q.2) λ a ha => by
    have := nn a (List.mem_append_left _ ha)
    try dsimp only
    split <;> omega
   omega
  have b2 : sm (λ q => q.2) A + p.2 <= sm (λ q : Int × Int => if q.1 < p.1 then q.2 else 0) (A ++ p :: B) + sm (λ q : Int × Int => if q.1 = p.1 then q.2 else 0) (A ++ p :: B) := by
   rw [<- Q9D,Z4z]
   have z : p.2 <= sm (λ q : Int × Int => (if q.1 < p.1 then q.2 else 0) + (if q.1 = p.1 then q.2 else 0)) (p :: B) := by
    show p.2 <= ((if p.1 < p.1 then p.2 else 0) + (if p.1 = p.1 then p.2 else 0)) + sm _ B
    rw [if_neg wF,if_pos rfl]
    have := Q9C (l := B) (g := λ q : Int × Int => (if q.1 < p.1 then q.2 else 0) + (if q.1 = p.1 then q.2 else 0)) λ a ha => by
     have := nn a (List.mem_append_right _ (List.mem_cons_of_mem _ ha))
     try dsimp only
     split <;> split <;> omega
    omega
   have := Z4y (l := A) (g := λ q : Int × Int => q.2) (h := λ q => (if q.1 < p.1 then q.2 else 0) + (if q.1 = p.1 then q.2 else 0)) λ a ha => by
    have := pA a ha
    try dsimp only
    split <;> split <;> omega
   omega
  rw [decide_eq_true hm,decide_eq_true wF,decide_eq_true wF]
  rfl
theorem Z7v {ns ws : List Int} (h : Two ns ws) (hn : ns ≠ []) : 2 * Z3K (mid ns ws) ns (cnt ws) < (cnt ws).sum /\ (cnt ws).sum <= 2 * (Z3K (mid ns ws) ns (cnt ws) + there (mid ns ws) ns (cnt ws)) := by
 have h := Q9N h
 unfold Z2b at h
 rw [if_neg hn,Bool.and_eq_true,Bool.and_eq_true] at h
 exact ⟨of_decide_eq_true h.2.1,of_decide_eq_true h.2.2⟩
def od : Option Int -> D
 | none => .non
 | some i => .int i
abbrev Tn := List (Option Int) × Int
def tD (t : Tn) : D := .tup [.tup (t.1.map od),.int t.2]
def ab (i : Int) : Int := if i < 0 then -i else i
def chg : Option Int -> Int -> Int
 | none,_ => 0
 | some w,z => ab (w - z)
def sat (t : Tn) (k : Nat) : Option Int := (t.1[k]?).getD none
def Z3J (k : Nat) (t : Tn) : Int := chg (sat t k) t.2
theorem od_np (o : Option Int) : npD (od o) = true := by cases o <;> rfl
theorem Z8N (t : Tn) : npD (tD t) = true := by
 show (npDs (t.1.map od) && (true && true)) = true
 rw [Q4s od_np]
 rfl
theorem at_od {t : Tn} {k : Nat} (h : k < t.1.length) : atI (t.1.map od) (0 + (k : Int)) = some (od (sat t k)) := by
 rw [Int.zero_add]
 refine Q2S ?_
 rw [List.getElem?_map,List.getElem?_eq_getElem h]
 unfold sat
 rw [List.getElem?_eq_getElem h]
 rfl
def sat2 (said : List (Option Int)) (k : Nat) : Option Int := (said[k]?).getD none
def ax (said : List (Option Int)) : List Nat := (List.range said.length).filter λ k => (sat2 said k).isSome
def nsA (said : List (Option Int)) : List Int := (ax said).map λ k => (sat2 said k).getD 0
def wsA (said : List (Option Int)) (ws : List Int) : List Int := (ax said).map λ k => ws.getD k 0
def midA (said : List (Option Int)) (ws : List Int) : Int := mid (nsA said) (wsA said ws)
theorem Q9u (said : List (Option Int)) : said.zipIdx = (List.range said.length).map λ k => (sat2 said k,k) := by
 refine List.ext_getElem? λ i => ?_
 rw [List.getElem?_zipIdx,List.getElem?_map]
 by_cases h : i < said.length
 ·rw [List.getElem?_range h,List.getElem?_eq_getElem h]
  simp [sat2,h]
 ·rw [List.getElem?_eq_none wF,List.getElem?_eq_none (by simp; omega)]
  rfl
theorem Y1m (w : Option Int) : (!isN (od w)) = w.isSome := by cases w <;> rfl
theorem Z7S (said : List (Option Int)) : (said.zipIdx.filterMap λ q => if (!isN (od q.1)) = true then some (D.int (q.2 : Nat)) else none) = (ax said).map λ k => D.int (k : Nat) := by
 rw [fm_if (λ q : Option Int × Nat => !isN (od q.1)) (λ q => D.int (q.2 : Nat)),Q9u,List.filter_map,List.map_map]
 unfold ax
 congr 1
 exact List.filter_congr λ k _ => Y1m _
theorem at2 {said : List (Option Int)} {k : Nat} (h : k < said.length) : atI (said.map od) (k : Int) = some (od (sat2 said k)) := by
 refine Q2S ?_
 rw [List.getElem?_map,List.getElem?_eq_getElem h]
 simp [sat2,h]
theorem Z6m {said : List (Option Int)} {k : Nat} (h : k ∈ ax said) : k < said.length := List.mem_range.mp (List.mem_filter.mp h).1
theorem ax_od {said : List (Option Int)} {k : Nat} (h : k ∈ ax said) : od (sat2 said k) = .int ((sat2 said k).getD 0) := by
 have := (List.mem_filter.mp h).2
 cases e : sat2 said k with
 | none => rw [e] at this; cases this
 | some w => rfl
theorem Y1J {said : List (Option Int)} {k : Nat} (h : k ∈ ax said) : atI (said.map od) (k : Int) = some (.int ((sat2 said k).getD 0)) := by rw [at2 (Z6m h),ax_od h]
theorem Y1I {ws : List Int} {k : Nat} (h : k < ws.length) : atI (ws.map D.int) (k : Int) = some (.int (ws.getD k 0)) := by
 refine Q2S ?_
 rw [List.getElem?_map,List.getElem?_eq_getElem h]
 simp [List.getD,h]
theorem Z6n (said : List (Option Int)) : (ax said).length <= said.length := by
 have := List.length_filter_le (λ k => (sat2 said k).isSome) (List.range said.length)
 rw [List.length_range] at this
 exact this
theorem twoA {said : List (Option Int)} {ws : List Int} (hs : said.length <= 24) (hw : Wok ws) : Two (nsA said) (wsA said ws) := by
 refine ⟨by unfold nsA wsA; rw [List.length_map,List.length_map],?_,λ w h => ?_⟩
 ·unfold wsA; rw [List.length_map]; have := Z6n said; omega
 ·obtain ⟨k,_,rfl⟩ := List.mem_map.mp h
  by_cases hk : k < ws.length
  ·rw [List.getD_eq_getElem?_getD,List.getElem?_eq_getElem hk]
   exact hw _ (List.getElem_mem hk)
  ·rw [List.getD_eq_getElem?_getD,List.getElem?_eq_none wF]
   exact Int.le_refl _
def onS (s : Int) : Option Int -> Bool
 | none => false
 | some i => decide (0 <= i) && decide (i <= s)
def Q0G (m s : Int) (said : List (Option Int)) : Prop := (said.length : Int) = m /\ m <= 24 /\ ∀ w ∈ said,w = none \/ onS s w = true
def Q4f : List D -> D -> Prop := λ ds d => ∃ w : Option Int,ds = [od w] /\ d = .bl w.isSome
def Z6U : List D -> D -> Prop := λ ds d => ∃ (s : Int) (w : Option Int),ds = [.int s,od w] /\ d = .bl (onS s w)
def Q5w : List D -> D -> Prop := λ ds d => ∃ (m s : Int) (said : List (Option Int)),ds = [.int m,.int s,.tup (said.map od)] /\ Q0G m s said /\ d = .bl true
def Q1H : List D -> D -> Prop := λ ds d => ∃ (m s : Int) (said : List (Option Int)),ds = [.int m,.int s,.tup (said.map od)] /\ Q0G m s said /\ d = .non
def Q2A : List D -> D -> Prop := λ ds d => ∃ (x : Str) (v l h : Int),ds = [.str x,.int v,.int l,.int h] /\ (l <= v /\ v <= h) /\ d = .non
def Q8q : List D -> D -> Prop := λ ds d => ∃ m s : Int,ds = [.int m,.int s] /\ (1 <= m /\ m <= 24) /\ (1 <= s /\ s <= 10) /\ d = .non
def Z0Q : List D -> D -> Prop := λ ds d => ∃ s : Int,ds = [.int s] /\ (1 <= s /\ s <= 10) /\ d = .non
def Q4H : List D -> D -> Prop := λ ds d => ∃ t b : Int,ds = [.int t,.int b] /\ (0 <= t /\ t < b /\ b <= 100) /\ d = .non
def Q8u : List D -> D -> Prop := λ ds d => ∃ said : List (Option Int),ds = [.tup (said.map od)] /\ said.length <= 24 /\ d = .lst ((ax said).map λ k => D.int (k : Nat))
def spMA : List D -> D -> Prop := λ ds d => ∃ (said : List (Option Int)) (ws : List Int),ds = [.tup (said.map od),.tup (ws.map D.int)] /\ said.length <= 24 /\ ws.length = said.length /\ Wok ws /\ d = .int (midA said ws)
def Q1v (m s : Int) : List (Str × D) := [("many",.int m),("scale",.int s)]
def Q1q (m s t b : Int) (ws : List Int) (u : Int) : List (Str × D) := [("many",.int m),("scale",.int s),("top",.int t),("bottom",.int b),("tops",.tup (ws.map D.int)),("under",.int u)]
theorem Q0o {f g : Str} {d x : D} {r : List (Str × D)} (h : (g = f) -> False) : putD f d ((g,x) :: r) = (g,x) :: putD f d r := by
 show (if g = f then (g,d) :: r else (g,x) :: putD f d r) = _
 rw [if_neg h]
theorem Q5a {f : Str} {d x : D} {r : List (Str × D)} : putD f d ((f,x) :: r) = (f,d) :: r := by
 show (if f = f then (f,d) :: r else (f,x) :: putD f d r) = _
 rw [if_pos rfl]
theorem Z7g (m s : Int) : putD "scale" (.int s) (putD "many" (.int m) []) = Q1v m s := by
 show putD "scale" (.int s) [("many",.int m)] = _
 rw [Q0o wD]
 rfl
def f3 (m s t : Int) : List (Str × D) := [("many",.int m),("scale",.int s),("top",.int t)]
def f4 (m s t b : Int) : List (Str × D) := [("many",.int m),("scale",.int s),("top",.int t),("bottom",.int b)]
def f5 (m s t b : Int) (d : D) : List (Str × D) := [("many",.int m),("scale",.int s),("top",.int t),("bottom",.int b),("tops",d)]
theorem Z9f (m s t : Int) : putD "top" (.int t) (Q1v m s) = f3 m s t := by
 unfold Q1v
 rw [Q0o wD,Q0o wD]
 rfl
theorem Z3g (m s t b : Int) : putD "bottom" (.int b) (f3 m s t) = f4 m s t b := by
 unfold f3
 rw [Q0o wD,Q0o wD,Q0o wD]
 rfl
theorem Z7e (m s t b : Int) (d : D) : putD "tops" d (f4 m s t b) = f5 m s t b d := by
 unfold f4
 rw [Q0o wD,Q0o wD,Q0o wD,Q0o wD]
 rfl
theorem Z4N (m s t b u : Int) (ws : List Int) : putD "under" (.int u) (f5 m s t b (.tup (ws.map D.int))) = Q1q m s t b ws u := by
 unfold f5
 rw [Q0o wD,Q0o wD,Q0o wD,Q0o wD,Q0o wD]
 rfl
theorem Q1f {f : Str} {d : D} {r : List (Str × D)} : List.lookup f ((f,d) :: r) = some d := by rw [List.lookup_cons,beq_self_eq_true]
theorem Q0r {f g : Str} {d : D} {r : List (Str × D)} (h : (f == g) = false) : List.lookup f ((g,d) :: r) = List.lookup f r := by rw [List.lookup_cons,h]
section
variable (m s t b u : Int) (ws : List Int)
theorem Q6N : (Q1v m s).lookup ("many" : Str) = some (.int m) := Q1f
theorem Q5E : (Q1v m s).lookup ("scale" : Str) = some (.int s) := by unfold Q1v; rw [Q0r wD,Q1f]
theorem Z5y : (Q1v m s).lookup ("heeded" : Str) = none := by unfold Q1v; rw [Q0r wD,Q0r wD]; rfl
theorem Z0F : (Q1q m s t b ws u).lookup ("many" : Str) = some (.int m) := Q1f
theorem Q8i : (Q1q m s t b ws u).lookup ("scale" : Str) = some (.int s) := by unfold Q1q; rw [Q0r wD,Q1f]
theorem Z8h : (Q1q m s t b ws u).lookup ("top" : Str) = some (.int t) := by unfold Q1q; rw [Q0r wD,Q0r wD,Q1f]
theorem Q9v : (Q1q m s t b ws u).lookup ("bottom" : Str) = some (.int b) := by unfold Q1q; rw [Q0r wD,Q0r wD,Q0r wD,Q1f]
theorem Z8J : (Q1q m s t b ws u).lookup ("tops" : Str) = some (.tup (ws.map D.int)) := by unfold Q1q; rw [Q0r wD,Q0r wD,Q0r wD,Q0r wD,Q1f]
theorem Z6K : (Q1q m s t b ws u).lookup ("under" : Str) = some (.int u) := by unfold Q1q; rw [Q0r wD,Q0r wD,Q0r wD,Q0r wD,Q0r wD,Q1f]
theorem Y0p {f : Str} (h : ([("many" : Str),"scale","top","bottom","tops","under"].all λ g => !(f == g)) = true) : (Q1q m s t b ws u).lookup f = none := by
 simp only [List.all_cons,List.all_nil,Bool.and_true,Bool.and_eq_true,Bool.not_eq_true'] at h
 obtain ⟨h1,h2,h3,h4,h5,h6⟩ := h
 unfold Q1q
 rw [Q0r h1,Q0r h2,Q0r h3,Q0r h4,Q0r h5,Q0r h6]
 rfl
end
def Q8s (CK1 : Addr) : SpD := λ ds O R => ∃ (q : Nat) (m s : Int),ds = [.ptr q] /\ O[q]? = some (some (.ins CK1 (Q1v m s))) /\ (1 <= m /\ m <= 24) /\ R (.tup ((List.replicate m.toNat (1 : Int)).map D.int)) O
theorem Q1h {O : Sto} {q : Nat} {x y : Option MO} (h : O[q]? = some x) : (O.set q y)[q]? = some y := by
 have := (List.getElem?_eq_some_iff.mp h).1
 rw [List.getElem?_set_self this]
theorem ones (n : Nat) : (List.replicate n [D.int 1]).flatten = (List.replicate n (1 : Int)).map D.int := by rw [rep1,List.map_replicate]
def TnOk (m : Nat) (s : Int) (t : Tn) : Prop := t.1.length = m /\ (∀ w ∈ t.1,w = none \/ onS s w = true) /\ 0 <= t.2 /\ t.2 <= s
def prA (said : List (Option Int)) (ws : List Int) : List (Int × Int) := (ax said).map λ k => ((sat2 said k).getD 0,ws.getD k 0)
theorem Z9h (said : List (Option Int)) (ws : List Int) : prA said ws = (nsA said).zip (wsA said ws) := by
 unfold prA nsA wsA
 rw [List.zip_map']
theorem Z0i (a : List Int) : eqD (.tup (a.map D.int)) (.tup (a.map D.int)) = true := by rw [Z5K,decide_eq_true rfl]
theorem plT (a : List Int) : plD (.tup (a.map D.int)) = true := Z7k a
theorem Z5P (a : List Int) : dpD (.tup (a.map D.int)) <= 60 := by
 have := Z7M a
 show dpDs (a.map D.int) + 1 <= 60
 omega
theorem TnOk.said {m : Nat} {s : Int} {t : Tn} (h : TnOk m s t) (hm : m <= 24) : Q0G (m : Nat) s t.1 := ⟨by rw [h.1],by omega,h.2.1⟩
def Z4r : List D -> D -> Prop := λ ds d => ∃ b n : Int,ds = [.int b,.int n] /\ (0 <= b /\ b <= 1000) /\ (0 <= n /\ n <= 60000) /\ d = .int (b ^ n.toNat)
theorem Q9R {a b : Int} (h0 : 0 <= a) (h : a <= b) : ∀ n : Nat,a ^ n <= b ^ n
 | 0 => by simp
 | n + 1 => by
  rw [Int.pow_succ,Int.pow_succ]
  exact Int.mul_le_mul (Q9R h0 h n) h h0 (Int.pow_nonneg (Int.le_trans h0 h))
theorem small {a : Int} (h0 : 0 <= a) (h : a < 256) (n : Nat) : 0 <= a ^ n /\ a ^ n < 2 ^ (8 * n + 1) := by
 refine ⟨Int.pow_nonneg h0,?_⟩
 have h1 : a ^ n <= 256 ^ n := Q9R h0 (Int.le_of_lt h) n
 have h2 : (2 : Int) ^ (8 * n + 1) = 256 ^ n * 2 := by rw [Int.pow_succ,Int.pow_mul]; rfl
 have h3 : (0 : Int) < 256 ^ n := Int.pow_pos wE
 rw [h2]
 omega
def Q1D : List D -> D -> Prop := λ ds d => ∃ (w : Option Int) (z : Int),ds = [od w,.int z] /\ d = .int (chg w z)
def tA (t b sc own off : Int) : Int := t ^ off.toNat * b ^ (sc - off).toNat * 2 * b ^ own.toNat
def tS (t b sc own : Int) : Int := b ^ sc.toNat * (b ^ own.toNat + t ^ own.toNat)
def tF (t b sc own so : Int) : Option Int -> Int
 | none => tS t b sc own
 | some x => tA t b sc own (ab (x - so))
def Q2s (t b sc d so : Int) (said : List (Option Int)) (ws : List Int) : List Int := (ws.zip said).map λ p => p.1 * tF t b sc d so p.2
structure Frac (sc t b : Int) : Prop where
 s1 : 1 <= sc
 s2 : sc <= 10
 t0 : 0 <= t
 tb : t < b
 b2 : b <= 100
theorem Q2W {x y : Int} {a c : Nat} (x0 : 0 <= x) (x1 : x < 2 ^ a) (y0 : 0 <= y) (y1 : y < 2 ^ c) : 0 <= x * y /\ x * y < 2 ^ (a + c) := by
 refine ⟨Int.mul_nonneg x0 y0,?_⟩
 rw [Int.pow_add]
 by_cases h : y = 0
 ·subst h
  rw [Int.mul_zero]
  exact Int.mul_pos (Int.pow_pos wE) (Int.pow_pos wE)
 ·have h1 : x * y < 2 ^ a * y := Int.mul_lt_mul_of_pos_right x1 wF
  have h2 : 2 ^ a * y <= 2 ^ a * 2 ^ c := Int.mul_le_mul_of_nonneg_left (Int.le_of_lt y1) (Int.pow_nonneg wE)
  omega
theorem Z1f {x : Int} {a c : Nat} (h : x < 2 ^ a) (hc : a <= c) : x < 2 ^ c := by
 obtain ⟨d,rfl⟩ := Nat.exists_eq_add_of_le hc
 have h1 : (1 : Int) <= 2 ^ d := Int.pow_pos wE
 have h2 : (0 : Int) <= 2 ^ a := Int.pow_nonneg wE
 have := Int.mul_le_mul_of_nonneg_left h1 h2
 rw [Int.pow_add]
 omega
theorem pw81 {x : Int} {e : Int} (h0 : 0 <= x) (h1 : x <= 100) (he : e <= 10) : 0 <= x ^ e.toNat /\ x ^ e.toNat < 2 ^ 81 := by
 have := small h0 (show x < 256 by omega) e.toNat
 exact ⟨this.1,Z1f this.2 wF⟩
theorem tA_ok {sc t b own off : Int} (h : Frac sc t b) (ho : own <= sc) (hf : 0 <= off /\ off <= sc) : 0 <= tA t b sc own off /\ tA t b sc own off < 2 ^ 250 := by
 have := h.s1; have := h.s2; have := h.t0; have := h.tb; have := h.b2
 have a1 := pw81 (x := t) (e := off) h.t0 wF wF
 have a2 := pw81 (x := b) (e := sc - off) wF wF wF
 have a3 := pw81 (x := b) (e := own) wF wF wF
 have b1 := Q2W a1.1 a1.2 a2.1 a2.2
 have b2 := Q2W (c := 2) b1.1 b1.2 (show (0 : Int) <= 2 by decide) wE
 have b3 := Q2W b2.1 b2.2 a3.1 a3.2
 exact ⟨b3.1,Z1f b3.2 wE⟩
theorem Z4i {sc t b own : Int} (h : Frac sc t b) (ho : own <= sc) : 0 <= tS t b sc own /\ tS t b sc own < 2 ^ 250 := by
 have := h.s1; have := h.s2; have := h.t0; have := h.tb; have := h.b2
 have a1 := pw81 (x := b) (e := sc) wF wF wF
 have a2 := pw81 (x := b) (e := own) wF wF wF
 have a3 := pw81 (x := t) (e := own) h.t0 wF wF
 have e : (2 : Int) ^ 82 = 2 ^ 81 + 2 ^ 81 := by decide
 have b1 := Q2W (y := b ^ own.toNat + t ^ own.toNat) (c := 82) a1.1 a1.2 wF (by rw [e]; omega)
 exact ⟨b1.1,Z1f b1.2 wE⟩
theorem Q9T {s x : Int} (h : onS s (some x) = true) : 0 <= x /\ x <= s := by
 have h : (decide (0 <= x) && decide (x <= s)) = true := h
 rw [Bool.and_eq_true] at h
 exact ⟨of_decide_eq_true h.1,of_decide_eq_true h.2⟩
theorem Z1C {s x so : Int} (h : 0 <= x /\ x <= s) (hs : 0 <= so /\ so <= s) : 0 <= ab (x - so) /\ ab (x - so) <= s := by
 unfold ab
 split <;> omega
theorem Z8M {sc t b own so : Int} {w : Option Int} (h : Frac sc t b) (ho : own <= sc) (hs : 0 <= so /\ so <= sc) (hw : w = none \/ onS sc w = true) : 0 <= tF t b sc own so w /\ tF t b sc own so w < 2 ^ 250 := by
 cases w with
 | none => exact Z4i h ho
 | some x =>
  rcases hw with hw | hw
  ·cases hw
  ·exact tA_ok h ho (Z1C (Q9T hw) hs)
theorem Q3W {m sc : Int} {said : List (Option Int)} {ws : List Int} (hs : Q0G m sc said) (h0 : 0 <= sc) (hw : Wok ws) : 0 <= midA said ws /\ midA said ws <= sc := by
 have h24 : said.length <= 24 := by have := hs.1; have := hs.2.1; omega
 have hr := Q9N (twoA (ws := ws) h24 hw)
 unfold midA
 unfold Z2b at hr
 by_cases hn : nsA said = []
 ·rw [if_pos hn] at hr
  rw [of_decide_eq_true hr]
  omega
 ·rw [if_neg hn,Bool.and_eq_true] at hr
  have hm := of_decide_eq_true hr.1
  unfold nsA at hm
  obtain ⟨k,hk,e⟩ := List.mem_map.mp hm
  have hlt := Z6m hk
  have hq := (List.mem_filter.mp hk).2
  unfold nsA
  rw [<- e]
  have hmem : sat2 said k ∈ said := by
   unfold sat2
   rw [List.getElem?_eq_getElem hlt]
   exact List.getElem_mem hlt
  cases hx : sat2 said k with
  | none => rw [hx] at hq; cases hq
  | some x =>
   rw [hx] at hmem
   rcases hs.2.2 _ hmem with h | h
   ·cases h
   ·exact Q9T h
def Q5v : List D -> D -> Prop := λ ds d => ∃ (m s : Int) (said : List (Option Int)) (so : Int),ds = [.int m,.int s,.tup [.tup (said.map od),.int so]] /\ Q0G m s said /\ (0 <= so /\ so <= s) /\ d = .bl true
def Q0S : List D -> D -> Prop := λ ds d => ∃ (m s : Int) (said : List (Option Int)) (so : Int),ds = [.int m,.int s,.tup (said.map od),.int so] /\ Q0G m s said /\ (0 <= so /\ so <= s) /\ d = .non
theorem Z3Y (m s t b u : Int) (ws vs : List Int) : putD "tops" (.tup (vs.map D.int)) (Q1q m s t b ws u) = Q1q m s t b vs u := by
 unfold Q1q
 rw [Q0o wD,Q0o wD,Q0o wD,Q0o wD,Q5a]
theorem Z2L (m s t b u v : Int) (ws : List Int) : putD "under" (.int v) (Q1q m s t b ws u) = Q1q m s t b ws v := by
 unfold Q1q
 rw [Q0o wD,Q0o wD,Q0o wD,Q0o wD,Q0o wD,Q5a]
def nW (t b sc dd so : Int) (said : List (Option Int)) (ws : List Int) (k : Nat) : Int := ws.getD k 0 * tF t b sc dd so (sat2 said k)
theorem Y1f {t b sc dd so : Int} {said : List (Option Int)} {ws : List Int} (h : ws.length = said.length) : (List.range said.length).map (nW t b sc dd so said ws) = Q2s t b sc dd so said ws := by
 unfold Q2s nW
 refine List.ext_getElem? λ i => ?_
 rw [List.getElem?_map,List.getElem?_map]
 by_cases hi : i < said.length
 ·have hz : i < (ws.zip said).length := by rw [List.length_zip]; omega
  rw [List.getElem?_range hi,List.getElem?_eq_getElem hz,List.getElem_zip]
  have h1 : ws.getD i 0 = ws[i] := by rw [List.getD_eq_getElem?_getD,List.getElem?_eq_getElem wF]; rfl
  have h2 : sat2 said i = said[i] := by unfold sat2; rw [List.getElem?_eq_getElem hi]; rfl
  show some (ws.getD i 0 * tF t b sc dd so (sat2 said i)) = some (ws[i] * tF t b sc dd so said[i])
  rw [h1,h2]
 ·rw [List.getElem?_eq_none (by simp; omega),List.getElem?_eq_none (by rw [List.length_zip]; omega)]
  rfl
theorem Q3q {t b sc dd so : Int} {said : List (Option Int)} {ws : List Int} (h : ws.length = said.length) : (Q2s t b sc dd so said ws).length = ws.length := by
 unfold Q2s
 rw [List.length_map,List.length_zip]
 omega
def nxt (x : Int) : Int := (x * x + 48271 * x + 11) % 2147483647
def Lo (x : Int) : Prop := 0 <= x /\ x < 2147483647
theorem Z0b (x : Int) : Lo (nxt x) := by unfold Lo nxt; omega
def Q1W (c k : Int) : Int := nxt (nxt ((c % 2147483647 + 69621 * k * k + 5) % 2147483647))
theorem Z0V (c k : Int) : Lo (Q1W c k) := Z0b _
def Q5N : List D -> D -> Prop := λ ds d => ∃ x : Int,ds = [.int x] /\ (0 <= x /\ x < 3000000000) /\ d = .int (nxt x)
def Q8m : List D -> D -> Prop := λ ds d => ∃ (ns : List Int) (k : Int),ds = [.scr (ns.map D.int),.int k] /\ (0 <= k /\ k <= 1000) /\ d = .int (Q1W (Q0P ns k) k)
def Q9w (s : Int) (sl : Bool) (so k x : Int) : Option Int := if (sl && decide (x % 4 = 0)) = true then none else some (if 1 < x / 3 % (k % 7 + 3) then so else x / 16 % (s + 1))
def runR (s : Int) (sl : Bool) (so : Int) : Nat -> Nat -> Int -> List (Option Int)
 | 0,_,_ => []
 | n + 1,k,x => Q9w s sl so (k : Int) (nxt (x + (k : Int))) :: runR s sl so n (k + 1) (nxt (x + (k : Int)))
theorem Z2a (s : Int) (sl : Bool) (so : Int) : ∀ (n k : Nat) (x : Int),(runR s sl so n k x).length = n
 | 0,_,_ => rfl
 | n + 1,k,x => by unfold runR; rw [List.length_cons,Z2a s sl so n]
theorem Z6L {s so : Int} {sl : Bool} (hs : 1 <= s) (hso : 0 <= so /\ so <= s) (k x : Int) : Q9w s sl so k x = none \/ onS s (Q9w s sl so k x) = true := by
 unfold Q9w
 split
 ·exact .inl rfl
 ·right
  show (decide (0 <= _) && decide (_ <= s)) = true
  rw [Bool.and_eq_true,decide_eq_true_eq,decide_eq_true_eq]
  have h1 := Int.emod_nonneg (x / 16) (show s + 1 ≠ 0 by omega)
  have h2 := Int.emod_lt_of_pos (x / 16) (show 0 < s + 1 by omega)
  split <;> omega
theorem Z4K {s so : Int} {sl : Bool} (hs : 1 <= s) (hso : 0 <= so /\ so <= s) : ∀ (n k : Nat) (x : Int),∀ w ∈ runR s sl so n k x,w = none \/ onS s w = true
 | 0,_,_,w,h => by cases h
 | n + 1,k,x,w,h => by
  unfold runR at h
  rcases List.mem_cons.mp h with rfl | h
  ·exact Z6L hs hso _ _
  ·exact Z4K hs hso n _ _ w h
def Z2R (m : Nat) (s : Int) (sl : Bool) (x : Int) : Tn := (runR s sl (x / 7 % (s + 1)) m 0 x,x / 7 % (s + 1))
theorem Z6N {m : Nat} {s : Int} {sl : Bool} (hs : 1 <= s) (x : Int) : TnOk m s (Z2R m s sl x) := by
 have h1 := Int.emod_nonneg (x / 7) (show s + 1 ≠ 0 by omega)
 have h2 := Int.emod_lt_of_pos (x / 7) (show 0 < s + 1 by omega)
 exact ⟨Z2a _ _ _ _ _ _,Z4K hs ⟨h1,by omega⟩ _ _ _,h1,show x / 7 % (s + 1) <= s by omega⟩
def Z0N : List D -> D -> Prop := λ ds d => ∃ (x : Int) (m : Nat) (s : Int) (sl : Bool),ds = [.int x,.int (m : Nat),.int s,.bl sl] /\ Lo x /\ m <= 24 /\ 1 <= s /\ d = tD (Z2R m s sl x)
def fews : List Int := [3,3,3,3,3,8,3,3]
def fewR (x : Int) : Int := fews.getD (x % 8).toNat 0
theorem Z9P (x : Int) : atI (fews.map D.int) (x % 8) = some (.int (fewR x)) := by
 have h : 0 <= x % 8 /\ x % 8 < 8 := by omega
 unfold fewR
 generalize x % 8 = i at h
 obtain ⟨k,rfl⟩ := Int.eq_ofNat_of_zero_le h.1
 have hk : k < 8 := by omega
 have : k = 0 \/ k = 1 \/ k = 2 \/ k = 3 \/ k = 4 \/ k = 5 \/ k = 6 \/ k = 7 := by omega
 rcases this with rfl | rfl | rfl | rfl | rfl | rfl | rfl | rfl <;> rfl
theorem Z9O (x : Int) : 3 <= fewR x /\ fewR x <= 30 := by
 have h : (x % 8).toNat < 8 := by omega
 unfold fewR
 generalize (x % 8).toNat = i at h
 have : ∀ k : Nat,k < 8 -> 3 <= fews.getD k 0 /\ fews.getD k 0 <= 30 := by decide
 exact this i h
def Q7w (m : Nat) : Int := if 8 < m then 8 else 60
def endR (ns : List Int) (st : Int) (m : Nat) : Int :=
 if st + Q7w m < (if st + fewR (Q1W (Q0P ns st) st) > (ns.length : Nat) then st + fewR (Q1W (Q0P ns st) st) else (ns.length : Nat)) then st + Q7w m else (if st + fewR (Q1W (Q0P ns st) st) > (ns.length : Nat) then st + fewR (Q1W (Q0P ns st) st) else (ns.length : Nat))
def Q7J (ns : List Int) (st : Int) (m : Nat) (s : Int) (sl : Bool) : List Tn := (List.range (endR ns st m - st).toNat).map λ j : Nat => Z2R m s sl (Q1W (Q0P ns (st + (j : Int))) (st + (j : Int)))
theorem Z9W (ns : List Int) (st : Int) (m : Nat) : endR ns st m <= st + 60 := by
 unfold endR Q7w
 split <;> split <;> split <;> omega
theorem Z9X {ns : List Int} {st : Int} {m : Nat} : st + 3 <= endR ns st m := by
 have := Z9O (Q1W (Q0P ns st) st)
 unfold endR Q7w
 split <;> split <;> split <;> omega
theorem Z4d {ns : List Int} {st : Int} {m : Nat} {s : Int} {sl : Bool} (hs : 1 <= s) : ∀ t ∈ Q7J ns st m s sl,TnOk m s t := λ t ht => by
 obtain ⟨j,_,rfl⟩ := List.mem_map.mp ht
 exact Z6N hs _
def Q8l : List D -> D -> Prop := λ ds d => ∃ (ns : List Int) (st : Int) (m : Nat) (s : Int) (sl : Bool),ds = [.scr (ns.map D.int),.int st,.int (m : Nat),.int s,.bl sl] /\ ns.length <= 63 /\ (0 <= st /\ st <= 10) /\ m <= 24 /\ 1 <= s /\ d = .tup ((Q7J ns st m s sl).map tD)
def preX : List D -> Prop := λ ds => ∃ c : Int,ds = [.int c]
def Z1d : List D -> D -> Prop := λ _ d => ∃ m : Nat,d = .int (m : Nat) /\ 1 <= m /\ m <= 24
def Q6r : List D -> D -> Prop := λ _ d => ∃ s : Int,d = .int s /\ 1 <= s /\ s <= 10
theorem twosR {a b i : Int} (h : i = 0 \/ i = 1) : atI [D.int a,D.int b] i = some (.int (if i = 0 then a else b)) := by
 rcases h with rfl | rfl <;> rfl
structure SP where
 m : Int
 sc : Int
 t : Int
 b : Int
 sh : Int
 pa : Int
def f7 (m s t b : Int) (ws : List Int) (u sh : Int) : List (Str × D) := [("many",.int m),("scale",.int s),("top",.int t),("bottom",.int b),("tops",.tup (ws.map D.int)),("under",.int u),("share",.int sh)]
def shiF (p : SP) (ws : List Int) (u : Int) : List (Str × D) := [("many",.int p.m),("scale",.int p.sc),("top",.int p.t),("bottom",.int p.b),("tops",.tup (ws.map D.int)),("under",.int u),("share",.int p.sh),("parts",.int p.pa)]
theorem Z4O (m s t b u sh : Int) (ws : List Int) : putD "share" (.int sh) (Q1q m s t b ws u) = f7 m s t b ws u sh := by
 unfold Q1q
 rw [Q0o wD,Q0o wD,Q0o wD,Q0o wD,Q0o wD,Q0o wD]
 rfl
theorem Z4P (m s t b u sh pa : Int) (ws : List Int) : putD "parts" (.int pa) (f7 m s t b ws u sh) = shiF ⟨m,s,t,b,sh,pa⟩ ws u := by
 unfold f7
 rw [Q0o wD,Q0o wD,Q0o wD,Q0o wD,Q0o wD,Q0o wD,Q0o wD]
 rfl
theorem Q9B (p : SP) (u : Int) (ws vs : List Int) : putD "tops" (.tup (vs.map D.int)) (shiF p ws u) = shiF p vs u := by
 unfold shiF
 rw [Q0o wD,Q0o wD,Q0o wD,Q0o wD,Q5a]
theorem Q7N (p : SP) (u v : Int) (ws : List Int) : putD "under" (.int v) (shiF p ws u) = shiF p ws v := by
 unfold shiF
 rw [Q0o wD,Q0o wD,Q0o wD,Q0o wD,Q0o wD,Q5a]
section
variable (p : SP) (u : Int) (ws : List Int)
theorem Q5J : (shiF p ws u).lookup ("many" : Str) = some (.int p.m) := Q1f
theorem Q8f : (shiF p ws u).lookup ("scale" : Str) = some (.int p.sc) := by unfold shiF; rw [Q0r wD,Q1f]
theorem Z8d : (shiF p ws u).lookup ("top" : Str) = some (.int p.t) := by unfold shiF; rw [Q0r wD,Q0r wD,Q1f]
theorem Q9t : (shiF p ws u).lookup ("bottom" : Str) = some (.int p.b) := by unfold shiF; rw [Q0r wD,Q0r wD,Q0r wD,Q1f]
theorem Z0E : (shiF p ws u).lookup ("tops" : Str) = some (.tup (ws.map D.int)) := by unfold shiF; rw [Q0r wD,Q0r wD,Q0r wD,Q0r wD,Q1f]
theorem Z1L : (shiF p ws u).lookup ("under" : Str) = some (.int u) := by unfold shiF; rw [Q0r wD,Q0r wD,Q0r wD,Q0r wD,Q0r wD,Q1f]
theorem Q8e : (shiF p ws u).lookup ("share" : Str) = some (.int p.sh) := by unfold shiF; rw [Q0r wD,Q0r wD,Q0r wD,Q0r wD,Q0r wD,Q0r wD,Q1f]
theorem Q8g : (shiF p ws u).lookup ("parts" : Str) = some (.int p.pa) := by unfold shiF; rw [Q0r wD,Q0r wD,Q0r wD,Q0r wD,Q0r wD,Q0r wD,Q0r wD,Q1f]
theorem Z8F {f : Str} (h : ([("many" : Str),"scale","top","bottom","tops","under","share","parts"].all λ g => !(f == g)) = true) : (shiF p ws u).lookup f = none := by
 simp only [List.all_cons,List.all_nil,Bool.and_true,Bool.and_eq_true,Bool.not_eq_true'] at h
 obtain ⟨h1,h2,h3,h4,h5,h6,h7,h8⟩ := h
 unfold shiF
 rw [Q0r h1,Q0r h2,Q0r h3,Q0r h4,Q0r h5,Q0r h6,Q0r h7,Q0r h8]
 rfl
end
structure SOk (p : SP) : Prop where
 f : Frac p.sc p.t p.b
 m1 : 1 <= p.m
 m2 : p.m <= 24
 h1 : 1 <= p.sh
 h2 : p.sh < p.pa
 h3 : p.pa <= 100
def SAt (C : Addr) (O : Sto) (q : Nat) (p : SP) (ws : List Int) (u : Int) : Prop := O[q]? = some (some (.ins C (shiF p ws u)))
structure WOkS (n : Nat) (ws : List Int) (u : Int) : Prop where
 w : ∀ x ∈ ws,0 <= x /\ x < 2 ^ (270 * (n + 1))
 u0 : 0 <= u
 u1 : u < 2 ^ (270 * (n + 1))
theorem Q5K (n : Nat) : WOkS 0 (List.replicate n 1) 1 := ⟨λ x hx => by rw [List.eq_of_mem_replicate hx]; exact ⟨by decide,by decide⟩,by decide,by decide⟩
def Q4X (p : SP) (ws : List Int) : List Int := ws.map λ w => w * (p.m * (p.pa - p.sh)) + p.sh * ws.sum
theorem Z7N (p : SP) (ws : List Int) : (Q4X p ws).length = ws.length := by unfold Q4X; rw [List.length_map]
theorem Z5u {p : SP} (h : SOk p) : 0 <= p.m * (p.pa - p.sh) /\ p.m * (p.pa - p.sh) <= 2376 := by
 have := h.m1; have := h.m2; have := h.h1; have := h.h2; have := h.h3
 have h1 : p.m * (p.pa - p.sh) <= 24 * (p.pa - p.sh) := Int.mul_le_mul_of_nonneg_right wF wF
 have h2 : 0 <= p.m * (p.pa - p.sh) := Int.mul_nonneg wF wF
 omega
theorem Y0a {p : SP} {ws : List Int} {e : Nat} (h : SOk p) (hl : ws.length <= 24) (hw : ∀ x ∈ ws,0 <= x /\ x < 2 ^ e) : ∀ x ∈ Q4X p ws,0 <= x /\ x < 2 ^ (e + 13) := by
 have := h.h1; have := h.h2; have := h.h3
 have hk := Z5u h
 have hE : (1 : Int) <= 2 ^ e := Int.pow_pos wE
 have e13 : (2 : Int) ^ (e + 13) = 2 ^ e * 8192 := by rw [Int.pow_add]; rfl
 have hs0 : 0 <= ws.sum := by
  have := Q9C (g := λ x : Int => x) (l := ws) λ v hv => (hw v hv).1
  rw [<- Q4h,List.map_id'] at this
  exact this
 have hs1 : ws.sum <= 24 * 2 ^ e := by
  have := sm_bd' (g := λ x : Int => x) (l := ws) (B := 2 ^ e) (n := 24) wF hl λ v hv => by have := (hw v hv).2; omega
  rw [<- Q4h,List.map_id'] at this
  exact this
 rw [e13]
 generalize (2 : Int) ^ e = E at hE hs1 hw
 intro x hx
 obtain ⟨w,hw',rfl⟩ := List.mem_map.mp hx
 have h1 := hw w hw'
 generalize p.m * (p.pa - p.sh) = K at hk
 have a1 : w * K <= E * K := Int.mul_le_mul_of_nonneg_right wF hk.1
 have a2 : E * K <= E * 2376 := Int.mul_le_mul_of_nonneg_left hk.2 wF
 have a3 : p.sh * ws.sum <= 99 * ws.sum := Int.mul_le_mul_of_nonneg_right wF hs0
 have a4 : 0 <= p.sh * ws.sum := Int.mul_nonneg wF hs0
 have a5 : 0 <= w * K := Int.mul_nonneg h1.1 hk.1
 omega
theorem Z3Z {n : Nat} {p : SP} {dd so u : Int} {said : List (Option Int)} {ws : List Int} (h : SOk p) (hw : WOkS n ws u) (hl : ws.length = said.length) (h24 : said.length <= 24) (hs : ∀ w ∈ said,w = none \/ onS p.sc w = true) (hso : 0 <= so /\ so <= p.sc) (hd : 0 <= dd /\ dd <= p.sc) : WOkS (n + 1) (Q4X p (Q2s p.t p.b p.sc dd so said ws)) (u * tS p.t p.b p.sc dd * p.m * p.pa) := by
 have := h.m1; have := h.m2; have := h.h1; have := h.h2; have := h.h3
 have h1 := Z4i (own := dd) h.f hd.2
 have h2 := Q2W hw.u0 hw.u1 h1.1 h1.2
 have h3 := Q2W (c := 5) h2.1 h2.2 (show 0 <= p.m by omega) wF
 have h4 := Q2W (c := 7) h3.1 h3.2 (show 0 <= p.pa by omega) wF
 refine ⟨λ x hx => ?_,h4.1,Z1f h4.2 wF⟩
 have hb : ∀ x ∈ Q2s p.t p.b p.sc dd so said ws,0 <= x /\ x < 2 ^ (270 * (n + 1) + 250) := λ x hx => by
  obtain ⟨q,hq,rfl⟩ := List.mem_map.mp hx
  have g3 := hw.w _ (List.of_mem_zip hq).1
  have g4 := Z8M h.f hd.2 hso (hs _ (List.of_mem_zip hq).2)
  exact Q2W g3.1 g3.2 g4.1 g4.2
 have := Y0a h (by rw [Q3q hl,hl]; exact h24) hb x hx
 exact ⟨this.1,Z1f this.2 wF⟩
def Z0P : List D -> D -> Prop := λ ds d => ∃ a b : Int,ds = [.int a,.int b] /\ (1 <= a /\ a < b /\ b <= 100) /\ d = .non
def Q5P (C : Addr) : SpD := λ ds O R => ∃ (q : Nat) (p : SP),ds = [.ptr q,.int p.m,.int p.sc,.int p.t,.int p.b,.int p.sh,.int p.pa] /\ O[q]? = some (some (.ins C [])) /\ SOk p /\ R .non (O.set q (some (.ins C (shiF p (List.replicate p.m.toNat 1) 1))))
def Q8t (C : Addr) : SpD := λ ds O R => ∃ (q : Nat) (p : SP) (u : Int) (ws : List Int),ds = [.ptr q] /\ SAt C O q p ws u /\ SOk p /\ ws.length <= 24 /\ R .non (O.set q (some (.ins C (shiF p (Q4X p ws) (u * p.m * p.pa)))))
def wsC (CW CS : Addr) : Bool -> Addr
 | false => CW
 | true => CS
def wsF (sf : Bool) (p : SP) (ws : List Int) (u : Int) : List (Str × D) := match sf with
 | false => Q1q p.m p.sc p.t p.b ws u
 | true => shiF p ws u
section
variable (sf : Bool) (p : SP) (u : Int) (ws : List Int)
theorem Z4b : (wsF sf p ws u).lookup ("many" : Str) = some (.int p.m) := by cases sf; exact Z0F ..; exact Q5J ..
theorem Q5t : (wsF sf p ws u).lookup ("scale" : Str) = some (.int p.sc) := by cases sf; exact Q8i ..; exact Q8f ..
theorem Z8i : (wsF sf p ws u).lookup ("top" : Str) = some (.int p.t) := by cases sf; exact Z8h ..; exact Z8d ..
theorem Q4c : (wsF sf p ws u).lookup ("bottom" : Str) = some (.int p.b) := by cases sf; exact Q9v ..; exact Q9t ..
theorem Z0G : (wsF sf p ws u).lookup ("tops" : Str) = some (.tup (ws.map D.int)) := by cases sf; exact Z8J ..; exact Z0E ..
theorem Z1N : (wsF sf p ws u).lookup ("under" : Str) = some (.int u) := by cases sf; exact Z6K ..; exact Z1L ..
theorem Z2O {f : Str} (h : ([("many" : Str),"scale","top","bottom","tops","under"].all λ g => !(f == g)) = true) (h2 : ([("many" : Str),"scale","top","bottom","tops","under","share","parts"].all λ g => !(f == g)) = true) : (wsF sf p ws u).lookup f = none := by
 cases sf
 ·exact Y0p _ _ _ _ _ _ h
 ·exact Z8F _ _ _ h2
theorem vlen : (wsF sf p ws u).length < 1000 := by cases sf; show 6 < 1000; decide; show 8 < 1000; decide
theorem Z4a (vs : List Int) : putD "tops" (.tup (vs.map D.int)) (wsF sf p ws u) = wsF sf p vs u := by cases sf; exact Z3Y ..; exact Q9B ..
theorem Z2N (v : Int) : putD "under" (.int v) (wsF sf p ws u) = wsF sf p ws v := by cases sf; exact Z2L ..; exact Q7N ..
end
def VAt (CW CS : Addr) (O : Sto) (q : Nat) (sf : Bool) (p : SP) (ws : List Int) (u : Int) : Prop := O[q]? = some (some (.ins (wsC CW CS sf) (wsF sf p ws u)))
structure VOk (sf : Bool) (p : SP) : Prop where
 f : Frac p.sc p.t p.b
 m1 : 1 <= p.m
 m2 : p.m <= 24
 s : sf = true -> 1 <= p.sh /\ p.sh < p.pa /\ p.pa <= 100
theorem VOk.so {p : SP} (h : VOk true p) : SOk p := ⟨h.f,h.m1,h.m2,(h.s rfl).1,(h.s rfl).2.1,(h.s rfl).2.2⟩
def hrW (sf : Bool) (p : SP) (said : List (Option Int)) (so : Int) (ws : List Int) : List Int := match sf with
 | false => Q2s p.t p.b p.sc (ab (midA said ws - so)) so said ws
 | true => Q4X p (Q2s p.t p.b p.sc (ab (midA said ws - so)) so said ws)
def hrU (sf : Bool) (p : SP) (said : List (Option Int)) (so : Int) (ws : List Int) (u : Int) : Int := match sf with
 | false => u * tS p.t p.b p.sc (ab (midA said ws - so))
 | true => u * tS p.t p.b p.sc (ab (midA said ws - so)) * p.m * p.pa
section
variable {P : Program} {w : World} {K : PySem.W.Frag} {mg : Str -> Option Value} {base : Heap} {CW CS : Addr} {k1 k2 : Nat} {m : Str} {sp : SpD} {sq : Bool -> SpD}
theorem cv (h1 : Cls K CW) (h2 : Cls K CS) (sf : Bool) : Cls K (wsC CW CS sf) := by cases sf; exact h1; exact h2
theorem nv (h1 : Q0l K CW m) (h2 : Q0l K CS m) (sf : Bool) : Q0l K (wsC CW CS sf) m := by cases sf; exact h1; exact h2
theorem mv (h1 : Q0e P w K mg base CW k1 m sp) (h2 : Q0e P w K mg base CS k1 m sp) (sf : Bool) : Q0e P w K mg base (wsC CW CS sf) k1 m sp := by cases sf; exact h1; exact h2
theorem mv2 (h1 : Q0e P w K mg base CW k1 m (sq false)) (h2 : Q0e P w K mg base CS k2 m (sq true)) (sf : Bool) : Q0e P w K mg base (wsC CW CS sf) (max k1 k2) m (sq sf) := by cases sf; exact h1.mono (Nat.le_max_left _ _); exact h2.mono (Nat.le_max_right _ _)
end
def Q2B (CW CS : Addr) : SpD := λ ds O R => ∃ (q : Nat) (sf : Bool) (p : SP),ds = [.ptr q,.int p.m,.int p.sc,.int p.t,.int p.b] /\ O[q]? = some (some (.ins (wsC CW CS sf) [])) /\ VOk false p /\ R .non (O.set q (some (.ins (wsC CW CS sf) (Q1q p.m p.sc p.t p.b (List.replicate p.m.toNat 1) 1))))
def Q4G (CW CS : Addr) : SpD := λ ds O R => ∃ (q : Nat) (sf : Bool) (p : SP) (u : Int) (ws : List Int),ds = [.ptr q] /\ VAt CW CS O q sf p ws u /\ R (.tup (ws.map D.int)) O
def Q3u (CW CS : Addr) : SpD := λ ds O R => ∃ (q : Nat) (sf : Bool) (p : SP) (u : Int) (ws : List Int),ds = [.ptr q] /\ VAt CW CS O q sf p ws u /\ ws.length <= 63 /\ R (.tup [.int ws.sum,.int u]) O
def Z8R (CW CS : Addr) : SpD := λ ds O R => ∃ (q : Nat) (sf : Bool) (p : SP) (u own off : Int) (ws : List Int),ds = [.ptr q,.int own,.int off] /\ VAt CW CS O q sf p ws u /\ VOk sf p /\ (0 <= own /\ own <= p.sc) /\ (0 <= off /\ off <= p.sc) /\ R (.int (tA p.t p.b p.sc own off)) O
def Z6T (CW CS : Addr) : SpD := λ ds O R => ∃ (q : Nat) (sf : Bool) (p : SP) (u own : Int) (ws : List Int),ds = [.ptr q,.int own] /\ VAt CW CS O q sf p ws u /\ VOk sf p /\ (0 <= own /\ own <= p.sc) /\ R (.int (tS p.t p.b p.sc own)) O
def Z8Q (CW CS : Addr) : SpD := λ ds O R => ∃ (q : Nat) (sf : Bool) (p : SP) (u own so : Int) (w : Option Int) (ws : List Int),ds = [.ptr q,.int own,od w,.int so] /\ VAt CW CS O q sf p ws u /\ VOk sf p /\ (0 <= own /\ own <= p.sc) /\ (0 <= so /\ so <= p.sc) /\ (w = none \/ onS p.sc w = true) /\ R (.int (tF p.t p.b p.sc own so w)) O
def Q3t (CW CS : Addr) : SpD := λ ds O R => ∃ (q n : Nat) (sf : Bool) (p : SP) (u so : Int) (said : List (Option Int)) (ws : List Int),ds = [.ptr q,.tup (said.map od),.int so] /\ VAt CW CS O q sf p ws u /\ VOk sf p /\ n <= 1000 /\ WOkS n ws u /\ (ws.length : Int) = p.m /\ Q0G p.m p.sc said /\ (0 <= so /\ so <= p.sc) /\
 R .non (O.set q (some (.ins (wsC CW CS sf) (wsF sf p (Q2s p.t p.b p.sc (ab (midA said ws - so)) so said ws) (u * tS p.t p.b p.sc (ab (midA said ws - so)))))))
def Q0K (CW CS : Addr) (sf : Bool) : SpD := λ ds O R => ∃ (q n : Nat) (p : SP) (u so : Int) (said : List (Option Int)) (ws : List Int),ds = [.ptr q,.tup (said.map od),.int so] /\ VAt CW CS O q sf p ws u /\ VOk sf p /\ n <= 1000 /\ WOkS n ws u /\ (ws.length : Int) = p.m /\ Q0G p.m p.sc said /\ (0 <= so /\ so <= p.sc) /\
 R .non (O.set q (some (.ins (wsC CW CS sf) (wsF sf p (hrW sf p said so ws) (hrU sf p said so ws u)))))
def Q0T (CW CS : Addr) (sf : Bool) : SpD := λ ds O R => ∃ (q : Nat) (p : SP) (u : Int) (ws : List Int),ds = [.ptr q] /\ VAt CW CS O q sf p ws u /\ VOk sf p /\ R (.ptr O.length) (O ++ [some (.ins (wsC CW CS sf) (wsF sf p (List.replicate p.m.toNat 1) 1))])
theorem Z2M {n : Nat} {t b sc dd so u : Int} {said : List (Option Int)} {ws : List Int} (hf : Frac sc t b) (hw : WOkS n ws u) (hs : ∀ w ∈ said,w = none \/ onS sc w = true) (hso : 0 <= so /\ so <= sc) (hd : 0 <= dd /\ dd <= sc) : WOkS (n + 1) (Q2s t b sc dd so said ws) (u * tS t b sc dd) := by
 have h1 := Z4i (own := dd) hf hd.2
 have h2 := Q2W hw.u0 hw.u1 h1.1 h1.2
 refine ⟨λ x hx => ?_,h2.1,Z1f h2.2 wF⟩
 obtain ⟨p,hp,rfl⟩ := List.mem_map.mp hx
 have h3 := hw.w _ (List.of_mem_zip hp).1
 have h4 := Z8M hf hd.2 hso (hs _ (List.of_mem_zip hp).2)
 have h5 := Q2W h3.1 h3.2 h4.1 h4.2
 exact ⟨h5.1,Z1f h5.2 wF⟩
theorem hr_ok {n : Nat} {sf : Bool} {p : SP} {u so : Int} {said : List (Option Int)} {ws : List Int} (h : VOk sf p) (hw : WOkS n ws u) (hl : (ws.length : Int) = p.m) (hs : Q0G p.m p.sc said) (hso : 0 <= so /\ so <= p.sc) : WOkS (n + 1) (hrW sf p said so ws) (hrU sf p said so ws u) /\ ((hrW sf p said so ws).length : Int) = p.m := by
 have hs1 := hs.1
 have h24 := hs.2.1
 have hd := Z1C (Q3W (ws := ws) hs (by have := h.f.s1; omega) (λ w h => (hw.w w h).1)) hso
 cases sf
 ·refine ⟨Z2M h.f hw hs.2.2 hso hd,?_⟩
  show ((Q2s _ _ _ _ _ _ _).length : Int) = _
  rw [Q3q wF]; exact hl
 ·refine ⟨Z3Z h.so hw wF wF hs.2.2 hso hd,?_⟩
  show ((Q4X _ _).length : Int) = _
  rw [Z7N,Q3q wF]; exact hl
def IsFL (sc : List Int) (as : List Nat) (k : Nat) : Prop := k ∈ as /\ ∀ j ∈ as,sc.getD k 0 <= sc.getD j 0 /\ (sc.getD j 0 = sc.getD k 0 -> k <= j)
theorem IsFL.uniq {sc : List Int} {as : List Nat} {j k : Nat} (h : IsFL sc as j) (g : IsFL sc as k) : j = k := by
 have h1 := h.2 k g.1
 have g1 := g.2 j h.1
 have e : sc.getD j 0 = sc.getD k 0 := by omega
 have := h1.2 e.symm
 have := g1.2 e
 omega
def flx (sc : List Int) : List Nat -> Option Nat
 | [] => none
 | k :: as => match flx sc as with
  | none => some k
  | some j => if sc.getD j 0 < sc.getD k 0 then some j else some k
theorem Z5E (sc : List Int) : ∀ as : List Nat,as.Pairwise (· < ·) -> as ≠ [] -> ∃ k,flx sc as = some k /\ IsFL sc as k
 | [],_,h => absurd rfl h
 | k :: as,hp,_ => by
  obtain ⟨hk,hp⟩ := List.pairwise_cons.mp hp
  unfold flx
  by_cases h0 : as = []
  ·subst h0
   refine ⟨k,rfl,List.mem_cons_self,λ j hj => ?_⟩
   rcases List.mem_cons.mp hj with rfl | hj
   ·exact ⟨Int.le_refl _,λ _ => Nat.le_refl _⟩
   ·cases hj
  ·obtain ⟨j,e,hj⟩ := Z5E sc as hp h0
   rw [e]
   by_cases hd : sc.getD j 0 < sc.getD k 0
   ·refine ⟨j,if_pos hd,List.mem_cons_of_mem _ hj.1,λ i hi => ?_⟩
    rcases List.mem_cons.mp hi with rfl | hi
    ·exact ⟨by omega,λ z => by omega⟩
    ·exact hj.2 i hi
   ·refine ⟨k,if_neg hd,List.mem_cons_self,λ i hi => ?_⟩
    rcases List.mem_cons.mp hi with rfl | hi
    ·exact ⟨Int.le_refl _,λ _ => Nat.le_refl _⟩
    ·have := hj.2 i hi
     have := hk i hi
     exact ⟨by omega,λ _ => by omega⟩
theorem Y1H (said : List (Option Int)) : (ax said).Pairwise (· < ·) := List.Pairwise.filter _ List.pairwise_lt_range
def sayV (sc : List Int) (said : List (Option Int)) : Int := match flx sc (ax said) with
 | none => 0
 | some k => (sat2 said k).getD 0
theorem Z4I {sc : List Int} {said : List (Option Int)} (h : ax said = []) : sayV sc said = 0 := by unfold sayV; rw [h]; rfl
theorem Z4H {sc : List Int} {said : List (Option Int)} {k : Nat} (h : IsFL sc (ax said) k) : sayV sc said = (sat2 said k).getD 0 := by
 obtain ⟨j,e,hj⟩ := Z5E sc (ax said) (Y1H said) (List.ne_nil_of_mem h.1)
 unfold sayV
 rw [e,hj.uniq h]
def Z3u (said : List (Option Int)) (so : Int) (sc : List Int) : List Int := (sc.zip said).map λ p => p.1 + chg p.2 so
theorem Z5j {said : List (Option Int)} {so : Int} {sc : List Int} (h : sc.length = said.length) : (Z3u said so sc).length = sc.length := by
 unfold Z3u
 rw [List.length_map,List.length_zip]
 omega
def folF (m s : Int) (ps sc : List Int) : List (Str × D) := [("many",.int m),("scale",.int s),("push",.tup (ps.map D.int)),("reached",.tup (sc.map D.int))]
def g2 (m s : Int) : List (Str × D) := [("many",.int m),("scale",.int s)]
def g3 (m s : Int) (d : D) : List (Str × D) := [("many",.int m),("scale",.int s),("push",d)]
theorem Y0I (m s : Int) (d : D) : putD "push" d (g2 m s) = g3 m s d := by
 unfold g2
 rw [Q0o wD,Q0o wD]
 rfl
theorem Y0H (m s : Int) (ps sc : List Int) : putD "reached" (.tup (sc.map D.int)) (g3 m s (.tup (ps.map D.int))) = folF m s ps sc := by
 unfold g3
 rw [Q0o wD,Q0o wD,Q0o wD]
 rfl
theorem fput (m s : Int) (ps sc s2 : List Int) : putD "reached" (.tup (s2.map D.int)) (folF m s ps sc) = folF m s ps s2 := by
 unfold folF
 rw [Q0o wD,Q0o wD,Q0o wD,Q5a]
section
variable (m s : Int) (ps sc : List Int)
theorem Q8Y : (folF m s ps sc).lookup ("many" : Str) = some (.int m) := Q1f
theorem Q5F : (folF m s ps sc).lookup ("scale" : Str) = some (.int s) := by unfold folF; rw [Q0r wD,Q1f]
theorem Z9M : (folF m s ps sc).lookup ("push" : Str) = some (.tup (ps.map D.int)) := by unfold folF; rw [Q0r wD,Q0r wD,Q1f]
theorem Q8a : (folF m s ps sc).lookup ("reached" : Str) = some (.tup (sc.map D.int)) := by unfold folF; rw [Q0r wD,Q0r wD,Q0r wD,Q1f]
theorem Z9N {f : Str} (h : ([("many" : Str),"scale","push","reached"].all λ g => !(f == g)) = true) : (folF m s ps sc).lookup f = none := by
 simp only [List.all_cons,List.all_nil,Bool.and_true,Bool.and_eq_true,Bool.not_eq_true'] at h
 obtain ⟨h1,h2,h3,h4⟩ := h
 unfold folF
 rw [Q0r h1,Q0r h2,Q0r h3,Q0r h4]
 rfl
end
theorem Z9K (m s : Int) (d : D) : (g3 m s d).lookup ("push" : Str) = some d := by unfold g3; rw [Q0r wD,Q0r wD,Q1f]
def FAt (CK0 : Addr) (O : Sto) (q : Nat) (m s : Int) (ps sc : List Int) : Prop := O[q]? = some (some (.ins CK0 (folF m s ps sc)))
def Q6V (m : Int) (ps : List Int) : Prop := (ps.length : Int) = m /\ ∀ p ∈ ps,0 <= p /\ p <= 10 ^ (60 : Int).toNat - 1
def poD : Option (List Int) -> D
 | none => .non
 | some ps => .tup (ps.map D.int)
def poL (m : Int) (po : Option (List Int)) : List Int := po.getD (List.replicate m.toNat 0)
def Z4q : List D -> D -> Prop := λ ds d => ∃ (m : Int) (ps : List Int),ds = [.int m,.tup (ps.map D.int)] /\ Q6V m ps /\ m <= 24 /\ d = .non
def Q8n : List D -> D -> Prop := λ ds d => ∃ (m : Int) (po : Option (List Int)),ds = [.int m,poD po] /\ (1 <= m /\ m <= 24) /\ Q6V m (poL m po) /\ d = .tup ((poL m po).map D.int)
def Z0S : List D -> D -> Prop := λ ds d => ∃ (sc : List Int) (as : List Nat) (k : Nat),ds = [.tup (sc.map D.int),.lst (as.map λ k => D.int (k : Nat))] /\ as.length <= 24 /\ (∀ k ∈ as,k < sc.length) /\ IsFL sc as k /\ d = .int (k : Nat)
def Q5R (CK0 : Addr) : SpD := λ ds O R => ∃ (q : Nat) (m s : Int) (po : Option (List Int)),ds = [.ptr q,.int m,.int s,poD po] /\ O[q]? = some (some (.ins CK0 [])) /\ (1 <= m /\ m <= 24) /\ (1 <= s /\ s <= 10) /\ Q6V m (poL m po) /\ R .non (O.set q (some (.ins CK0 (folF m s (poL m po) (poL m po)))))
def Q4e (CK0 : Addr) : SpD := λ ds O R => ∃ (q : Nat) (m s : Int) (ps sc : List Int) (said : List (Option Int)),ds = [.ptr q,.tup (said.map od)] /\ FAt CK0 O q m s ps sc /\ (1 <= m /\ m <= 24) /\ Q0G m s said /\ (sc.length : Int) = m /\ R (.int (sayV sc said)) O
def Q2E (CK0 : Addr) : SpD := λ ds O R => ∃ (q : Nat) (m s so : Int) (ps sc : List Int) (said : List (Option Int)),ds = [.ptr q,.tup (said.map od),.int so] /\ FAt CK0 O q m s ps sc /\ (1 <= m /\ m <= 24) /\ Q0G m s said /\ (0 <= so /\ so <= s) /\ (sc.length : Int) = m /\ R .non (O.set q (some (.ins CK0 (folF m s ps (Z3u said so sc)))))
def Q3e (CK0 : Addr) : SpD := λ ds O R => ∃ (q : Nat) (m s : Int) (ps sc : List Int),ds = [.ptr q] /\ FAt CK0 O q m s ps sc /\ (1 <= m /\ m <= 24) /\ (1 <= s /\ s <= 10) /\ Q6V m ps /\ R (.ptr O.length) (O ++ [some (.ins CK0 (folF m s ps ps))])
theorem Z8H (n : Nat) : (List.replicate n [D.int 0]).flatten = (List.replicate n (0 : Int)).map D.int := by rw [rep1,List.map_replicate]
theorem Z9z {sc : List Int} {as : List Nat} {k : Nat} (h : IsFL sc as k) : minP (as.map λ k => (sc.getD k 0,((k : Nat) : Int))) = (sc.getD k 0,((k : Nat) : Int)) := by
 have hne : (as.map λ k => (sc.getD k 0,((k : Nat) : Int))) ≠ [] := λ z => by
  rw [List.map_eq_nil_iff] at z
  have := h.1
  rw [z] at this
  cases this
 obtain ⟨j,hj,e⟩ := List.mem_map.mp (Z7u hne)
 have hj2 : IsFL sc as j := by
  refine ⟨hj,λ i hi => ?_⟩
  have := Z9y (List.mem_map.mpr ⟨i,hi,rfl⟩ : (sc.getD i 0,((i : Nat) : Int)) ∈ as.map λ k => (sc.getD k 0,((k : Nat) : Int)))
  rw [<- e] at this
  have := of_decide_eq_false this
  refine ⟨?_,λ z => ?_⟩ <;> simp only [] at this <;> omega
 rw [<- e,hj2.uniq h]
theorem Z8W {m s : Int} {sc : List Int} {said : List (Option Int)} (hs : Q0G m s said) (h0 : 0 <= s) : 0 <= sayV sc said /\ sayV sc said <= s := by
 unfold sayV
 cases e : flx sc (ax said) with
 | none => exact ⟨Int.le_refl _,h0⟩
 | some k =>
  show 0 <= (sat2 said k).getD 0 /\ (sat2 said k).getD 0 <= s
  unfold sat2
  by_cases hk : k < said.length
  ·rw [List.getElem?_eq_getElem hk]
   show 0 <= (said[k]).getD 0 /\ (said[k]).getD 0 <= s
   have hw := hs.2.2 _ (List.getElem_mem hk)
   generalize said[k] = w at hw
   cases w with
   | none => exact ⟨Int.le_refl _,h0⟩
   | some x => exact Q9T (hw.resolve_left (λ z => by cases z))
  ·rw [List.getElem?_eq_none wF]
   exact ⟨Int.le_refl _,h0⟩
def rouF (m s : Int) (ins : List Bool) (ov : Int) : List (Str × D) := [("many",.int m),("scale",.int s),("inside",.tup (ins.map D.bl)),("over",.int ov)]
def b2i (b : Bool) : Int := if b = true then 1 else 0
def r2 (m s : Int) : List (Str × D) := [("many",.int m),("scale",.int s)]
def r3 (m s : Int) (d : D) : List (Str × D) := [("many",.int m),("scale",.int s),("inside",d)]
theorem Y0G (m s : Int) (d : D) : putD "inside" d (r2 m s) = r3 m s d := by
 unfold r2
 rw [Q0o wD,Q0o wD]
 rfl
theorem Y0F (m s ov : Int) (ins : List Bool) : putD "over" (.int ov) (r3 m s (.tup (ins.map D.bl))) = rouF m s ins ov := by
 unfold r3
 rw [Q0o wD,Q0o wD,Q0o wD]
 rfl
theorem Z4L (m s ov : Int) (ins js : List Bool) : putD "inside" (.tup (js.map D.bl)) (rouF m s ins ov) = rouF m s js ov := by
 unfold rouF
 rw [Q0o wD,Q0o wD,Q5a]
theorem Z8Z (m s ov o2 : Int) (ins : List Bool) : putD "over" (.int o2) (rouF m s ins ov) = rouF m s ins o2 := by
 unfold rouF
 rw [Q0o wD,Q0o wD,Q0o wD,Q5a]
section
variable (m s ov : Int) (ins : List Bool)
theorem Q6q : (rouF m s ins ov).lookup ("many" : Str) = some (.int m) := Q1f
theorem Q5B : (rouF m s ins ov).lookup ("scale" : Str) = some (.int s) := by unfold rouF; rw [Q0r wD,Q1f]
theorem Q9M : (rouF m s ins ov).lookup ("inside" : Str) = some (.tup (ins.map D.bl)) := by unfold rouF; rw [Q0r wD,Q0r wD,Q1f]
theorem Z9b : (rouF m s ins ov).lookup ("over" : Str) = some (.int ov) := by unfold rouF; rw [Q0r wD,Q0r wD,Q0r wD,Q1f]
theorem Z7d {f : Str} (h : ([("many" : Str),"scale","inside","over"].all λ g => !(f == g)) = true) : (rouF m s ins ov).lookup f = none := by
 simp only [List.all_cons,List.all_nil,Bool.and_true,Bool.and_eq_true,Bool.not_eq_true'] at h
 obtain ⟨h1,h2,h3,h4⟩ := h
 unfold rouF
 rw [Q0r h1,Q0r h2,Q0r h3,Q0r h4]
 rfl
end
def RAt (CK2 : Addr) (O : Sto) (q : Nat) (m s : Int) (ins : List Bool) (ov : Int) : Prop := O[q]? = some (some (.ins CK2 (rouF m s ins ov)))
def Q8T (said : List (Option Int)) (so : Int) (ins : List Bool) : List Bool := (ins.zip said).map λ p => p.1 && decide (chg p.2 so = 0)
def Z3v (said : List (Option Int)) (so : Int) (ins : List Bool) : List Bool := if (Q8T said so ins).any id = true then Q8T said so ins else List.replicate ins.length true
def Z9w (said : List (Option Int)) (so : Int) (ins : List Bool) (ov : Int) : Int := if (Q8T said so ins).any id = true then ov else ov + 1
def wsR (ins : List Bool) : List Int := ins.map b2i
theorem Z8f (ins : List Bool) : Wok (wsR ins) := λ w h => by
 obtain ⟨b,_,rfl⟩ := List.mem_map.mp h
 unfold b2i
 split <;> decide
theorem Z9G (ins : List Bool) : (ins.map λ q => if q = true then D.int 1 else D.int 0) = (wsR ins).map D.int := by
 unfold wsR
 rw [List.map_map]
 refine List.map_congr_left λ b _ => ?_
 show (if b = true then D.int 1 else D.int 0) = D.int (b2i b)
 unfold b2i
 cases b <;> rfl
theorem Z0f {said : List (Option Int)} {so : Int} {ins : List Bool} (h : ins.length = said.length) : (Q8T said so ins).length = ins.length := by
 unfold Q8T
 rw [List.length_map,List.length_zip]
 omega
theorem Z5k {said : List (Option Int)} {so : Int} {ins : List Bool} (h : ins.length = said.length) : (Z3v said so ins).length = ins.length := by
 unfold Z3v
 split
 ·exact Z0f h
 ·rw [List.length_replicate]
theorem Y0r (n : Nat) : (List.replicate n [D.bl true]).flatten = (List.replicate n true).map D.bl := by rw [rep1,List.map_replicate]
def Q5Q (CK2 : Addr) : SpD := λ ds O R => ∃ (q : Nat) (m s : Int),ds = [.ptr q,.int m,.int s] /\ O[q]? = some (some (.ins CK2 [])) /\ (1 <= m /\ m <= 24) /\ (1 <= s /\ s <= 10) /\ R .non (O.set q (some (.ins CK2 (rouF m s (List.replicate m.toNat true) 0))))
def Q8r (CK2 : Addr) : SpD := λ ds O R => ∃ (q : Nat) (m s ov : Int) (ins : List Bool),ds = [.ptr q] /\ RAt CK2 O q m s ins ov /\ ins.length <= 24 /\ R (.tup ((wsR ins).map D.int)) O
def Q2C (CK2 : Addr) : SpD := λ ds O R => ∃ (q : Nat) (m s ov so : Int) (ins : List Bool) (said : List (Option Int)),ds = [.ptr q,.tup (said.map od),.int so] /\ RAt CK2 O q m s ins ov /\ (1 <= m /\ m <= 24) /\ Q0G m s said /\ (0 <= so /\ so <= s) /\ (ins.length : Int) = m /\ R .non (O.set q (some (.ins CK2 (rouF m s (Z3v said so ins) (Z9w said so ins ov)))))
def Q3c (CK2 : Addr) : SpD := λ ds O R => ∃ (q : Nat) (m s ov : Int) (ins : List Bool),ds = [.ptr q] /\ RAt CK2 O q m s ins ov /\ (1 <= m /\ m <= 24) /\ (1 <= s /\ s <= 10) /\ R (.ptr O.length) (O ++ [some (.ins CK2 (rouF m s (List.replicate m.toNat true) 0))])
theorem Z9F {m s : Int} {f : Str} (h : ([("many" : Str),"scale"].all λ g => !(f == g)) = true) : (Q1v m s).lookup f = none := by
 simp only [List.all_cons,List.all_nil,Bool.and_true,Bool.and_eq_true,Bool.not_eq_true'] at h
 unfold Q1v
 rw [Q0r h.1,Q0r h.2]
 rfl
def Q2D (CK1 : Addr) : SpD := λ ds O R => ∃ (q : Nat) (m sc so : Int) (said : List (Option Int)),ds = [.ptr q,.tup (said.map od),.int so] /\ O[q]? = some (some (.ins CK1 (Q1v m sc))) /\ Q0G m sc said /\ (0 <= so /\ so <= sc) /\ R .non O
def Q3d (CK1 : Addr) : SpD := λ ds O R => ∃ (q : Nat) (m sc : Int),ds = [.ptr q] /\ O[q]? = some (some (.ins CK1 (Q1v m sc))) /\ (1 <= m /\ m <= 24) /\ (1 <= sc /\ sc <= 10) /\ R (.ptr O.length) (O ++ [some (.ins CK1 (Q1v m sc))])
def Q2a : List D -> D -> Prop := λ ds d => ∃ (m : Nat) (s : Int) (ts : List Tn),ds = [.int (m : Nat),.int s,.tup (ts.map tD)] /\ m <= 24 /\ (∀ t ∈ ts,TnOk m s t) /\ d = .non
theorem Z6Y {O : Sto} {q : Nat} {x : Option MO} (h : O[q]? = some x) : O.set q x = O := by
 refine List.ext_getElem? λ i => ?_
 by_cases z : q = i
 ·subst z
  rw [Q1h h]
  exact h.symm
 ·rw [List.getElem?_set_ne z]
def Q1t (isC : Addr -> Prop) : SpD := λ ds O R => ∃ (q : Nat) (m s : Int) (C : Addr),ds = [.ptr q,.int m,.int s] /\ isC C /\ O[q]? = some (some (.ins C [])) /\ (1 <= m /\ m <= 24) /\ (1 <= s /\ s <= 10) /\ R .non (O.set q (some (.ins C (Q1v m s))))
def Q0E (CH CW CS CR : Addr) : SpD := λ ds O R => ∃ (q : Nat) (m s : Int) (ws : List Int) (said : List (Option Int)),ds = [.ptr q,.tup (said.map od)] /\ ((O[q]? = some (some (.ins CH (Q1v m s))) /\ ws = List.replicate m.toNat 1) \/ (∃ sf p u,VAt CW CS O q sf p ws u /\ p.m = m /\ p.sc = s) \/ ∃ ins ov,RAt CR O q m s ins ov /\ ws = wsR ins) /\ (1 <= m /\ m <= 24) /\ Q0G m s said /\ (ws.length : Int) = m /\ Wok ws /\ R (.int (midA said ws)) O
inductive Hv where
 | h | v (sf : Bool) (p : SP) (ws : List Int) (u : Int) | r (ins : List Bool) (ov : Int) | f (ps sc : List Int)
def hvO (CH CW CS CR CF : Addr) (m s : Int) : Hv -> MO
 | .h => .ins CH (Q1v m s)
 | .v sf p ws u => .ins (wsC CW CS sf) (wsF sf p ws u)
 | .r ins ov => .ins CR (rouF m s ins ov)
 | .f ps sc => .ins CF (folF m s ps sc)
def HvOk (n m : Nat) (s : Int) : Hv -> Prop
 | .h => True
 | .v sf p ws u => VOk sf p /\ p.m = (m : Nat) /\ p.sc = s /\ WOkS n ws u /\ ws.length = m
 | .r ins _ => ins.length = m
 | .f ps sc => Q6V (m : Nat) ps /\ sc.length = m
def sayH (m : Nat) (said : List (Option Int)) : Hv -> Int
 | .h => midA said (List.replicate m 1)
 | .v _ _ ws _ => midA said ws
 | .r ins _ => midA said (wsR ins)
 | .f _ sc => sayV sc said
def Z7A (said : List (Option Int)) (so : Int) : Hv -> Hv
 | .h => .h
 | .v sf p ws u => .v sf p (hrW sf p said so ws) (hrU sf p said so ws u)
 | .r ins ov => .r (Z3v said so ins) (Z9w said so ins ov)
 | .f ps sc => .f ps (Z3u said so sc)
def Z3L (m : Nat) : Hv -> Hv
 | .h => .h
 | .v sf p _ _ => .v sf p (List.replicate m 1) 1
 | .r _ _ => .r (List.replicate m true) 0
 | .f ps _ => .f ps ps
theorem HvOk.hear {n m : Nat} {s so : Int} {said : List (Option Int)} {v : Hv} (h : HvOk n m s v) (hs : Q0G (m : Nat) s said) (hso : 0 <= so /\ so <= s) : HvOk (n + 1) m s (Z7A said so v) := by
 have hl := hs.1
 cases v with
 | h => exact h
 | v sf p ws u =>
  obtain ⟨h1,h2,h3,h4,h5⟩ := h
  obtain ⟨g1,g2⟩ := hr_ok h1 h4 (by rw [h2,h5]) (by rw [h2,h3]; exact hs) (by rw [h3]; exact hso)
  exact ⟨h1,h2,h3,g1,by have := g2.trans h2; omega⟩
 | r ins ov =>
  have h : ins.length = m := h
  show (Z3v said so ins).length = m
  rw [Z5k wF]; exact h
 | f ps sc => exact ⟨h.1,by rw [Z5j (by have := h.2; omega)]; exact h.2⟩
theorem HvOk.anew {n m : Nat} {s : Int} {v : Hv} (h : HvOk n m s v) : HvOk 0 m s (Z3L m v) := by
 cases v with
 | h => exact h
 | v sf p ws u => exact ⟨h.1,h.2.1,h.2.2.1,Q5K m,List.length_replicate⟩
 | r ins ov => exact List.length_replicate
 | f ps sc => exact ⟨h.1,by have := h.1.1; omega⟩
theorem Z8X {n m : Nat} {s : Int} {said : List (Option Int)} {v : Hv} (h : HvOk n m s v) (hs : Q0G (m : Nat) s said) (h0 : 0 <= s) : 0 <= sayH m said v /\ sayH m said v <= s := by
 cases v with
 | h => exact Q3W hs h0 (λ w hw => by rw [List.eq_of_mem_replicate hw]; decide)
 | v sf p ws u => exact Q3W hs h0 (λ w hw => (h.2.2.2.1.w w hw).1)
 | r ins ov => exact Q3W hs h0 (Z8f ins)
 | f ps sc => exact Z8W hs h0
section
variable {X : Cx} {ρ : Rho} {O : Sto} {CH CW CS CR CF : Addr} {o e e2 : Expr} {q n m k1 k2 k3 k4 k6 : Nat} {s so : Int} {v : Hv} {said : List (Option Int)} {R : D -> Sto -> Prop} {pos apos : Pos}
theorem Z5H {pl : Sem Bool} (M1 : Q0e X.prog X.w X.K X.mg X.base CH k1 "say" (Q0E CH CW CS CR)) (M2 : Q0e X.prog X.w X.K X.mg X.base CW k1 "say" (Q0E CH CW CS CR)) (M3 : Q0e X.prog X.w X.K X.mg X.base CS k1 "say" (Q0E CH CW CS CR)) (M4 : Q0e X.prog X.w X.K X.mg X.base CR k1 "say" (Q0E CH CW CS CR)) (r1 : Room k1 X.A) (M6 : Q0e X.prog X.w X.K X.mg X.base CF k6 "say" (Q4e CF)) (r6 : Room k6 X.A)
  (ho : EvP X ρ O o (.ptr q)) (hq : O[q]? = some (some (hvO CH CW CS CR CF (m : Nat) s v))) (hok : HvOk n m s v) (hm : 1 <= m /\ m <= 24) (hs : Q0G (m : Nat) s said) (ha : EvPs X ρ O [e] [.tup (said.map od)])
  (hst : starEach [e] X.env = (false,eval e X.env) :: starEach [] X.env := by rfl) (hpl : (backTo pos (starEach [] X.env)).any (·.1) = false := by rfl)
  (ht : eval (.Call (.Attribute o "say" apos) [e] [] pos) X.env = (do
   let ov <- eval o X.env
   standAt apos.atName
   let (f,first) <- holding [ov] (getMethod ov "say" pl)
   callWith pos f first (backTo pos (starEach [e] X.env)) (backToKw pos (keywordEach [] X.env))) := by rfl) : EvP X ρ O (.Call (.Attribute o "say" apos) [e] [] pos) (.int (sayH m said v)) := by
 have hmI : (1 : Int) <= (m : Nat) /\ ((m : Nat) : Int) <= 24 := ⟨by omega,by omega⟩
 cases v with
 | h => exact Ev.evp (Q1e M1 r1 ho hq (Z9F wD) ha ⟨q,(m : Nat),s,List.replicate m 1,said,rfl,.inl ⟨hq,by rw [Int.toNat_natCast]⟩,hmI,hs,by rw [List.length_replicate],(λ w hw => by rw [List.eq_of_mem_replicate hw]; decide),rfl,rfl⟩ hst hpl ht)
 | v sf p ws u => exact Ev.evp (Q1e (mv M2 M3 sf) r1 ho hq (Z2O _ _ _ _ wD wD) ha ⟨q,(m : Nat),s,ws,said,rfl,.inr (.inl ⟨sf,p,u,hq,hok.2.1,hok.2.2.1⟩),hmI,hs,by rw [hok.2.2.2.2],(λ w hw => (hok.2.2.2.1.w w hw).1),rfl,rfl⟩ hst hpl ht)
 | r ins ov => exact Ev.evp (Q1e M4 r1 ho hq (Z7d _ _ _ _ wD) ha ⟨q,(m : Nat),s,wsR ins,said,rfl,.inr (.inr ⟨ins,ov,hq,rfl⟩),hmI,hs,by have h : ins.length = m := hok; rw [show (wsR ins).length = ins.length from List.length_map ..,h],Z8f ins,rfl,rfl⟩ hst hpl ht)
 | f ps sc => exact Ev.evp (Q1e M6 r6 ho hq (Z9N _ _ _ _ wD) ha ⟨q,(m : Nat),s,ps,sc,said,rfl,hq,hmI,hs,by rw [hok.2],rfl,rfl⟩ hst hpl ht)
theorem Z2u {pl : Sem Bool} (M1 : Q0e X.prog X.w X.K X.mg X.base CH k1 "hear" (Q2D CH)) (M2 : Q0e X.prog X.w X.K X.mg X.base CW k2 "hear" (Q0K CW CS false)) (M3 : Q0e X.prog X.w X.K X.mg X.base CS k3 "hear" (Q0K CW CS true)) (M4 : Q0e X.prog X.w X.K X.mg X.base CR k4 "hear" (Q2C CR)) (r1 : Room k1 X.A) (r2 : Room (max k2 k3) X.A) (r3 : Room k4 X.A) (M6 : Q0e X.prog X.w X.K X.mg X.base CF k6 "hear" (Q2E CF)) (r6 : Room k6 X.A)
  (ho : EvP X ρ O o (.ptr q)) (hq : O[q]? = some (some (hvO CH CW CS CR CF (m : Nat) s v))) (hok : HvOk n m s v) (hn : n <= 1000) (hm : 1 <= m /\ m <= 24) (hs : Q0G (m : Nat) s said) (hso : 0 <= so /\ so <= s) (ha : EvPs X ρ O [e,e2] [.tup (said.map od),.int so]) (hR : R .non (O.set q (some (hvO CH CW CS CR CF (m : Nat) s (Z7A said so v)))))
  (hst : starEach [e,e2] X.env = (false,eval e X.env) :: starEach [e2] X.env := by rfl) (hpl : (backTo pos (starEach [e2] X.env)).any (·.1) = false := by rfl)
  (ht : eval (.Call (.Attribute o "hear" apos) [e,e2] [] pos) X.env = (do
   let ov <- eval o X.env
   standAt apos.atName
   let (f,first) <- holding [ov] (getMethod ov "hear" pl)
   callWith pos f first (backTo pos (starEach [e,e2] X.env)) (backToKw pos (keywordEach [] X.env))) := by rfl) : Ev X ρ O (.Call (.Attribute o "hear" apos) [e,e2] [] pos) R := by
 have hmI : (1 : Int) <= (m : Nat) /\ ((m : Nat) : Int) <= 24 := ⟨by omega,by omega⟩
 cases v with
 | h =>
  have hR : R .non (O.set q (some (hvO CH CW CS CR CF (m : Nat) s .h))) := hR
  rw [Z6Y hq] at hR
  exact Q1e M1 r1 ho hq (Z9F wD) ha ⟨q,(m : Nat),s,so,said,rfl,hq,hs,hso,hR⟩ hst hpl ht
 | v sf p ws u => exact Q1e (mv2 (sq := Q0K CW CS) M2 M3 sf) r2 ho hq (Z2O _ _ _ _ wD wD) ha ⟨q,n,p,u,so,said,ws,rfl,hq,hok.1,hn,hok.2.2.2.1,by rw [hok.2.2.2.2,hok.2.1],by rw [hok.2.1,hok.2.2.1]; exact hs,by rw [hok.2.2.1]; exact hso,hR⟩ hst hpl ht
 | r ins ov => exact Q1e M4 r3 ho hq (Z7d _ _ _ _ wD) ha ⟨q,(m : Nat),s,ov,so,ins,said,rfl,hq,hmI,hs,hso,by have h : ins.length = m := hok; rw [h],hR⟩ hst hpl ht
 | f ps sc => exact Q1e M6 r6 ho hq (Z9N _ _ _ _ wD) ha ⟨q,(m : Nat),s,so,ps,sc,said,rfl,hq,hmI,hs,hso,by rw [hok.2],hR⟩ hst hpl ht
theorem Z2w {pl : Sem Bool} (M1 : Q0e X.prog X.w X.K X.mg X.base CH k1 "anew" (Q3d CH)) (M2 : Q0e X.prog X.w X.K X.mg X.base CW k2 "anew" (Q0T CW CS false)) (M3 : Q0e X.prog X.w X.K X.mg X.base CS k3 "anew" (Q0T CW CS true)) (M4 : Q0e X.prog X.w X.K X.mg X.base CR k4 "anew" (Q3c CR)) (r1 : Room k1 X.A) (r2 : Room (max k2 k3) X.A) (r3 : Room k4 X.A) (M6 : Q0e X.prog X.w X.K X.mg X.base CF k6 "anew" (Q3e CF)) (r6 : Room k6 X.A)
  (ho : EvP X ρ O o (.ptr q)) (hq : O[q]? = some (some (hvO CH CW CS CR CF (m : Nat) s v))) (hok : HvOk n m s v) (hm : 1 <= m /\ m <= 24) (hs : 1 <= s /\ s <= 10) (hR : R (.ptr O.length) (O ++ [some (hvO CH CW CS CR CF (m : Nat) s (Z3L m v))]))
  (ht : eval (.Call (.Attribute o "anew" apos) [] [] pos) X.env = (do
   let ov <- eval o X.env
   standAt apos.atName
   let (f,first) <- holding [ov] (getMethod ov "anew" pl)
   callWith pos f first (backTo pos (starEach [] X.env)) (backToKw pos (keywordEach [] X.env))) := by rfl) : Ev X ρ O (.Call (.Attribute o "anew" apos) [] [] pos) R := by
 have hmI : (1 : Int) <= (m : Nat) /\ ((m : Nat) : Int) <= 24 := ⟨by omega,by omega⟩
 cases v with
 | h => exact Q1m M1 r1 ho hq (Z9F wD) ⟨q,(m : Nat),s,rfl,hq,hmI,hs,hR⟩ ht
 | v sf p ws u => exact Q1m (mv2 (sq := Q0T CW CS) M2 M3 sf) r2 ho hq (Z2O _ _ _ _ wD wD) ⟨q,p,u,ws,rfl,hq,hok.1,by rw [hok.2.1,Int.toNat_natCast]; exact hR⟩ ht
 | r ins ov => exact Q1m M4 r3 ho hq (Z7d _ _ _ _ wD) ⟨q,(m : Nat),s,ov,ins,rfl,hq,hmI,hs,by rw [Int.toNat_natCast]; exact hR⟩ ht
 | f ps sc => exact Q1m M6 r6 ho hq (Z9N _ _ _ _ wD) ⟨q,(m : Nat),s,ps,sc,rfl,hq,hmI,hs,hok.1,hR⟩ ht
theorem Z7E (c1 : Cls X.K CH) (c2 : Cls X.K CW) (c3 : Cls X.K CS) (c4 : Cls X.K CR) (n1 : Q0l X.K CH "many") (n2 : Q0l X.K CW "many") (n3 : Q0l X.K CS "many") (n4 : Q0l X.K CR "many") (c6 : Cls X.K CF) (n6 : Q0l X.K CF "many") (ho : EvP X ρ O o (.ptr q)) (hq : O[q]? = some (some (hvO CH CW CS CR CF (m : Nat) s v))) (hok : HvOk n m s v) (hb : attributeBase o ("many" : Str) X.env (eval o X.env) = eval o X.env := by rfl) : EvP X ρ O (.Attribute o "many" pos) (.int (m : Nat)) := by
 cases v with
 | h => exact Q0n ho hq c1 n1 (Q6N _ _) hb
 | v sf p ws u => rw [<- hok.2.1]; exact Q0n ho hq (cv c2 c3 sf) (nv n2 n3 sf) (Z4b _ _ _ _) hb
 | r ins ov => exact Q0n ho hq c4 n4 (Q6q _ _ _ _) hb
 | f ps sc => exact Q0n ho hq c6 n6 (Q8Y _ _ _ _) hb
theorem Z5G (c1 : Cls X.K CH) (c2 : Cls X.K CW) (c3 : Cls X.K CS) (c4 : Cls X.K CR) (n1 : Q0l X.K CH "scale") (n2 : Q0l X.K CW "scale") (n3 : Q0l X.K CS "scale") (n4 : Q0l X.K CR "scale") (c6 : Cls X.K CF) (n6 : Q0l X.K CF "scale") (ho : EvP X ρ O o (.ptr q)) (hq : O[q]? = some (some (hvO CH CW CS CR CF (m : Nat) s v))) (hok : HvOk n m s v) (hb : attributeBase o ("scale" : Str) X.env (eval o X.env) = eval o X.env := by rfl) : EvP X ρ O (.Attribute o "scale" pos) (.int s) := by
 cases v with
 | h => exact Q0n ho hq c1 n1 (Q5E _ _) hb
 | v sf p ws u => rw [<- hok.2.2.1]; exact Q0n ho hq (cv c2 c3 sf) (nv n2 n3 sf) (Q5t _ _ _ _) hb
 | r ins ov => exact Q0n ho hq c4 n4 (Q5B _ _ _ _) hb
 | f ps sc => exact Q0n ho hq c6 n6 (Q5F _ _ _ _) hb
theorem Z9S {k : Bool} {x : Str} {C2 : Addr} {p p2 : Pos} (hm : X.mg "isinstance" = none) (he : EvP X ρ O e (.ptr q)) (hq : O[q]? = some (some (hvO CH CW CS CR CF (m : Nat) s v))) (t1 : Q1Z X.K CH) (t2 : Q1Z X.K CW) (t3 : Q1Z X.K CS) (t4 : Q1Z X.K CR) (hx : X.mg x = some (.ref C2)) (k1 : PySem.W.kitOne X.K (.ref CH) (.ref C2) = some k) (k2 : PySem.W.kitOne X.K (.ref CW) (.ref C2) = some k) (k3 : PySem.W.kitOne X.K (.ref CS) (.ref C2) = some k) (k4 : PySem.W.kitOne X.K (.ref CR) (.ref C2) = some k) (t6 : Q1Z X.K CF) (k6' : PySem.W.kitOne X.K (.ref CF) (.ref C2) = some k)
  (hg : Gl X "isinstance" := by rfl) (hgx : Gl X x := by rfl) (hdx : (x == ("__debug__" : Str)) = false := by decide) (hs : starEach [e,.Name x p2] X.env = (false,eval e X.env) :: starEach [.Name x p2] X.env := by rfl) (hpl : (backTo pos (starEach [.Name x p2] X.env)).any (·.1) = false := by rfl) :
  EvP X ρ O (.Call (.Name "isinstance" p) [e,.Name x p2] [] pos) (.bl k) := by
 cases v with
 | h => exact Q3I hm he hq t1 hx k1 hg hgx hdx hs hpl
 | v sf p ws u =>
  cases sf
  ·exact Q3I hm he hq t2 hx k2 hg hgx hdx hs hpl
  ·exact Q3I hm he hq t3 hx k3 hg hgx hdx hs hpl
 | r ins ov => exact Q3I hm he hq t4 hx k4 hg hgx hdx hs hpl
 | f ps sc => exact Q3I hm he hq t6 hx k6' hg hgx hdx hs hpl
end
def tieG (m s : Int) (d e : D) : List (Str × D) := [("many",.int m),("scale",.int s),("hands",d),("head",e)]
def tieH (m s : Int) (d : D) : List (Str × D) := [("many",.int m),("scale",.int s),("hands",d)]
theorem Z4Q (m s : Int) (d : D) : putD "hands" d (Q1v m s) = tieH m s d := by
 unfold Q1v
 rw [Q0o wD,Q0o wD]
 rfl
theorem Z7f (m s : Int) (d e : D) : putD "head" e (tieH m s d) = tieG m s d e := by
 unfold tieH
 rw [Q0o wD,Q0o wD,Q0o wD]
 rfl
section
variable (m s : Int) (q n : Nat) (ch : List Int)
end
theorem Z2G {O Y : Sto} {i : Nat} {x : Option MO} (h : O[i]? = some x) : (O ++ Y)[i]? = some x := by rw [List.getElem?_append_left (List.getElem?_eq_some_iff.mp h).1]; exact h
theorem Z2l {A Z : Sto} {x : Option MO} : (A ++ [x] ++ Z)[A.length]? = some x := by rw [List.append_assoc,List.getElem?_append_right (Nat.le_refl _),Nat.sub_self]; rfl
theorem Z1l {A Z : Sto} {x y : Option MO} : (A ++ [x] ++ Z).set A.length y = A ++ [y] ++ Z := by rw [List.append_assoc,List.set_append_right (h := Nat.le_refl _),Nat.sub_self,List.append_assoc]; rfl
theorem Q4P {α : Type} (l : List α) (d : α) : (List.range l.length).map (λ i => l.getD i d) = l := by
 refine List.ext_getElem? λ i => ?_
 rw [List.getElem?_map]
 by_cases hi : i < l.length
 ·rw [List.getElem?_range hi,List.getElem?_eq_getElem hi]
  show some (l.getD i d) = _
  rw [List.getD_eq_getElem?_getD,List.getElem?_eq_getElem hi]; rfl
 ·rw [List.getElem?_eq_none (by rw [List.length_range]; omega),List.getElem?_eq_none wF]; rfl
structure Cs where
 h : Addr
 w : Addr
 s : Addr
 r : Addr
 t : Addr
 f : Addr
def Cs.o (C : Cs) (m s : Int) (v : Hv) : MO := hvO C.h C.w C.s C.r C.f m s v
structure TOk (n m : Nat) (s : Int) (hs : List Hv) (hd : Hv) (ch : List Int) : Prop where
 h : ∀ v ∈ hs,HvOk n m s v
 d : HvOk n hs.length s hd
 l1 : 1 <= hs.length
 l2 : hs.length <= 24
 c : ch.length = hs.length
def asS (l : List Int) : List (Option Int) := l.map some
theorem Z6r (l : List Int) : (asS l).map od = l.map D.int := by unfold asS; rw [List.map_map]; rfl
inductive Hx where
 | p (v : Hv) | t (hs : List Hv) (hd : Hv) (ch : List Int)
def HOk (n m : Nat) (s : Int) : Hx -> Prop
 | .p v => HvOk n m s v
 | .t hs hd ch => TOk n m s hs hd ch
structure BlX (q k : Nat) (O O' : Sto) : Prop where
 l : O'.length = O.length
 o : ∀ j,j < q \/ q + k <= j -> O'[j]? = O[j]?
section
variable {X : Cx} {ρ : Rho} {O : Sto} {C : Cs} {o e e2 : Expr} {q n m k1 k2 k3 k4 k5 k6 : Nat} {s so : Int} {x : Hx} {said : List (Option Int)} {R : D -> Sto -> Prop} {pos apos : Pos}
end
def tnX (ts : List Tn) (k : Nat) : Tn := ts.getD k ([],0)
theorem Q7L {ts : List Tn} {k : Nat} {t : Tn} (h : ts[k]? = some t) : tnX ts k = t := by unfold tnX; rw [List.getD_eq_getElem?_getD,h]; rfl
inductive Hn where
 | p (v : Hv) | t (hs : List Hn) (hd : Hn) (ch : List Int)
mutual
def sizN : Hn -> Nat
 | .p _ => 1
 | .t hs hd _ => 1 + Q0t hs + sizN hd
def Q0t : List Hn -> Nat
 | [] => 0
 | x :: xs => sizN x + Q0t xs
end
mutual
def depN : Hn -> Nat
 | .p _ => 0
 | .t hs hd _ => 1 + max (Q3r hs) (depN hd)
def Q3r : List Hn -> Nat
 | [] => 0
 | x :: xs => max (depN x) (Q3r xs)
end
mutual
def sayN : Hn -> Nat -> List (Option Int) -> Int
 | .p v,m,said => sayH m said v
 | .t hs hd _,m,said => sayN hd hs.length (asS (Q1K hs m said))
def Q1K : List Hn -> Nat -> List (Option Int) -> List Int
 | [],_,_ => []
 | x :: xs,m,said => sayN x m said :: Q1K xs m said
end
mutual
def Q1n : Hn -> Nat -> List (Option Int) -> Int -> Hn
 | .p v,_,said,so => .p (Z7A said so v)
 | .t hs hd ch,m,said,so => .t (Q1o hs m said so) (Q1n hd hs.length (asS (Q1K hs m said)) so) ((ch.zip (Q1K hs m said)).map λ x => x.1 + ab (x.2 - so))
def Q1o : List Hn -> Nat -> List (Option Int) -> Int -> List Hn
 | [],_,_,_ => []
 | x :: xs,m,said,so => Q1n x m said so :: Q1o xs m said so
end
mutual
def Q0D : Hn -> Nat -> Hn
 | .p v,m => .p (Z3L m v)
 | .t hs hd _,m => .t (Q0Z hs m) (Q0D hd hs.length) (List.replicate hs.length 0)
def Q0Z : List Hn -> Nat -> List Hn
 | [],_ => []
 | x :: xs,m => Q0D x m :: Q0Z xs m
end
def offN : List Hn -> Nat -> List Nat
 | [],_ => []
 | x :: xs,q => q :: offN xs (q + sizN x)
def tieN (m s : Int) (ps : List Nat) (h : Nat) (ch : List Int) : List (Str × D) := [("many",.int m),("scale",.int s),("hands",.tup (ps.map D.ptr)),("head",.ptr h),("charged",.tup (ch.map D.int))]
mutual
def NAt (C : Cs) (O : Sto) : Hn -> Nat -> Nat -> Int -> Prop
 | .p v,q,m,s => O[q]? = some (some (C.o (m : Nat) s v))
 | .t hs hd ch,q,m,s => O[q]? = some (some (.ins C.t (tieN (m : Nat) s (offN hs (q + 1)) (q + 1 + Q0t hs) ch))) /\ NAts C O hs (q + 1) m s /\ NAt C O hd (q + 1 + Q0t hs) hs.length s
def NAts (C : Cs) (O : Sto) : List Hn -> Nat -> Nat -> Int -> Prop
 | [],_,_,_ => True
 | x :: xs,q,m,s => NAt C O x q m s /\ NAts C O xs (q + sizN x) m s
end
mutual
def NOk (n : Nat) : Hn -> Nat -> Int -> Prop
 | .p v,m,s => HvOk n m s v
 | .t hs hd ch,m,s => NOks n hs m s /\ NOk n hd hs.length s /\ (1 <= hs.length /\ hs.length <= 24) /\ ch.length = hs.length
def NOks (n : Nat) : List Hn -> Nat -> Int -> Prop
 | [],_,_ => True
 | x :: xs,m,s => NOk n x m s /\ NOks n xs m s
end
mutual
theorem Q3f : ∀ (x : Hn) (m : Nat) (said : List (Option Int)) (so : Int),sizN (Q1n x m said so) = sizN x
 | .p v,_,_,_ => by simp only [Q1n,sizN]
 | .t hs hd ch,m,said,so => by simp only [Q1n,sizN]; rw [Q2t hs,Q3f hd]
theorem Q2t : ∀ (xs : List Hn) (m : Nat) (said : List (Option Int)) (so : Int),Q0t (Q1o xs m said so) = Q0t xs
 | [],_,_,_ => by simp only [Q1o,Q0t]
 | x :: xs,m,said,so => by simp only [Q1o,Q0t]; rw [Q3f x,Q2t xs]
end
mutual
theorem Q4i : ∀ (x : Hn) (m : Nat),sizN (Q0D x m) = sizN x
 | .p v,_ => by simp only [Q0D,sizN]
 | .t hs hd ch,m => by simp only [Q0D,sizN]; rw [Q7Q hs,Q4i hd]
theorem Q7Q : ∀ (xs : List Hn) (m : Nat),Q0t (Q0Z xs m) = Q0t xs
 | [],_ => by simp only [Q0Z,Q0t]
 | x :: xs,m => by simp only [Q0Z,Q0t]; rw [Q4i x,Q7Q xs]
end
theorem Q4t : ∀ (xs : List Hn) (m : Nat) (said : List (Option Int)),(Q1K xs m said).length = xs.length
 | [],_,_ => rfl
 | x :: xs,m,said => by simp only [Q1K,List.length_cons]; rw [Q4t xs]
theorem Q4U : ∀ (xs : List Hn) (m : Nat) (said : List (Option Int)) (so : Int),(Q1o xs m said so).length = xs.length
 | [],_,_,_ => rfl
 | x :: xs,m,said,so => by simp only [Q1o,List.length_cons]; rw [Q4U xs]
theorem Q1r : ∀ (xs : List Hn) (m : Nat),(Q0Z xs m).length = xs.length
 | [],_ => rfl
 | x :: xs,m => by simp only [Q0Z,List.length_cons]; rw [Q1r xs]
theorem Z5g : ∀ (xs : List Hn) (q : Nat),(offN xs q).length = xs.length
 | [],_ => rfl
 | x :: xs,q => by simp only [offN,List.length_cons]; rw [Z5g xs]
theorem Q5V (x : Hn) : 1 <= sizN x := by cases x <;> simp only [sizN] <;> omega
theorem Z0a : ∀ (xs ys : List Hn) (q : Nat),xs.map sizN = ys.map sizN -> offN xs q = offN ys q
 | [],[],_,_ => rfl
 | [],y :: ys,_,h => by cases h
 | x :: xs,[],_,h => by cases h
 | x :: xs,y :: ys,q,h => by
  injection h with h1 h2
  simp only [offN]
  rw [h1,Z0a xs ys _ h2]
theorem Z8r : ∀ (xs : List Hn) (q i : Nat),i < xs.length -> (offN xs q)[i]? = some (q + Q0t (xs.take i))
 | [],_,_,h => absurd h (Nat.not_lt_zero _)
 | x :: xs,q,0,_ => by simp [offN,Q0t]
 | x :: xs,q,i + 1,h => by
  simp only [offN,List.getElem?_cons_succ,List.take_succ_cons,Q0t]
  rw [Z8r xs _ i (by simpa using h),Nat.add_assoc]
theorem Q7d {C : Cs} {O : Sto} {m : Nat} {s : Int} : ∀ (xs : List Hn) (q : Nat),NAts C O xs q m s ↔ ∀ i x,xs[i]? = some x -> NAt C O x (q + Q0t (xs.take i)) m s
 | [],q => by simp [NAts]
 | y :: xs,q => by
  simp only [NAts]
  rw [Q7d xs]
  constructor
  ·rintro ⟨h1,h2⟩ i x hx
   cases i with
   | zero => cases hx; simpa [Q0t] using h1
   | succ i =>
    have := h2 i x (by simpa using hx)
    simp only [List.take_succ_cons,Q0t]
    rw [<- Nat.add_assoc]; exact this
  ·intro h
   refine ⟨by simpa [Q0t] using h 0 y rfl,λ i x hx => ?_⟩
   have := h (i + 1) x (by simpa using hx)
   simp only [List.take_succ_cons,Q0t] at this
   rw [<- Nat.add_assoc] at this; exact this
theorem Q4E {n m : Nat} {s : Int} : ∀ (xs : List Hn),NOks n xs m s ↔ ∀ x ∈ xs,NOk n x m s
 | [] => by simp [NOks]
 | y :: xs => by
  simp only [NOks]
  rw [Q4E xs]
  simp
theorem Z6E {C : Cs} {O O' : Sto} : ∀ (k : Nat),(∀ (x : Hn) (q m : Nat) (s : Int),sizN x <= k -> (∀ j,q <= j -> j < q + sizN x -> O'[j]? = O[j]?) -> NAt C O x q m s -> NAt C O' x q m s) /\ ∀ (xs : List Hn) (q m : Nat) (s : Int),Q0t xs <= k -> (∀ j,q <= j -> j < q + Q0t xs -> O'[j]? = O[j]?) -> NAts C O xs q m s -> NAts C O' xs q m s
 | 0 => by
  refine ⟨λ x q m s h => absurd h (by have := Q5V x; omega),λ xs q m s h hj hN => ?_⟩
  cases xs with
  | nil => simp [NAts]
  | cons x xs => simp only [Q0t] at h; have := Q5V x; omega
 | k + 1 => by
  obtain ⟨ih1,ih2⟩ := Z6E (C := C) (O := O) (O' := O') k
  have one : ∀ (x : Hn) (q m : Nat) (s : Int),sizN x <= k + 1 -> (∀ j,q <= j -> j < q + sizN x -> O'[j]? = O[j]?) -> NAt C O x q m s -> NAt C O' x q m s := λ x q m s h hj hN => by
   cases x with
   | p v =>
    simp only [NAt,sizN] at *
    rw [hj q (Nat.le_refl _) wF]; exact hN
   | t hs hd ch =>
    simp only [NAt,sizN] at *
    have := Q5V hd
    refine ⟨by rw [hj q (Nat.le_refl _) wF]; exact hN.1,ih2 hs _ _ _ wF (λ j h1 h2 => hj j wF wF) hN.2.1,ih1 hd _ _ _ wF (λ j h1 h2 => hj j wF wF) hN.2.2⟩
  refine ⟨one,λ xs q m s h hj hN => ?_⟩
  cases xs with
  | nil => simp [NAts]
  | cons x xs =>
   simp only [NAts,Q0t] at *
   have := Q5V x
   exact ⟨one x _ _ _ wF (λ j h1 h2 => hj j h1 wF) hN.1,ih2 xs _ _ _ wF (λ j h1 h2 => hj j wF wF) hN.2⟩
theorem NAt.own {C : Cs} {O O' : Sto} {x : Hn} {q m : Nat} {s : Int} (h : NAt C O x q m s) (hj : ∀ j,q <= j -> j < q + sizN x -> O'[j]? = O[j]?) : NAt C O' x q m s := (Z6E _).1 x q m s (Nat.le_refl _) hj h
mutual
def layN (C : Cs) : Hn -> Nat -> Nat -> Int -> Sto
 | .p v,_,m,s => [some (C.o (m : Nat) s v)]
 | .t hs hd ch,q,m,s => some (.ins C.t (tieN (m : Nat) s (offN hs (q + 1)) (q + 1 + Q0t hs) ch)) :: (Q1d C hs (q + 1) m s ++ layN C hd (q + 1 + Q0t hs) hs.length s)
def Q1d (C : Cs) : List Hn -> Nat -> Nat -> Int -> Sto
 | [],_,_,_ => []
 | x :: xs,q,m,s => layN C x q m s ++ Q1d C xs (q + sizN x) m s
end
mutual
theorem Q5D (C : Cs) : ∀ (x : Hn) (q m : Nat) (s : Int),(layN C x q m s).length = sizN x
 | .p v,_,_,_ => by simp only [layN,sizN,List.length_cons,List.length_nil]
 | .t hs hd ch,q,m,s => by simp only [layN,sizN,List.length_cons,List.length_append]; rw [Q2v C hs,Q5D C hd]; omega
theorem Q2v (C : Cs) : ∀ (xs : List Hn) (q m : Nat) (s : Int),(Q1d C xs q m s).length = Q0t xs
 | [],_,_,_ => by simp only [Q1d,Q0t,List.length_nil]
 | x :: xs,q,m,s => by simp only [Q1d,Q0t,List.length_append]; rw [Q5D C x,Q2v C xs]
end
mutual
theorem Q6K (C : Cs) : ∀ (x : Hn) (A B : Sto) (m : Nat) (s : Int),NAt C (A ++ layN C x A.length m s ++ B) x A.length m s
 | .p v,A,B,m,s => by simp only [layN,NAt]; exact Z2l
 | .t hs hd ch,A,B,m,s => by
  simp only [layN,NAt]
  generalize hT : (some (MO.ins C.t (tieN (m : Nat) s (offN hs (A.length + 1)) (A.length + 1 + Q0t hs) ch)) : Option MO) = T
  have e1 : A ++ (T :: (Q1d C hs (A.length + 1) m s ++ layN C hd (A.length + 1 + Q0t hs) hs.length s)) ++ B = (A ++ [T]) ++ Q1d C hs (A ++ [T]).length m s ++ (layN C hd (A.length + 1 + Q0t hs) hs.length s ++ B) := by
   rw [show (A ++ [T]).length = A.length + 1 by rw [List.length_append]; rfl]
   simp [List.append_assoc]
  have e2 : A ++ (T :: (Q1d C hs (A.length + 1) m s ++ layN C hd (A.length + 1 + Q0t hs) hs.length s)) ++ B = (A ++ [T] ++ Q1d C hs (A.length + 1) m s) ++ layN C hd (A ++ [T] ++ Q1d C hs (A.length + 1) m s).length hs.length s ++ B := by
   rw [show (A ++ [T] ++ Q1d C hs (A.length + 1) m s).length = A.length + 1 + Q0t hs by rw [List.length_append,List.length_append,Q2v]; rfl]
   simp [List.append_assoc]
  refine ⟨?_,?_,?_⟩
  ·rw [List.append_assoc,List.getElem?_append_right (Nat.le_refl _),Nat.sub_self]
   rfl
  ·have := Z5r C hs (A ++ [T]) (layN C hd (A.length + 1 + Q0t hs) hs.length s ++ B) m s
   rw [<- e1,show (A ++ [T]).length = A.length + 1 by rw [List.length_append]; rfl] at this
   exact this
  ·have := Q6K C hd (A ++ [T] ++ Q1d C hs (A.length + 1) m s) B hs.length s
   rw [<- e2,show (A ++ [T] ++ Q1d C hs (A.length + 1) m s).length = A.length + 1 + Q0t hs by rw [List.length_append,List.length_append,Q2v]; rfl] at this
   exact this
theorem Z5r (C : Cs) : ∀ (xs : List Hn) (A B : Sto) (m : Nat) (s : Int),NAts C (A ++ Q1d C xs A.length m s ++ B) xs A.length m s
 | [],A,B,m,s => by simp only [NAts]
 | x :: xs,A,B,m,s => by
  simp only [Q1d,NAts]
  have e1 : A ++ (layN C x A.length m s ++ Q1d C xs (A.length + sizN x) m s) ++ B = A ++ layN C x A.length m s ++ (Q1d C xs (A.length + sizN x) m s ++ B) := by simp [List.append_assoc]
  have el : (A ++ layN C x A.length m s).length = A.length + sizN x := by rw [List.length_append,Q5D]
  refine ⟨by rw [e1]; exact Q6K C x A _ m s,?_⟩
  have := Z5r C xs (A ++ layN C x A.length m s) B m s
  rw [el] at this
  rw [e1,<- List.append_assoc]
  exact this
end
mutual
theorem NOk.anew {n : Nat} : ∀ (x : Hn) (m : Nat) (s : Int),NOk n x m s -> NOk 0 (Q0D x m) m s
 | .p v,m,s,h => by simp only [NOk,Q0D] at *; exact HvOk.anew h
 | .t hs hd ch,m,s,h => by
  simp only [NOk,Q0D,Q1r,List.length_replicate] at *
  exact ⟨NOks.anew hs m s h.1,NOk.anew hd _ s h.2.1,h.2.2.1,trivial⟩
theorem NOks.anew {n : Nat} : ∀ (xs : List Hn) (m : Nat) (s : Int),NOks n xs m s -> NOks 0 (Q0Z xs m) m s
 | [],_,_,_ => by simp only [Q0Z,NOks]
 | x :: xs,m,s,h => by
  simp only [NOks,Q0Z] at *
  exact ⟨NOk.anew x m s h.1,NOks.anew xs m s h.2⟩
end
mutual
theorem Z0Z {n : Nat} : ∀ (x : Hn) (m : Nat) (s : Int) (said : List (Option Int)),NOk n x m s -> Q0G (m : Nat) s said -> 0 <= s -> 0 <= sayN x m said /\ sayN x m said <= s
 | .p v,m,s,said,h,hs,h0 => by simp only [NOk,sayN] at *; exact Z8X h hs h0
 | .t hs hd ch,m,s,said,h,hsd,h0 => by
  simp only [NOk,sayN] at *
  exact Z0Z hd _ s _ h.2.1 (Q4l hs m s said h.1 hsd h0 h.2.2.1.2) h0
theorem Q4l {n : Nat} : ∀ (xs : List Hn) (m : Nat) (s : Int) (said : List (Option Int)),NOks n xs m s -> Q0G (m : Nat) s said -> 0 <= s -> xs.length <= 24 -> Q0G ((xs.length : Nat) : Int) s (asS (Q1K xs m said))
 | [],m,s,said,h,hs,h0,hl => ⟨rfl,by show (0 : Int) <= 24; decide,λ w hw => by cases hw⟩
 | x :: xs,m,s,said,h,hs,h0,hl => by
  simp only [NOks] at h
  have hx := Z0Z x m s said h.1 hs h0
  have ih := Q4l xs m s said h.2 hs h0 (by rw [List.length_cons] at hl; omega)
  refine ⟨by unfold asS; rw [List.length_map,Q4t],by rw [List.length_cons] at *; omega,λ w hw => ?_⟩
  simp only [Q1K,asS,List.map_cons] at hw
  rcases List.mem_cons.mp hw with rfl | hw
  ·right
   show (decide (0 <= _) && decide (_ <= s)) = true
   rw [decide_eq_true hx.1,decide_eq_true hx.2]; rfl
  ·exact ih.2.2 w hw
end
mutual
theorem NOk.hear {n : Nat} : ∀ (x : Hn) (m : Nat) (s : Int) (said : List (Option Int)) (so : Int),NOk n x m s -> Q0G (m : Nat) s said -> (0 <= so /\ so <= s) -> NOk (n + 1) (Q1n x m said so) m s
 | .p v,m,s,said,so,h,hs,hso => by simp only [NOk,Q1n] at *; exact HvOk.hear h hs hso
 | .t hs hd ch,m,s,said,so,h,hsd,hso => by
  simp only [NOk,Q1n,Q4U] at *
  refine ⟨NOks.hear hs m s said so h.1 hsd hso,NOk.hear hd _ s _ so h.2.1 (Q4l hs m s said h.1 hsd wF h.2.2.1.2) hso,h.2.2.1,?_⟩
  rw [List.length_map,List.length_zip,Q4t,h.2.2.2]
  omega
theorem NOks.hear {n : Nat} : ∀ (xs : List Hn) (m : Nat) (s : Int) (said : List (Option Int)) (so : Int),NOks n xs m s -> Q0G (m : Nat) s said -> (0 <= so /\ so <= s) -> NOks (n + 1) (Q1o xs m said so) m s
 | [],_,_,_,_,_,_,_ => by simp only [Q1o,NOks]
 | x :: xs,m,s,said,so,h,hsd,hso => by
  simp only [NOks,Q1o] at *
  exact ⟨NOk.hear x m s said so h.1 hsd hso,NOks.hear xs m s said so h.2 hsd hso⟩
end
mutual
theorem Q5H : ∀ (x : Hn) (m : Nat),depN (Q0D x m) = depN x
 | .p v,_ => by simp only [Q0D,depN]
 | .t hs hd ch,m => by simp only [Q0D,depN]; rw [Z0k hs,Q5H hd]
theorem Z0k : ∀ (xs : List Hn) (m : Nat),Q3r (Q0Z xs m) = Q3r xs
 | [],_ => by simp only [Q0Z,Q3r]
 | x :: xs,m => by simp only [Q0Z,Q3r]; rw [Q5H x,Z0k xs]
end
mutual
theorem Q9e : ∀ (x : Hn) (m : Nat) (said : List (Option Int)) (so : Int),depN (Q1n x m said so) = depN x
 | .p v,_,_,_ => by simp only [Q1n,depN]
 | .t hs hd ch,m,said,so => by simp only [Q1n,depN]; rw [Z0j hs,Q9e hd]
theorem Z0j : ∀ (xs : List Hn) (m : Nat) (said : List (Option Int)) (so : Int),Q3r (Q1o xs m said so) = Q3r xs
 | [],_,_,_ => by simp only [Q1o,Q3r]
 | x :: xs,m,said,so => by simp only [Q1o,Q3r]; rw [Q9e x,Z0j xs]
end
theorem Z5Q : ∀ (xs : List Hn) (x : Hn),x ∈ xs -> depN x <= Q3r xs
 | [],_,h => by cases h
 | y :: xs,x,h => by
  simp only [Q3r]
  rcases List.mem_cons.mp h with rfl | h
  ·exact Nat.le_max_left _ _
  ·exact Nat.le_trans (Z5Q xs x h) (Nat.le_max_right _ _)
theorem Q5A {m : Nat} {said : List (Option Int)} : ∀ (xs : List Hn),Q1K xs m said = xs.map λ x => sayN x m said
 | [] => rfl
 | x :: xs => by simp only [Q1K,List.map_cons]; rw [Q5A xs]
theorem Q2w {m : Nat} {said : List (Option Int)} {so : Int} : ∀ (xs : List Hn),Q1o xs m said so = xs.map λ x => Q1n x m said so
 | [] => rfl
 | x :: xs => by simp only [Q1o,List.map_cons]; rw [Q2w xs]
theorem Q4A {m : Nat} : ∀ (xs : List Hn),Q0Z xs m = xs.map λ x => Q0D x m
 | [] => rfl
 | x :: xs => by simp only [Q0Z,List.map_cons]; rw [Q4A xs]
section
variable (m s : Int) (ps : List Nat) (h : Nat) (ch : List Int)
theorem Z0I : (tieN m s ps h ch).lookup ("many" : Str) = some (.int m) := Q1f
theorem Q8k : (tieN m s ps h ch).lookup ("scale" : Str) = some (.int s) := by unfold tieN; rw [Q0r wD,Q1f]
theorem Z6P : (tieN m s ps h ch).lookup ("hands" : Str) = some (.tup (ps.map D.ptr)) := by unfold tieN; rw [Q0r wD,Q0r wD,Q1f]
theorem Z0J : (tieN m s ps h ch).lookup ("head" : Str) = some (.ptr h) := by unfold tieN; rw [Q0r wD,Q0r wD,Q0r wD,Q1f]
theorem Q7K : (tieN m s ps h ch).lookup ("charged" : Str) = some (.tup (ch.map D.int)) := by unfold tieN; rw [Q0r wD,Q0r wD,Q0r wD,Q0r wD,Q1f]
theorem Z2S {f : Str} (hf : ([("many" : Str),"scale","hands","head","charged"].all λ g => !(f == g)) = true) : (tieN m s ps h ch).lookup f = none := by
 simp only [List.all_cons,List.all_nil,Bool.and_true,Bool.and_eq_true,Bool.not_eq_true'] at hf
 obtain ⟨h1,h2,h3,h4,h5⟩ := hf
 unfold tieN
 rw [Q0r h1,Q0r h2,Q0r h3,Q0r h4,Q0r h5]
 rfl
end
def Q2T (C : Cs) (j : Nat) : SpD := λ ds O R => ∃ (q n m : Nat) (s : Int) (hs : List Hn) (hd : Hn) (ch : List Int) (said : List (Option Int)),ds = [.ptr q,.tup (said.map od)] /\ NAt C O (.t hs hd ch) q m s /\ NOk n (.t hs hd ch) m s /\ depN (.t hs hd ch) <= j /\ (1 <= m /\ m <= 24) /\ 0 <= s /\ Q0G (m : Nat) s said /\ R (.tup ((Q1K hs m said).map D.int)) O
def Q1B (C : Cs) (j : Nat) : SpD := λ ds O R => ∃ (q n m : Nat) (s : Int) (hs : List Hn) (hd : Hn) (ch : List Int) (said : List (Option Int)),ds = [.ptr q,.tup (said.map od)] /\ NAt C O (.t hs hd ch) q m s /\ NOk n (.t hs hd ch) m s /\ depN (.t hs hd ch) <= j /\ (1 <= m /\ m <= 24) /\ 0 <= s /\ Q0G (m : Nat) s said /\ R (.int (sayN (.t hs hd ch) m said)) O
def Z6V (C : Cs) : SpD := λ ds O R => ∃ (q m : Nat) (s : Int) (hs : List Hn) (hd : Hn) (ch : List Int),ds = [.ptr q] /\ NAt C O (.t hs hd ch) q m s /\ R (.tup (ch.map D.int)) O
def Q0X (C : Cs) (j : Nat) : SpD := λ ds O R => ∃ (q n m : Nat) (s so : Int) (hs : List Hn) (hd : Hn) (ch : List Int) (said : List (Option Int)),ds = [.ptr q,.tup (said.map od),.int so] /\ NAt C O (.t hs hd ch) q m s /\ NOk n (.t hs hd ch) m s /\ depN (.t hs hd ch) <= j /\ n <= 1000 /\ (1 <= m /\ m <= 24) /\ Q0G (m : Nat) s said /\ (0 <= so /\ so <= s) /\
 ∀ O',BlX q (sizN (.t hs hd ch)) O O' -> NAt C O' (Q1n (.t hs hd ch) m said so) q m s -> R .non O'
def PnAt (C : Cs) (O : Sto) (m : Nat) (s : Int) (j : Nat) (pv : List (Nat × Hn)) : Prop := ∀ x ∈ pv,NAt C O x.2 x.1 m s /\ (∃ n,NOk n x.2 m s) /\ depN x.2 < j
def Z0O (C : Cs) : SpD := λ ds O R => ∃ (j m : Nat) (s : Int) (pv : List (Nat × Hn)) (hp : Nat) (hd : Hn),ds = [.tup (pv.map λ x => .ptr x.1),.ptr hp] /\ PnAt C O m s j pv /\ PnAt C O pv.length s j [(hp,hd)] /\ (1 <= m /\ m <= 24) /\ (1 <= s /\ s <= 10) /\ (1 <= pv.length /\ pv.length <= 24) /\ R .non O
def Q8v (C : Cs) : SpD := λ ds O R => ∃ (j m : Nat) (s : Int) (pv : List (Nat × Hn)),ds = [.tup (pv.map λ x => .ptr x.1)] /\ PnAt C O m s j pv /\ (1 <= pv.length /\ pv.length <= 24) /\ R (.bl true) O
def Q5O (C : Cs) : SpD := λ ds O R => ∃ (j m : Nat) (s : Int) (pv : List (Nat × Hn)) (hp : Nat) (hd : Hn),ds = [.tup (pv.map λ x => .ptr x.1),.ptr hp] /\ PnAt C O m s j pv /\ PnAt C O pv.length s j [(hp,hd)] /\ (1 <= pv.length /\ pv.length <= 24) /\ R (.bl true) O
def newN (C : Cs) (hs : List Hn) (hd : Hn) (q m : Nat) (s : Int) : Sto := layN C (Q0D (.t hs hd []) m) q m s
def Q1g (C : Cs) (j : Nat) : SpD := λ ds O R => ∃ (q m : Nat) (s : Int) (pv : List (Nat × Hn)) (hp : Nat) (hd : Hn) (O0 : Sto),ds = [.ptr q,.tup (pv.map λ x => .ptr x.1),.ptr hp] /\ O = O0 ++ [some (.ins C.t [])] /\ q = O0.length /\ PnAt C O0 m s j pv /\ PnAt C O0 pv.length s j [(hp,hd)] /\ (1 <= m /\ m <= 24) /\ (1 <= s /\ s <= 10) /\ (1 <= pv.length /\ pv.length <= 24) /\ R .non (O0 ++ newN C (pv.map (·.2)) hd q m s)
def Q1b (C : Cs) (j : Nat) : SpD := λ ds O R => ∃ (q n m : Nat) (s : Int) (hs : List Hn) (hd : Hn) (ch : List Int),ds = [.ptr q] /\ NAt C O (.t hs hd ch) q m s /\ NOk n (.t hs hd ch) m s /\ depN (.t hs hd ch) <= j /\ (1 <= m /\ m <= 24) /\ (1 <= s /\ s <= 10) /\ R (.ptr O.length) (O ++ newN C hs hd O.length m s)
theorem NAt.to {C : Cs} {O : Sto} {hs : List Hn} {hd : Hn} {ch : List Int} {q m : Nat} {s : Int} (h : NAt C O (.t hs hd ch) q m s) : O[q]? = some (some (.ins C.t (tieN (m : Nat) s (offN hs (q + 1)) (q + 1 + Q0t hs) ch))) /\ NAts C O hs (q + 1) m s /\ NAt C O hd (q + 1 + Q0t hs) hs.length s := by simpa only [NAt] using h
theorem NAt.ti {C : Cs} {O : Sto} {hs : List Hn} {hd : Hn} {ch : List Int} {q m : Nat} {s : Int} (h : O[q]? = some (some (.ins C.t (tieN (m : Nat) s (offN hs (q + 1)) (q + 1 + Q0t hs) ch))) /\ NAts C O hs (q + 1) m s /\ NAt C O hd (q + 1 + Q0t hs) hs.length s) : NAt C O (.t hs hd ch) q m s := by simpa only [NAt] using h
theorem NAt.pl {C : Cs} {O : Sto} {v : Hv} {q m : Nat} {s : Int} (h : NAt C O (.p v) q m s) : O[q]? = some (some (C.o (m : Nat) s v)) := by simpa only [NAt] using h
theorem NAt.pi {C : Cs} {O : Sto} {v : Hv} {q m : Nat} {s : Int} (h : O[q]? = some (some (C.o (m : Nat) s v))) : NAt C O (.p v) q m s := by simpa only [NAt] using h
theorem NOk.pl {n : Nat} {v : Hv} {m : Nat} {s : Int} (h : NOk n (.p v) m s) : HvOk n m s v := by simpa only [NOk] using h
theorem NOk.to {n : Nat} {hs : List Hn} {hd : Hn} {ch : List Int} {m : Nat} {s : Int} (h : NOk n (.t hs hd ch) m s) : NOks n hs m s /\ NOk n hd hs.length s /\ (1 <= hs.length /\ hs.length <= 24) /\ ch.length = hs.length := by simpa only [NOk] using h
theorem NAt.app {C : Cs} {O Y : Sto} {x : Hn} {q m : Nat} {s : Int} (hq : q + sizN x <= O.length) (h : NAt C O x q m s) : NAt C (O ++ Y) x q m s := h.own λ j _ h2 => List.getElem?_append_left wF
section
variable {X : Cx} {ρ : Rho} {O : Sto} {C : Cs} {o e e2 : Expr} {j q n m k1 k2 k3 k4 k5 k6 : Nat} {s so : Int} {x : Hn} {said : List (Option Int)} {R : D -> Sto -> Prop} {pos apos : Pos}
theorem Z1q {pl : Sem Bool} (M1 : Q0e X.prog X.w X.K X.mg X.base C.h k1 "say" (Q0E C.h C.w C.s C.r)) (M2 : Q0e X.prog X.w X.K X.mg X.base C.w k1 "say" (Q0E C.h C.w C.s C.r)) (M3 : Q0e X.prog X.w X.K X.mg X.base C.s k1 "say" (Q0E C.h C.w C.s C.r)) (M4 : Q0e X.prog X.w X.K X.mg X.base C.r k1 "say" (Q0E C.h C.w C.s C.r)) (r1 : Room k1 X.A) (M6 : Q0e X.prog X.w X.K X.mg X.base C.f k6 "say" (Q4e C.f)) (r6 : Room k6 X.A) (M5 : Q0e X.prog X.w X.K X.mg X.base C.t k5 "say" (Q1B C j)) (r5 : Room k5 X.A)
  (ho : EvP X ρ O o (.ptr q)) (hq : NAt C O x q m s) (hok : NOk n x m s) (hj : depN x <= j) (hm : 1 <= m /\ m <= 24) (h0 : 0 <= s) (hs : Q0G (m : Nat) s said) (ha : EvPs X ρ O [e] [.tup (said.map od)])
  (hst : starEach [e] X.env = (false,eval e X.env) :: starEach [] X.env := by rfl) (hpl : (backTo pos (starEach [] X.env)).any (·.1) = false := by rfl)
  (ht : eval (.Call (.Attribute o "say" apos) [e] [] pos) X.env = (do
   let ov <- eval o X.env
   standAt apos.atName
   let (f,first) <- holding [ov] (getMethod ov "say" pl)
   callWith pos f first (backTo pos (starEach [e] X.env)) (backToKw pos (keywordEach [] X.env))) := by rfl) : EvP X ρ O (.Call (.Attribute o "say" apos) [e] [] pos) (.int (sayN x m said)) := by
 cases x with
 | p v => rw [show sayN (.p v) m said = sayH m said v by simp only [sayN]]; exact Z5H M1 M2 M3 M4 r1 M6 r6 ho hq.pl hok.pl hm hs ha hst hpl ht
 | t ys hd ch => exact Ev.evp (Q1e M5 r5 ho hq.to.1 (Z2S _ _ _ _ _ wD) ha ⟨q,n,m,s,ys,hd,ch,said,rfl,hq,hok,hj,hm,h0,hs,rfl,rfl⟩ hst hpl ht)
theorem Q5G {pl : Sem Bool} (M1 : Q0e X.prog X.w X.K X.mg X.base C.h k1 "hear" (Q2D C.h)) (M2 : Q0e X.prog X.w X.K X.mg X.base C.w k2 "hear" (Q0K C.w C.s false)) (M3 : Q0e X.prog X.w X.K X.mg X.base C.s k3 "hear" (Q0K C.w C.s true)) (M4 : Q0e X.prog X.w X.K X.mg X.base C.r k4 "hear" (Q2C C.r)) (r1 : Room k1 X.A) (r2 : Room (max k2 k3) X.A) (r3 : Room k4 X.A) (M6 : Q0e X.prog X.w X.K X.mg X.base C.f k6 "hear" (Q2E C.f)) (r6 : Room k6 X.A) (M5 : Q0e X.prog X.w X.K X.mg X.base C.t k5 "hear" (Q0X C j)) (r5 : Room k5 X.A)
  (ho : EvP X ρ O o (.ptr q)) (hq : NAt C O x q m s) (hok : NOk n x m s) (hj : depN x <= j) (hn : n <= 1000) (hm : 1 <= m /\ m <= 24) (hs : Q0G (m : Nat) s said) (hso : 0 <= so /\ so <= s) (ha : EvPs X ρ O [e,e2] [.tup (said.map od),.int so]) (hR : ∀ O',BlX q (sizN x) O O' -> NAt C O' (Q1n x m said so) q m s -> R .non O')
  (hst : starEach [e,e2] X.env = (false,eval e X.env) :: starEach [e2] X.env := by rfl) (hpl : (backTo pos (starEach [e2] X.env)).any (·.1) = false := by rfl)
  (ht : eval (.Call (.Attribute o "hear" apos) [e,e2] [] pos) X.env = (do
   let ov <- eval o X.env
   standAt apos.atName
   let (f,first) <- holding [ov] (getMethod ov "hear" pl)
   callWith pos f first (backTo pos (starEach [e,e2] X.env)) (backToKw pos (keywordEach [] X.env))) := by rfl) : Ev X ρ O (.Call (.Attribute o "hear" apos) [e,e2] [] pos) R := by
 cases x with
 | p v =>
  have h1 : sizN (.p v) = 1 := by simp only [sizN]
  have h2 : Q1n (.p v) m said so = .p (Z7A said so v) := by simp only [Q1n]
  rw [h1,h2] at hR
  exact Z2u M1 M2 M3 M4 r1 r2 r3 M6 r6 ho hq.pl hok.pl hn hm hs hso ha (hR _ ⟨List.length_set ..,λ j hj => List.getElem?_set_ne wF⟩ (NAt.pi (Q1h hq.pl))) hst hpl ht
 | t ys hd ch => exact Q1e M5 r5 ho hq.to.1 (Z2S _ _ _ _ _ wD) ha ⟨q,n,m,s,so,ys,hd,ch,said,rfl,hq,hok,hj,hn,hm,hs,hso,hR⟩ hst hpl ht
theorem Q9b {pl : Sem Bool} (M1 : Q0e X.prog X.w X.K X.mg X.base C.h k1 "anew" (Q3d C.h)) (M2 : Q0e X.prog X.w X.K X.mg X.base C.w k2 "anew" (Q0T C.w C.s false)) (M3 : Q0e X.prog X.w X.K X.mg X.base C.s k3 "anew" (Q0T C.w C.s true)) (M4 : Q0e X.prog X.w X.K X.mg X.base C.r k4 "anew" (Q3c C.r)) (r1 : Room k1 X.A) (r2 : Room (max k2 k3) X.A) (r3 : Room k4 X.A) (M6 : Q0e X.prog X.w X.K X.mg X.base C.f k6 "anew" (Q3e C.f)) (r6 : Room k6 X.A) (M5 : Q0e X.prog X.w X.K X.mg X.base C.t k5 "anew" (Q1b C j)) (r5 : Room k5 X.A)
  (ho : EvP X ρ O o (.ptr q)) (hq : NAt C O x q m s) (hok : NOk n x m s) (hj : depN x <= j) (hm : 1 <= m /\ m <= 24) (hs : 1 <= s /\ s <= 10) (hR : R (.ptr O.length) (O ++ layN C (Q0D x m) O.length m s))
  (ht : eval (.Call (.Attribute o "anew" apos) [] [] pos) X.env = (do
   let ov <- eval o X.env
   standAt apos.atName
   let (f,first) <- holding [ov] (getMethod ov "anew" pl)
   callWith pos f first (backTo pos (starEach [] X.env)) (backToKw pos (keywordEach [] X.env))) := by rfl) : Ev X ρ O (.Call (.Attribute o "anew" apos) [] [] pos) R := by
 cases x with
 | p v => exact Z2w M1 M2 M3 M4 r1 r2 r3 M6 r6 ho hq.pl hok.pl hm hs (by simp only [Q0D,layN] at hR; exact hR) ht
 | t ys hd ch => exact Q1m M5 r5 ho hq.to.1 (Z2S _ _ _ _ _ wD) ⟨q,n,m,s,ys,hd,ch,rfl,hq,hok,hj,hm,hs,by simpa only [newN,Q0D] using hR⟩ ht
theorem Q3A (c1 : Cls X.K C.h) (c2 : Cls X.K C.w) (c3 : Cls X.K C.s) (c4 : Cls X.K C.r) (n1 : Q0l X.K C.h "many") (n2 : Q0l X.K C.w "many") (n3 : Q0l X.K C.s "many") (n4 : Q0l X.K C.r "many") (c6 : Cls X.K C.f) (n6 : Q0l X.K C.f "many") (c5 : Cls X.K C.t) (n5 : Q0l X.K C.t "many") (ho : EvP X ρ O o (.ptr q)) (hq : NAt C O x q m s) (hok : NOk n x m s) (hb : attributeBase o ("many" : Str) X.env (eval o X.env) = eval o X.env := by rfl) : EvP X ρ O (.Attribute o "many" pos) (.int (m : Nat)) := by
 cases x with
 | p v => exact Z7E c1 c2 c3 c4 n1 n2 n3 n4 c6 n6 ho hq.pl hok.pl hb
 | t ys hd ch => exact Q0n ho hq.to.1 c5 n5 (Z0I _ _ _ _ _) hb
theorem Q1S (c1 : Cls X.K C.h) (c2 : Cls X.K C.w) (c3 : Cls X.K C.s) (c4 : Cls X.K C.r) (n1 : Q0l X.K C.h "scale") (n2 : Q0l X.K C.w "scale") (n3 : Q0l X.K C.s "scale") (n4 : Q0l X.K C.r "scale") (c6 : Cls X.K C.f) (n6 : Q0l X.K C.f "scale") (c5 : Cls X.K C.t) (n5 : Q0l X.K C.t "scale") (ho : EvP X ρ O o (.ptr q)) (hq : NAt C O x q m s) (hok : NOk n x m s) (hb : attributeBase o ("scale" : Str) X.env (eval o X.env) = eval o X.env := by rfl) : EvP X ρ O (.Attribute o "scale" pos) (.int s) := by
 cases x with
 | p v => exact Z5G c1 c2 c3 c4 n1 n2 n3 n4 c6 n6 ho hq.pl hok.pl hb
 | t ys hd ch => exact Q0n ho hq.to.1 c5 n5 (Q8k _ _ _ _ _) hb
theorem Z8z {k : Bool} {y : Str} {C2 : Addr} {p p2 : Pos} (hm : X.mg "isinstance" = none) (he : EvP X ρ O e (.ptr q)) (hq : NAt C O x q m s) (t1 : Q1Z X.K C.h) (t2 : Q1Z X.K C.w) (t3 : Q1Z X.K C.s) (t4 : Q1Z X.K C.r) (hx : X.mg y = some (.ref C2)) (k1 : PySem.W.kitOne X.K (.ref C.h) (.ref C2) = some k) (k2 : PySem.W.kitOne X.K (.ref C.w) (.ref C2) = some k) (k3 : PySem.W.kitOne X.K (.ref C.s) (.ref C2) = some k) (k4 : PySem.W.kitOne X.K (.ref C.r) (.ref C2) = some k) (t6 : Q1Z X.K C.f) (k6' : PySem.W.kitOne X.K (.ref C.f) (.ref C2) = some k) (t5 : Q1Z X.K C.t) (k5' : PySem.W.kitOne X.K (.ref C.t) (.ref C2) = some k)
  (hg : Gl X "isinstance" := by rfl) (hgx : Gl X y := by rfl) (hdx : (y == ("__debug__" : Str)) = false := by decide) (hs : starEach [e,.Name y p2] X.env = (false,eval e X.env) :: starEach [.Name y p2] X.env := by rfl) (hpl : (backTo pos (starEach [.Name y p2] X.env)).any (·.1) = false := by rfl) :
  EvP X ρ O (.Call (.Name "isinstance" p) [e,.Name y p2] [] pos) (.bl k) := by
 cases x with
 | p v => exact Z9S hm he hq.pl t1 t2 t3 t4 hx k1 k2 k3 k4 t6 k6' hg hgx hdx hs hpl
 | t ys hd ch => exact Q3I hm he hq.to.1 t5 hx k5' hg hgx hdx hs hpl
end
theorem NAt.le {C : Cs} {O : Sto} : ∀ (x : Hn) (q m : Nat) (s : Int),NAt C O x q m s -> q + sizN x <= O.length
 | .p v,q,m,s,h => by have := (List.getElem?_eq_some_iff.mp h.pl).1; simp only [sizN]; omega
 | .t hs hd ch,q,m,s,h => by have := NAt.le hd _ _ _ h.to.2.2; simp only [sizN]; omega
theorem NAt.ap {C : Cs} {O Y : Sto} {x : Hn} {q m : Nat} {s : Int} (h : NAt C O x q m s) : NAt C (O ++ Y) x q m s := h.app (NAt.le _ _ _ _ h)
theorem PnAt.app {C : Cs} {O Y : Sto} {m j : Nat} {s : Int} {pv : List (Nat × Hn)} (h : PnAt C O m s j pv) : PnAt C (O ++ Y) m s j pv := λ x hx => ⟨(h x hx).1.ap,(h x hx).2⟩
theorem Q8w : ∀ (xs ys : List Hn),Q0t (xs ++ ys) = Q0t xs + Q0t ys
 | [],ys => by simp only [List.nil_append,Q0t,Nat.zero_add]
 | x :: xs,ys => by simp only [List.cons_append,Q0t]; rw [Q8w xs,Nat.add_assoc]
theorem Q5y {xs : List Hn} {i : Nat} {x : Hn} (h : xs[i]? = some x) : Q0t (xs.take (i + 1)) = Q0t (xs.take i) + sizN x := by
 rw [List.take_succ,h,Q8w]
 simp only [Option.toList,Q0t,Nat.add_zero]
theorem Z1Y (xs : List Hn) {i k : Nat} (h : i <= k) : Q0t (xs.take i) <= Q0t (xs.take k) := by
 have e : xs.take k = xs.take i ++ (xs.take k).drop i := by
  have := List.take_append_drop i (xs.take k)
  rw [List.take_take,Nat.min_eq_left h] at this
  exact this.symm
 rw [e,Q8w]
 omega
theorem Z4C (xs : List Hn) (i : Nat) : Q0t (xs.take i) <= Q0t xs := by
 have e := congrArg Q0t (List.take_append_drop i xs)
 rw [Q8w] at e
 omega
theorem Q9Z (xs : List Hn) (q : Nat) : offN xs q = (List.range xs.length).map λ i => q + Q0t (xs.take i) := by
 refine List.ext_getElem? λ i => ?_
 rw [List.getElem?_map]
 by_cases hi : i < xs.length
 ·rw [Z8r xs q i hi,List.getElem?_range hi]; rfl
 ·rw [List.getElem?_eq_none (by rw [Z5g]; omega),List.getElem?_eq_none (by rw [List.length_range]; omega)]; rfl
theorem Q5M (m s : Int) (xs : List Hn) (q h : Nat) (ch : List Int) : (tieN m s (offN xs q) h ch).lookup ("hands" : Str) = some (.tup ((List.range xs.length).map λ i => .ptr (q + Q0t (xs.take i)))) := by
 rw [Z6P,Q9Z,List.map_map]; rfl
theorem Z5s (C : Cs) : ∀ (xs ys : List Hn) (q m : Nat) (s : Int),Q1d C (xs ++ ys) q m s = Q1d C xs q m s ++ Q1d C ys (q + Q0t xs) m s
 | [],ys,q,m,s => by simp only [List.nil_append,Q1d,Q0t,Nat.add_zero]
 | x :: xs,ys,q,m,s => by simp only [List.cons_append,Q1d,Q0t]; rw [Z5s C xs,List.append_assoc,Nat.add_assoc]
theorem Z7x (C : Cs) {xs : List Hn} {i : Nat} {x : Hn} (h : xs[i]? = some x) (q m : Nat) (s : Int) : Q1d C (xs.take (i + 1)) q m s = Q1d C (xs.take i) q m s ++ layN C x (q + Q0t (xs.take i)) m s := by
 rw [List.take_succ,h,Z5s]
 simp only [Option.toList,Q1d,List.append_nil]
theorem Q9Q (m s : Int) (ps : List Nat) (h : Nat) (ch : List Int) : putD "charged" (.tup (ch.map D.int)) (tieG m s (.tup (ps.map D.ptr)) (.ptr h)) = tieN m s ps h ch := by
 unfold tieG
 rw [Q0o wD,Q0o wD,Q0o wD,Q0o wD]
 rfl
theorem Q8j (m s : Int) (ps : List Nat) (h : Nat) (ch cs : List Int) : putD "charged" (.tup (cs.map D.int)) (tieN m s ps h ch) = tieN m s ps h cs := by
 unfold tieN
 rw [Q0o wD,Q0o wD,Q0o wD,Q0o wD,Q5a]
theorem Z4v {C : Cs} {ds : List D} {O : Sto} {R : D -> Sto -> Prop} (h : Q2T C 0 ds O R) : False := by
 obtain ⟨_,_,_,_,_,_,_,_,_,_,_,h,_⟩ := h
 simp only [depN] at h; omega
theorem Z4p {C : Cs} {ds : List D} {O : Sto} {R : D -> Sto -> Prop} (h : Q1B C 0 ds O R) : False := by
 obtain ⟨_,_,_,_,_,_,_,_,_,_,_,h,_⟩ := h
 simp only [depN] at h; omega
theorem Z1U {C : Cs} {ds : List D} {O : Sto} {R : D -> Sto -> Prop} (h : Q0X C 0 ds O R) : False := by
 obtain ⟨_,_,_,_,_,_,_,_,_,_,_,_,h,_⟩ := h
 simp only [depN] at h; omega
theorem Z1T {C : Cs} {ds : List D} {O : Sto} {R : D -> Sto -> Prop} (h : Q1g C 0 ds O R) : False := by
 obtain ⟨_,_,_,_,_,_,_,_,_,_,_,h,_⟩ := h
 have := (h _ (List.mem_singleton.mpr rfl)).2.2
 omega
theorem Z1V {C : Cs} {ds : List D} {O : Sto} {R : D -> Sto -> Prop} (h : Q1b C 0 ds O R) : False := by
 obtain ⟨_,_,_,_,_,_,_,_,_,_,h,_⟩ := h
 simp only [depN] at h; omega
theorem Q8c {hs : List Hn} {hd : Hn} {ch : List Int} {j : Nat} (h : depN (.t hs hd ch) <= j + 1) : (∀ x ∈ hs,depN x <= j) /\ depN hd <= j := by
 simp only [depN] at h
 have h1 := Nat.le_max_left (Q3r hs) (depN hd)
 have h2 := Nat.le_max_right (Q3r hs) (depN hd)
 exact ⟨λ x hx => by have := Z5Q hs x hx; omega,by omega⟩
theorem BlX.rf (q k : Nat) (O : Sto) : BlX q k O O := ⟨rfl,λ _ _ => rfl⟩
theorem BlX.in {q k q2 k2 : Nat} {O O' O2 : Sto} (h : BlX q k O O') (h2 : BlX q2 k2 O' O2) (h3 : q <= q2) (h4 : q2 + k2 <= q + k) : BlX q k O O2 := ⟨h2.l.trans h.l,λ j hj => (h2.o j wF).trans (h.o j hj)⟩
theorem Z7T (m : Nat) (v : Hv) : Z3L m (Z3L m v) = Z3L m v := by cases v <;> rfl
mutual
theorem Q9j : ∀ (x : Hn) (m : Nat),Q0D (Q0D x m) m = Q0D x m
 | .p v,m => by simp only [Q0D]; rw [Z7T]
 | .t hs hd ch,m => by simp only [Q0D,Q1r]; rw [Z2H hs,Q9j hd]
theorem Z2H : ∀ (xs : List Hn) (m : Nat),Q0Z (Q0Z xs m) m = Q0Z xs m
 | [],_ => by simp only [Q0Z]
 | x :: xs,m => by simp only [Q0Z]; rw [Q9j x,Z2H xs]
end
def pnP (z : Nat × Hn) : D := .ptr z.1
structure Kp (b : Nat) (O O' : Sto) : Prop where
 l : O.length <= O'.length
 o : ∀ i,i < b -> O'[i]? = O[i]?
theorem Kp.rf (l : Nat) (O : Sto) : Kp l O O := ⟨Nat.le_refl _,λ _ _ => rfl⟩
theorem Kp.tr {l : Nat} {O O1 O2 : Sto} (h : Kp l O O1) (g : Kp l O1 O2) : Kp l O O2 := ⟨Nat.le_trans h.l g.l,λ i hi => (g.o i hi).trans (h.o i hi)⟩
theorem Kp.app {l : Nat} {O : Sto} (Y : Sto) (h : l <= O.length) : Kp l O (O ++ Y) := ⟨by rw [List.length_append]; omega,λ i hi => List.getElem?_append_left wF⟩
theorem Kp.bl {l q k : Nat} {O O' : Sto} (h : BlX q k O O') (hq : l <= q) : Kp l O O' := ⟨Nat.le_of_eq h.l.symm,λ i hi => h.o i (.inl wF)⟩
theorem Kp.up {O O' : Sto} (h : Kp O.length O O') : ∃ Y,O' = O ++ Y := by
 refine ⟨O'.drop O.length,List.ext_getElem? λ j => ?_⟩
 have := h.l
 by_cases hj : j < O.length
 ·rw [h.o j hj,List.getElem?_append_left hj]
 ·rw [List.getElem?_append_right wF,List.getElem?_drop,show O.length + (j - O.length) = j by omega]
theorem Z7a (zs : List Hn) (hz : Hn) (ch : List Int) (m : Nat) (said : List (Option Int)) : sayN (.t zs hz ch) m said = sayN hz zs.length (asS (Q1K zs m said)) := by simp only [sayN]
def evN (m : Nat) (x : Hn) (ts : List Tn) (i : Nat) : Hn := (ts.take i).foldl (λ y t => Q1n y m t.1 t.2) (Q0D x m)
theorem Q2e {m : Nat} {x : Hn} {ts : List Tn} {i : Nat} {t : Tn} (h : ts[i]? = some t) : evN m x ts (i + 1) = Q1n (evN m x ts i) m t.1 t.2 := by
 unfold evN
 rw [List.take_add_one,h,List.foldl_append]
 rfl
theorem Z4B {m : Nat} {x : Hn} {ts : List Tn} : ∀ i,i <= ts.length -> sizN (evN m x ts i) = sizN x
 | 0,_ => Q4i x m
 | i + 1,h => by rw [Q2e (List.getElem?_eq_getElem (show i < ts.length by omega)),Q3f]; exact Z4B i wF
theorem Z1t {m : Nat} {x : Hn} {ts : List Tn} : ∀ i,i <= ts.length -> depN (evN m x ts i) = depN x
 | 0,_ => Q5H x m
 | i + 1,h => by rw [Q2e (List.getElem?_eq_getElem (show i < ts.length by omega)),Q9e]; exact Z1t i wF
theorem Z2x {n m : Nat} {s : Int} {x : Hn} {ts : List Tn} (hx : NOk n x m s) (hm : m <= 24) (ht : ∀ t ∈ ts,TnOk m s t) : ∀ i,i <= ts.length -> NOk i (evN m x ts i) m s
 | 0,_ => NOk.anew x m s hx
 | i + 1,h => by
  have hq : ts[i]? = some ts[i] := List.getElem?_eq_getElem wF
  have hok := ht _ (List.getElem_mem (show i < ts.length by omega))
  rw [Q2e hq]
  exact NOk.hear _ _ _ _ _ (Z2x hx hm ht i wF) (hok.said hm) hok.2.2
def Q0U (m : Nat) (x : Hn) (ts : List Tn) (k : Nat) : Int := sayN (evN m x ts k) m (tnX ts k).1
theorem Z2y (m : Nat) (x : Hn) (ts : List Tn) (i : Nat) : evN m (Q0D x m) ts i = evN m x ts i := by unfold evN; rw [Q9j]
theorem Z3d (m : Nat) (x : Hn) (ts : List Tn) (k : Nat) : Q0U m (Q0D x m) ts k = Q0U m x ts k := by unfold Q0U; rw [Z2y]
def tbN (m : Nat) (hs : List Hn) (ts : List Tn) : List Tn := (List.range ts.length).map λ k => (asS (hs.map λ v => Q0U m v ts k),(tnX ts k).2)
theorem Z0L (m : Nat) (hs : List Hn) (ts : List Tn) : (tbN m hs ts).length = ts.length := by unfold tbN; rw [List.length_map,List.length_range]
theorem Z4h {m : Nat} {hs : List Hn} {ts : List Tn} {k : Nat} (h : k < ts.length) : (tbN m hs ts)[k]? = some (asS (hs.map λ v => Q0U m v ts k),(tnX ts k).2) := by unfold tbN; rw [List.getElem?_map,List.getElem?_range h]; rfl
def Q6s (m : Nat) (v : Hn) (ts : List Tn) (i : Nat) : Int := ((List.range i).map λ k => ab (Q0U m v ts k - (tnX ts k).2)).sum
theorem Z3j (m : Nat) (v : Hn) (ts : List Tn) (i : Nat) : Q6s m v ts (i + 1) = Q6s m v ts i + ab (Q0U m v ts i - (tnX ts i).2) := by
 unfold Q6s
 rw [List.range_succ,List.map_append,List.sum_append]
 show _ + (_ + 0) = _
 rw [Int.add_zero]
theorem Q8Z {m : Nat} {hs : List Hn} {hd : Hn} {ch : List Int} {ts : List Tn} : ∀ i,i <= ts.length -> evN m (.t hs hd ch) ts i = .t (hs.map λ v => evN m v ts i) (evN hs.length hd (tbN m hs ts) i) (hs.map λ v => Q6s m v ts i)
 | 0,_ => by
  show Q0D (.t hs hd ch) m = Hn.t (hs.map λ v => Q0D v m) (Q0D hd hs.length) (hs.map λ _ => (0 : Int))
  simp only [Q0D]
  rw [List.map_const',Q4A]
 | i + 1,h => by
  have hq : ts[i]? = some ts[i] := List.getElem?_eq_getElem wF
  have et := Q7L hq
  rw [Q2e hq,Q8Z i wF]
  simp only [Q1n]
  have ea : Q1K (hs.map λ v => evN m v ts i) m ts[i].1 = hs.map λ v => Q0U m v ts i := by
   rw [Q5A,List.map_map]
   unfold Q0U
   rw [et]
   rfl
  have e1 : Q1o (hs.map λ v => evN m v ts i) m ts[i].1 ts[i].2 = hs.map λ v => evN m v ts (i + 1) := by
   rw [Q2w,List.map_map]
   exact List.map_congr_left λ v _ => (Q2e hq).symm
  have e2 : evN hs.length hd (tbN m hs ts) (i + 1) = Q1n (evN hs.length hd (tbN m hs ts) i) hs.length (asS (hs.map λ v => Q0U m v ts i)) ts[i].2 := by
   rw [Q2e (Z4h (show i < ts.length by omega)),et]
  have e3 : (((hs.map λ v => Q6s m v ts i).zip (hs.map λ v => Q0U m v ts i)).map λ x => x.1 + ab (x.2 - ts[i].2)) = hs.map λ v => Q6s m v ts (i + 1) := by
   rw [List.zip_map',List.map_map]
   refine List.map_congr_left λ v _ => ?_
   rw [Z3j,et]
   rfl
  rw [ea,e1,e3,e2,List.length_map]
theorem Z3c {m : Nat} {hs : List Hn} {hd : Hn} {ch : List Int} {ts : List Tn} {k : Nat} (h : k < ts.length) : Q0U m (.t hs hd ch) ts k = Q0U hs.length hd (tbN m hs ts) k := by
 unfold Q0U
 rw [Q8Z k wF,Z7a,List.length_map,Q7L (Z4h h),Q5A,List.map_map]
 rfl
theorem Y0t {n m : Nat} {s : Int} {hs : List Hn} {ts : List Tn} (h : ∀ x ∈ hs,∃ n,NOk n x m s) (hl : hs.length <= 24) (hm : m <= 24) (h0 : 0 <= s) (ht : ∀ t ∈ ts,TnOk m s t) : ∀ t ∈ tbN m hs ts,TnOk hs.length s t := λ t h2 => by
 obtain ⟨k,hk,rfl⟩ := List.mem_map.mp h2
 have hk := List.mem_range.mp hk
 have hq : ts[k]? = some ts[k] := List.getElem?_eq_getElem hk
 have hok := ht _ (List.getElem_mem hk)
 refine ⟨by show (asS _).length = _; unfold asS; rw [List.length_map,List.length_map],λ w hw => ?_,?_⟩
 ·have hw : w ∈ asS (hs.map λ v => Q0U m v ts k) := hw
  unfold asS at hw
  rw [List.map_map] at hw
  obtain ⟨x,hx,rfl⟩ := List.mem_map.mp hw
  obtain ⟨n,hn⟩ := h x hx
  have := Z0Z _ m s ts[k].1 (Z2x hn hm ht k wF) (hok.said hm) h0
  right
  show (decide (0 <= Q0U m x ts k) && decide (Q0U m x ts k <= s)) = true
  unfold Q0U
  rw [Q7L hq,decide_eq_true this.1,decide_eq_true this.2]; rfl
 ·show 0 <= (tnX ts k).2 /\ (tnX ts k).2 <= s
  rw [Q7L hq]; exact hok.2.2
def Z1S (C : Cs) (j : Nat) : SpD := λ ds O R => ∃ (q n m : Nat) (s : Int) (x : Hn) (ts : List Tn),ds = [.ptr q,.tup (ts.map tD)] /\ NAt C O x q m s /\ NOk n x m s /\ depN x <= j /\ (1 <= m /\ m <= 24) /\ (1 <= s /\ s <= 10) /\ (∀ t ∈ ts,TnOk m s t) /\ ts.length <= 63 /\ R (.tup (((List.range ts.length).map (Q0U m x ts)).map D.int)) O
def far (m z : Int) (q : Int × Int) : Int := if ab (m - z) <= ab (q.1 - z) then q.2 else 0
theorem Z7D {ns ws : List Int} (h : Two ns ws) (z : Int) : (cnt ws).sum <= 2 * sm (far (mid ns ws) z) (ns.zip (cnt ws)) := by
 by_cases hn : ns = []
 ·subst hn
  have : ws = [] := List.eq_nil_of_length_eq_zero h.1.symm
  subst this
  show (cnt []).sum <= 2 * (0 : Int)
  decide
 ·have hh := Z7v h hn
  have hc := Z5X h.2.2
  have hl : ns.length = (cnt ws).length := by rw [Z1v]; exact h.1
  unfold Z3K there at hh
  generalize mid ns ws = m at *
  generalize cnt ws = cs at *
  have hm : ∀ p ∈ ns.zip cs,0 <= p.2 := λ p hp => hc _ (List.of_mem_zip hp).2
  have hs : sm (λ q : Int × Int => q.2) (ns.zip cs) = cs.sum := Q7O hl
  by_cases hz : z <= m
  ·have : sm (λ q : Int × Int => q.2) (ns.zip cs) <= sm (λ q => (if q.1 < m then q.2 else 0) + far m z q) (ns.zip cs) := Z4x λ a ha => by
    have := hm a ha
    unfold far ab
    by_cases h1 : a.1 < m
    ·rw [if_pos h1]; split <;> split <;> split <;> omega
    ·rw [if_neg h1,if_pos (by split <;> split <;> omega)]; omega
   rw [Q9D] at this
   omega
  ·have : sm (λ q : Int × Int => (if q.1 < m then q.2 else 0) + (if q.1 = m then q.2 else 0)) (ns.zip cs) <= sm (far m z) (ns.zip cs) := Z4x λ a ha => by
    have := hm a ha
    unfold far ab
    by_cases h1 : a.1 <= m
    ·rw [if_pos (c := (if m - z < 0 then -(m - z) else m - z) <= (if a.1 - z < 0 then -(a.1 - z) else a.1 - z)) (by split <;> split <;> omega)]; split <;> split <;> omega
    ·rw [if_neg (show ¬ a.1 < m by omega),if_neg (show ¬ a.1 = m by omega)]; split <;> split <;> split <;> omega
   rw [Q9D] at this
   omega
theorem Z1W {α : Type} (p : α -> Bool) (g : α -> Int) (l : List α) : sm g l = sm g (l.filter p) + sm g (l.filter λ a => !p a) := by
 induction l with
 | nil => rfl
 | cons a l ih =>
  have e : sm g (a :: l) = g a + sm g l := rfl
  cases h : p a with
  | true =>
   rw [List.filter_cons_of_pos h,List.filter_cons_of_neg (by rw [h]; decide),e,ih]
   show _ = (g a + sm g (l.filter p)) + _
   omega
  | false =>
   rw [List.filter_cons_of_neg (by rw [h]; decide),List.filter_cons_of_pos (by rw [h]; rfl),e,ih]
   show _ = _ + (g a + sm g (l.filter λ a => !p a))
   omega
theorem Y0b {t b : Int} (h0 : 0 <= t) (hb : t <= b) (b1 : 1 <= b) {s l d : Nat} (hl : l <= s) (hd : d <= s) : t ^ l * b ^ (s - l) * b ^ d <= b ^ s * (if d <= l then t ^ d else b ^ d) := by
 by_cases h : d <= l
 ·rw [if_pos h]
  obtain ⟨e,rfl⟩ := Nat.exists_eq_add_of_le h
  obtain ⟨f,rfl⟩ := Nat.exists_eq_add_of_le hl
  have e1 : d + e + f - (d + e) = f := by omega
  rw [e1,Int.pow_add,Int.pow_add,Int.pow_add]
  have h1 : t ^ e <= b ^ e := Q9R h0 hb e
  have p1 : 0 <= t ^ d := Int.pow_nonneg h0
  have p2 : 0 <= b ^ f := Int.pow_nonneg wF
  have p3 : 0 <= b ^ d := Int.pow_nonneg wF
  generalize t ^ d = x at *
  generalize t ^ e = y at *
  generalize b ^ e = z at *
  generalize b ^ f = v at *
  generalize b ^ d = w at *
  have q : x * y * v * w <= x * z * v * w := Int.mul_le_mul_of_nonneg_right (Int.mul_le_mul_of_nonneg_right (Int.mul_le_mul_of_nonneg_left h1 p1) p2) p3
  have e2 : w * z * v * x = x * z * v * w := by
   rw [Int.mul_comm (w * z * v) x,Int.mul_assoc w z v,Int.mul_comm w (z * v),<- Int.mul_assoc,<- Int.mul_assoc]
  rw [e2]
  exact q
 ·rw [if_neg h]
  have h1 : t ^ l <= b ^ l := Q9R h0 hb l
  have p2 : 0 <= b ^ (s - l) := Int.pow_nonneg wF
  have p3 : 0 <= b ^ d := Int.pow_nonneg wF
  have e1 : b ^ s = b ^ l * b ^ (s - l) := by rw [<- Int.pow_add]; congr 1; omega
  rw [e1]
  exact Int.mul_le_mul_of_nonneg_right (Int.mul_le_mul_of_nonneg_right h1 p2) p3
theorem Y0o {ws : List Int} {n : Nat} (h : ws.length = n) : ws.sum = sm (λ k => ws.getD k 0) (List.range n) := by
 subst h
 rw [<- Q4h]
 congr 1
 refine List.ext_getElem? λ i => ?_
 rw [List.getElem?_map]
 by_cases hi : i < ws.length
 ·rw [List.getElem?_range hi,List.getElem?_eq_getElem hi]
  simp [List.getD,hi]
 ·rw [List.getElem?_eq_none wF,List.getElem?_eq_none (by simp; omega)]
  rfl
def Wfar (m so : Int) (said : List (Option Int)) (ws : List Int) : Int := sm (λ k => if ab (m - so) <= ab ((sat2 said k).getD 0 - so) then ws.getD k 0 else 0) (ax said)
theorem Z2p {ws : List Int} (h : Wok ws) (k : Nat) : 0 <= ws.getD k 0 := by
 by_cases hk : k < ws.length
 ·rw [List.getD_eq_getElem?_getD,List.getElem?_eq_getElem hk]
  exact h _ (List.getElem_mem hk)
 ·rw [List.getD_eq_getElem?_getD,List.getElem?_eq_none wF]
  exact Int.le_refl _
theorem Z8g (said : List (Option Int)) (ws : List Int) : (wsA said ws).sum = sm (λ k => ws.getD k 0) (ax said) := by unfold wsA; rw [Q4h]
theorem Z7B {said : List (Option Int)} {ws : List Int} (h24 : said.length <= 24) (hw : Wok ws) (so : Int) : sm (λ k => ws.getD k 0) (ax said) <= 2 * Wfar (midA said ws) so said ws := by
 have h2 := twoA (ws := ws) h24 hw
 have hp : 0 <= Wfar (midA said ws) so said ws := Q9C λ k _ => by
  have := Z2p hw k
  split <;> omega
 by_cases h0 : (wsA said ws).sum = 0
 ·rw [<- Z8g,h0]
  omega
 ·have hh := Z7D h2 so
  have e : cnt (wsA said ws) = wsA said ws := by unfold cnt; rw [if_neg h0]
  rw [e,<- Z9h,Z8g] at hh
  have e2 : sm (far (mid (nsA said) (wsA said ws)) so) (prA said ws) = Wfar (midA said ws) so said ws := by
   unfold prA Wfar midA
   rw [Y0z]
   rfl
  rw [e2] at hh
  exact hh
theorem Z4c {B T x y : Int} (h1 : T <= B) (h2 : y <= x) : 2 * (T * x + B * y) <= (B + T) * (x + y) := by
 have h := Int.mul_nonneg (show 0 <= B - T by omega) (show 0 <= x - y by omega)
 rw [Int.sub_mul,Int.mul_sub,Int.mul_sub] at h
 rw [Int.add_mul,Int.mul_add B,Int.mul_add T]
 omega
theorem Z4k {m sc t b so : Int} {said : List (Option Int)} {ws : List Int} (hf : Frac sc t b) (hs : Q0G m sc said) (hso : 0 <= so /\ so <= sc) (hw : Wok ws) :
  sm (nW t b sc (ab (midA said ws - so)) so said ws) (ax said) <= tS t b sc (ab (midA said ws - so)) * sm (λ k => ws.getD k 0) (ax said) := by
 have s1 := hf.s1; have s2 := hf.s2; have t0 := hf.t0; have tb := hf.tb; have b2 := hf.b2
 have h24 : said.length <= 24 := by have := hs.1; have := hs.2.1; omega
 have hd := Z1C (Q3W (ws := ws) hs wF hw) hso
 have hh := Z7B h24 hw so
 unfold Wfar at hh
 generalize midA said ws = mm at *
 generalize hdd : ab (mm - so) = dd at *
 obtain ⟨B,hB⟩ : ∃ B,b ^ dd.toNat = B := ⟨_,rfl⟩
 obtain ⟨Tt,hT⟩ : ∃ x,t ^ dd.toNat = x := ⟨_,rfl⟩
 have hTB : Tt <= B := by rw [<- hT,<- hB]; exact Q9R t0 wF _
 have c : ∀ k ∈ ax said,nW t b sc dd so said ws k <= 2 * b ^ sc.toNat * ((if dd <= ab ((sat2 said k).getD 0 - so) then Tt else B) * ws.getD k 0) := λ k hk => by
  have hq := (List.mem_filter.mp hk).2
  have hmem : sat2 said k ∈ said := by
   unfold sat2
   rw [List.getElem?_eq_getElem (Z6m hk)]
   exact List.getElem_mem _
  unfold nW
  cases hx : sat2 said k with
  | none => rw [hx] at hq; cases hq
  | some x =>
   rw [hx] at hmem
   have hon := Q9T ((hs.2.2 _ hmem).resolve_left (λ h => by cases h))
   have hl := Z1C hon hso
   show ws.getD k 0 * tA t b sc dd (ab (x - so)) <= 2 * b ^ sc.toNat * ((if dd <= ab (x - so) then Tt else B) * ws.getD k 0)
   have hw0 := Z2p hw k
   generalize ws.getD k 0 = y at *
   generalize ab (x - so) = l at *
   have hc := Y0b (s := sc.toNat) (l := l.toNat) (d := dd.toNat) t0 (Int.le_of_lt tb) wF wF wF
   have ei : (if dd.toNat <= l.toNat then t ^ dd.toNat else b ^ dd.toNat) = (if dd <= l then Tt else B) := by
    rw [hT,hB]
    by_cases h : dd <= l
    ·rw [if_pos h,if_pos wF]
    ·rw [if_neg h,if_neg wF]
   rw [ei] at hc
   have es : (sc - l).toNat = sc.toNat - l.toNat := by omega
   unfold tA
   rw [es]
   generalize (if dd <= l then Tt else B) = z at *
   generalize t ^ l.toNat * b ^ (sc.toNat - l.toNat) = v at *
   rw [hB] at hc ⊢
   have q := Int.mul_le_mul_of_nonneg_left hc (show 0 <= 2 * y by omega)
   have e1 : y * (v * 2 * B) = 2 * y * (v * B) := by rw [Int.mul_assoc v 2 B,Int.mul_comm 2 B,<- Int.mul_assoc v B 2,Int.mul_comm (v * B) 2,<- Int.mul_assoc,Int.mul_comm y 2]
   have e2 : 2 * b ^ sc.toNat * (z * y) = 2 * y * (b ^ sc.toNat * z) := by rw [Int.mul_assoc,Int.mul_assoc,Int.mul_comm z y,<- Int.mul_assoc (b ^ sc.toNat) y z,Int.mul_comm (b ^ sc.toNat) y,Int.mul_assoc y]
   rw [e1,e2]
   exact q
 refine Int.le_trans (Z4x c) ?_
 rw [Z1X]
 have e3 : sm (λ k => (if dd <= ab ((sat2 said k).getD 0 - so) then Tt else B) * ws.getD k 0) (ax said) = Tt * sm (λ k => if dd <= ab ((sat2 said k).getD 0 - so) then ws.getD k 0 else 0) (ax said) + B * sm (λ k => if dd <= ab ((sat2 said k).getD 0 - so) then 0 else ws.getD k 0) (ax said) := by
  rw [<- Z1X,<- Z1X,<- Q9D]
  refine Z4y λ k _ => ?_
  by_cases h : dd <= ab ((sat2 said k).getD 0 - so)
  ·rw [if_pos h,if_pos h,if_pos h,Int.mul_zero,Int.add_zero]
  ·rw [if_neg h,if_neg h,if_neg h,Int.mul_zero,Int.zero_add]
 have e4 : sm (λ k => ws.getD k 0) (ax said) = sm (λ k => if dd <= ab ((sat2 said k).getD 0 - so) then ws.getD k 0 else 0) (ax said) + sm (λ k => if dd <= ab ((sat2 said k).getD 0 - so) then 0 else ws.getD k 0) (ax said) := by
  rw [<- Q9D]
  refine Z4y λ k _ => ?_
  by_cases h : dd <= ab ((sat2 said k).getD 0 - so)
  ·rw [if_pos h,if_pos h,Int.add_zero]
  ·rw [if_neg h,if_neg h,Int.zero_add]
 rw [e3]
 rw [e4] at hh ⊢
 unfold tS
 rw [hB,hT]
 generalize sm (λ k => if dd <= ab ((sat2 said k).getD 0 - so) then ws.getD k 0 else 0) (ax said) = wf at *
 generalize sm (λ k => if dd <= ab ((sat2 said k).getD 0 - so) then 0 else ws.getD k 0) (ax said) = wn at *
 have q := Z4c (x := wf) (y := wn) hTB wF
 have p : 0 <= b ^ sc.toNat := Int.pow_nonneg wF
 have r := Int.mul_le_mul_of_nonneg_left q p
 rw [Int.mul_assoc,Int.mul_comm 2 (b ^ sc.toNat * (Tt * wf + B * wn)),Int.mul_assoc,Int.mul_comm (Tt * wf + B * wn) 2,Int.mul_assoc]
 exact r
theorem Z6R {m sc t b so : Int} {said : List (Option Int)} {ws : List Int} (hf : Frac sc t b) (hs : Q0G m sc said) (hso : 0 <= so /\ so <= sc) (hw : Wok ws) (hl : ws.length = said.length) :
  (Q2s t b sc (ab (midA said ws - so)) so said ws).sum <= ws.sum * tS t b sc (ab (midA said ws - so)) := by
 have ha := Z4k (ws := ws) hf hs hso hw
 rw [<- Y1f hl,Q4h,Y0o hl,Z1W (λ k => (sat2 said k).isSome) (nW _ _ _ _ _ _ _),Z1W (λ k => (sat2 said k).isSome) (λ k => ws.getD k 0),Int.mul_comm,Int.mul_add]
 refine Int.add_le_add ha (Int.le_of_eq ?_)
 rw [<- Z1X]
 refine Z4y λ k hk => ?_
 have hq := (List.mem_filter.mp hk).2
 unfold nW
 cases hx : sat2 said k with
 | some x => rw [hx] at hq; cases hq
 | none =>
  show ws.getD k 0 * tS t b sc (ab (midA said ws - so)) = _
  rw [Int.mul_comm]
def Q4g (C : Cs) : SpD := λ ds O R => ∃ (m : Nat) (s x : Int),ds = [.int (m : Nat),.int s,.int x] /\ (1 <= m /\ m <= 24) /\ (1 <= s /\ s <= 10) /\ ∀ v,HvOk 0 m s v -> R (.ptr O.length) (O ++ [some (C.o (m : Nat) s v)])
def PvA0 (C : Cs) (O : Sto) (m : Nat) (s : Int) (pv : List (Nat × Hv)) : Prop := ∀ x ∈ pv,O[x.1]? = some (some (C.o (m : Nat) s x.2)) /\ HvOk 0 m s x.2
def Q5x (C : Cs) : SpD := λ ds O R => ∃ (m : Nat) (s x : Int),ds = [.int (m : Nat),.int s,.int x] /\ Lo x /\ (1 <= m /\ m <= 24) /\ (1 <= s /\ s <= 10) /\ ∀ (O' : Sto) (pv : List (Nat × Hv)),(∃ Y,O' = O ++ Y) -> PvA0 C O' m s pv -> (1 <= pv.length /\ pv.length <= 5) -> R (.tup (pv.map λ z => .ptr z.1)) O'
theorem PvA0.app {C : Cs} {O Y : Sto} {m : Nat} {s : Int} {pv : List (Nat × Hv)} (h : PvA0 C O m s pv) : PvA0 C (O ++ Y) m s pv := λ x hx => ⟨Z2G (h x hx).1,(h x hx).2⟩
theorem Q4d {O O' Z : Sto} (h : ∃ Y,O' = O ++ Y) : ∃ Y,O' ++ Z = O ++ Y := by
 obtain ⟨Y,rfl⟩ := h
 exact ⟨_,List.append_assoc ..⟩
theorem size4 (x : Int) : ∃ n : Nat,atI [D.int 1,.int 2,.int 3,.int 5] (x % 4) = some (.int (n : Nat)) /\ 1 <= n /\ n <= 5 := by
 have h : x % 4 = 0 \/ x % 4 = 1 \/ x % 4 = 2 \/ x % 4 = 3 := by omega
 rcases h with h | h | h | h <;> rw [h]
 ·exact ⟨1,rfl,by decide,by decide⟩
 ·exact ⟨2,rfl,by decide,by decide⟩
 ·exact ⟨3,rfl,by decide,by decide⟩
 ·exact ⟨5,rfl,by decide,by decide⟩
def Len (m : Nat) (ts : List Tn) : Prop := ts.length <= 63 /\ ∀ t ∈ ts,t.1.length = m
def spOf : List D -> D -> Prop := λ ds d => ∃ (j m : Nat) (ts : List Tn),ds = [.int (0 + (j : Nat)),.tup (ts.map tD)] /\ Len m ts /\ j < m /\ d = .lst ((ts.map (Z3J j)).map D.int)
def Z6Q (m : Nat) (ts : List Tn) : List Int := (List.range m).map λ k => sm (Z3J k) ts
def Q5T : List D -> D -> Prop := λ ds d => ∃ (m : Nat) (ts : List Tn),ds = [.int (m : Nat),.tup (ts.map tD)] /\ m <= 24 /\ Len m ts /\ d = .tup ((Z6Q m ts).map D.int)
theorem Z2C (p : SP) : ∀ (ws : List Int) (c : Int),(ws.map λ w => w * (p.m * (p.pa - p.sh)) + c).sum = ws.sum * (p.m * (p.pa - p.sh)) + (ws.length : Nat) * c
 | [],c => by simp
 | w :: ws,c => by
  rw [List.map_cons,List.sum_cons,Z2C p ws c,List.sum_cons,List.length_cons]
  generalize p.m * (p.pa - p.sh) = K
  push_cast
  grind
theorem Z5N (ns : List Int) (st : Int) (m : Nat) : endR ns st m <= st + 60 := by
 unfold endR Q7w
 split <;> split <;> split <;> omega
theorem Q9y (ns : List Int) (st : Int) (m : Nat) (s : Int) (sl : Bool) : (Q7J ns st m s sl).length <= 60 := by
 unfold Q7J
 rw [List.length_map,List.length_range]
 have := Z5N ns st m
 omega
def rowD (r : List Int) : D := .tup (r.map D.int)
theorem Z9a (r : List Int) : npD (rowD r) = true := Z0c r
theorem Z4j : ∀ n : Nat,(List.replicate n (1 : Int)).sum = (n : Nat)
 | 0 => rfl
 | n + 1 => by rw [List.replicate_succ,List.sum_cons,Z4j n]; omega
theorem Y0x {sf : Bool} {p : SP} {said : List (Option Int)} {so u : Int} {ws : List Int} (hv : VOk sf p) (hsd : Q0G p.m p.sc said) (hso : 0 <= so /\ so <= p.sc) (hw0 : Wok ws) (hl : ws.length = said.length) (h : ws.sum <= u * p.m) : (hrW sf p said so ws).sum <= hrU sf p said so ws u * p.m := by
 have h24 := hsd.2.1
 have hl2 : (ws.length : Int) = p.m := by have := hsd.1; omega
 have hd := Z1C (Q3W (ws := ws) hsd (by have := hv.f.s1; omega) hw0) hso
 have hs := Z6R hv.f hsd hso hw0 hl
 have hT := Z4i (own := ab (midA said ws - so)) hv.f hd.2
 cases sf with
 | false =>
  show (Q2s p.t p.b p.sc (ab (midA said ws - so)) so said ws).sum <= u * tS p.t p.b p.sc (ab (midA said ws - so)) * p.m
  have e : u * tS p.t p.b p.sc (ab (midA said ws - so)) * p.m = u * p.m * tS p.t p.b p.sc (ab (midA said ws - so)) := by grind
  rw [e]
  exact Int.le_trans hs (Int.mul_le_mul_of_nonneg_right h hT.1)
 | true =>
  obtain ⟨q1,q2,q3⟩ := hv.s rfl
  show (Q4X p (Q2s p.t p.b p.sc (ab (midA said ws - so)) so said ws)).sum <= u * tS p.t p.b p.sc (ab (midA said ws - so)) * p.m * p.pa * p.m
  unfold Q4X
  rw [Z2C,Q3q hl,hl2]
  generalize (Q2s p.t p.b p.sc (ab (midA said ws - so)) so said ws).sum = X at hs
  generalize tS p.t p.b p.sc (ab (midA said ws - so)) = Y at hs hT
  generalize ws.sum = W at hs h
  have m1 := hv.m1
  have e1 : X * (p.m * (p.pa - p.sh)) + p.m * (p.sh * X) = X * (p.m * p.pa) := by grind
  have e2 : u * Y * p.m * p.pa * p.m = u * p.m * Y * (p.m * p.pa) := by grind
  rw [e1,e2]
  refine Int.mul_le_mul_of_nonneg_right (Int.le_trans hs (Int.mul_le_mul_of_nonneg_right h hT.1)) (Int.mul_nonneg wF wF)
def Q8o (C : Cs) : SpD := λ ds O R => ∃ (q n m : Nat) (s : Int) (sf : Bool) (p : SP) (ws : List Int) (u : Int) (ts : List Tn),ds = [.ptr q,.tup (ts.map tD)] /\ NAt C O (.p (.v sf p ws u)) q m s /\ NOk n (.p (.v sf p ws u)) m s /\ (1 <= m /\ m <= 24) /\ (1 <= s /\ s <= 10) /\ (∀ t ∈ ts,TnOk m s t) /\ ts.length <= 63 /\ ∀ rows : List (List Int),(∀ r ∈ rows,∃ a b x y : Int,r = [a,b,x,y] /\ x <= y * (m : Nat)) -> rows.length <= 63 -> R (.tup (rows.map rowD)) O
def Z4u (C : Cs) : SpD := λ ds O R => ∃ (n m : Nat) (s : Int) (pv : List (Nat × Hn)) (ts : List Tn),ds = [.tup (pv.map pnP),.tup (ts.map tD)] /\ PnAt C O m s 3 pv /\ pv.length <= 24 /\ (1 <= m /\ m <= 24) /\ (1 <= s /\ s <= 10) /\ (∀ t ∈ ts,TnOk m s t) /\ ts.length <= 63 /\ R (.tup ((tbN m (pv.map (·.2)) ts).map tD)) O
def Z0R (C : Cs) : SpD := λ ds O R => ∃ (m : Nat) (s : Int) (pv : List (Nat × Hn)) (hp : Nat) (v : Hv) (ts : List Tn),ds = [.tup (pv.map pnP),.ptr hp,.tup (ts.map tD)] /\ PnAt C O m s 3 pv /\ NAt C O (.p v) hp pv.length s /\ HvOk 0 pv.length s v /\ (1 <= pv.length /\ pv.length <= 24) /\ (1 <= m /\ m <= 24) /\ (1 <= s /\ s <= 10) /\ (∀ t ∈ ts,TnOk m s t) /\ ts.length <= 60 /\ ∀ Y : Sto,R (.bl true) (O ++ Y)
def Z4o (C : Cs) : SpD := λ ds O R => ∃ (m : Nat) (s x : Int) (pv : List (Nat × Hn)),ds = [.tup (pv.map pnP),.int (m : Nat),.int s,.int x] /\ Lo x /\ PnAt C O m s 2 pv /\ (1 <= pv.length /\ pv.length <= 5) /\ (1 <= m /\ m <= 24) /\ (1 <= s /\ s <= 10) /\ ∀ (O' : Sto) (pv' : List (Nat × Hn)),(∃ Y,O' = O ++ Y) -> PnAt C O' m s 2 pv' -> (1 <= pv'.length /\ pv'.length <= 5) -> R (.tup (pv'.map pnP)) O'
theorem PnAt.up {C : Cs} {O : Sto} {m j j' : Nat} {s : Int} {pv : List (Nat × Hn)} (h : PnAt C O m s j pv) (hj : j <= j') : PnAt C O m s j' pv := λ z hz => ⟨(h z hz).1,(h z hz).2.1,Nat.lt_of_lt_of_le (h z hz).2.2 hj⟩
theorem PnAt.ok {C : Cs} {O : Sto} {m j : Nat} {s : Int} {pv : List (Nat × Hn)} (h : PnAt C O m s (j + 1) pv) : ∀ z ∈ pv,NAt C O z.2 z.1 m s /\ (∃ n,NOk n z.2 m s) /\ depN z.2 <= j := λ z hz => ⟨(h z hz).1,(h z hz).2.1,Nat.le_of_lt_succ (h z hz).2.2⟩
theorem Z8l {C : Cs} {O : Sto} {m : Nat} {s : Int} {pv : List (Nat × Hv)} (hP : PvA0 C O m s pv) : PnAt C O m s 1 (pv.map λ z => (z.1,Hn.p z.2)) := λ x hx => by
 obtain ⟨z,hz,rfl⟩ := List.mem_map.mp hx
 exact ⟨NAt.pi (hP z hz).1,⟨0,by simpa only [NOk] using (hP z hz).2⟩,by simp only [depN]; decide⟩
theorem pv_p (pv : List (Nat × Hv)) : (pv.map λ z => D.ptr z.1) = (pv.map λ z => (z.1,Hn.p z.2)).map pnP := by rw [List.map_map]; rfl
theorem Y1y {zs : List Hn} {hz : Hn} {ch : List Int} {j : Nat} (h1 : ∀ y ∈ zs,depN y <= j) (h2 : depN hz <= j) : depN (.t zs hz ch) <= j + 1 := by
 simp only [depN]
 have : Q3r zs <= j := by
  clear h2
  induction zs with
  | nil => simp only [Q3r]; omega
  | cons y zs ih => simp only [Q3r]; exact Nat.max_le.mpr ⟨h1 y List.mem_cons_self,ih λ z hz => h1 z (List.mem_cons_of_mem _ hz)⟩
 have := Nat.max_le.mpr ⟨this,h2⟩
 omega
theorem Z1O {C : Cs} {O : Sto} {m r : Nat} {s : Int} {pv : List (Nat × Hn)} {v : Hv} {j : Nat} (h : PnAt C O m s (j + 1) pv) (hv : HvOk r pv.length s v) (hl : 1 <= pv.length /\ pv.length <= 24) : NOk 0 (Q0D (.t (pv.map (·.2)) (.p v) []) m) m s /\ depN (Q0D (.t (pv.map (·.2)) (.p v) []) m) <= j + 1 := by
 refine ⟨?_,?_⟩
 ·simp only [Q0D,NOk]
  refine ⟨(Q4E _).mpr λ y hy => ?_,?_,by rw [Q1r,List.length_map]; exact hl,by rw [List.length_replicate,Q1r]⟩
  ·rw [Q4A,List.map_map] at hy
   obtain ⟨z,hz,rfl⟩ := List.mem_map.mp hy
   exact NOk.anew _ _ _ (h z hz).2.1.choose_spec
  ·rw [Q1r,List.length_map]; exact hv.anew
 ·rw [Q5H]
  refine Y1y (λ y hy => ?_) (by simp only [depN]; omega)
  obtain ⟨z,hz,rfl⟩ := List.mem_map.mp hy
  exact Nat.le_of_lt_succ (h z hz).2.2
theorem cvT {K : W.Frag} {CW CS : Addr} (h1 : Q1Z K CW) (h2 : Q1Z K CS) (sf : Bool) : Q1Z K (wsC CW CS sf) := by cases sf; exact h1; exact h2
theorem kv {K : W.Frag} {CW CS C2 : Addr} {k : Bool} (h1 : PySem.W.kitOne K (.ref CW) (.ref C2) = some k) (h2 : PySem.W.kitOne K (.ref CS) (.ref C2) = some k) (sf : Bool) : PySem.W.kitOne K (.ref (wsC CW CS sf)) (.ref C2) = some k := by cases sf; exact h1; exact h2
theorem Y0B (l : List Int) (so : Int) (k : Nat) : sat (asS l,so) k = l[k]? := by
 unfold sat asS
 rw [List.getElem?_map]
 cases l[k]? <;> rfl
theorem Z8O (m : Nat) (hs : List Hn) (ts : List Tn) : Z6Q hs.length (tbN m hs ts) = hs.map λ v => Q6s m v ts ts.length := by
 unfold Z6Q
 have e : hs.map (λ v => Q6s m v ts ts.length) = (List.range hs.length).map λ k => Q6s m (hs.getD k (.p .h)) ts ts.length := by
  refine Eq.trans (congrArg (List.map λ v => Q6s m v ts ts.length) (Q4P hs (.p .h)).symm) ?_
  rw [List.map_map]; rfl
 rw [e]
 refine List.map_congr_left λ k hk => ?_
 have hk := List.mem_range.mp hk
 have hv : hs[k]? = some (hs.getD k (.p .h)) := by rw [List.getD_eq_getElem?_getD,List.getElem?_eq_getElem hk]; rfl
 unfold Q6s tbN
 rw [<- Q4h,List.map_map]
 congr 1
 refine List.map_congr_left λ i _ => ?_
 show chg (sat (asS (hs.map λ v => Q0U m v ts i),(tnX ts i).2) k) (tnX ts i).2 = _
 rw [Y0B,List.getElem?_map,hv]
 rfl
seal EvP Ev EvPs Ex Exs EvT EvI
section
variable {P : Program} {w : World} {K : PySem.W.Frag} {mg : Str -> Option Value} {base : Heap} {CK1 CK5 CK3 CK2 CK0 CK4 : Addr} {f : Addr} {fd : FuncData} (T : Txt K mg CK1 CK5 CK3 CK2 CK0 CK4)
include T
theorem Z1g (Fn : Fun K "is_whole" "is_whole" Q4L f fd) (hm : mg "is_whole" = some (.ref f)) (hb : Q0A K fd ["value"] []) : Q0j P w K mg base 1 "is_whole" (Q0i Q4f) := by
 refine okD (k := 0) Fn Z0W hm hb (λ ds O R h => ?_) (λ cdv A outer s H E ds O R hr h => ?_)
 ·obtain ⟨_,⟨_,rfl,_⟩,_⟩ := h; rfl
 ·obtain ⟨d,⟨w,rfl,rfl⟩,hR⟩ := h
  cases w with
  | none =>
   refine Q0c (Q0v (EvP.ev (Q4x (Q0s T.j2T (Q0a (Q0b 0) (Q0a (Q2Q T.j2U) Q0d)) (Z0q rfl)) (λ hbb => (Q5c (Z8y (Q0s T.j2T (Q0a (Q0b 0) (Q0a (Q2Q T.j2V) Q0d)) (Q8d rfl)))))) ?_))
   exact hR
  | some i =>
   refine Q0c (Q0v (EvP.ev (Q4x (Q0s T.j2T (Q0a (Q0b 0) (Q0a (Q2Q T.j2U) Q0d)) (Z0q rfl)) (λ hbb => (Q5c (Z8y (Q0s T.j2T (Q0a (Q0b 0) (Q0a (Q2Q T.j2V) Q0d)) (Q8d rfl)))))) ?_))
   exact hR
theorem Z3s (Fn : Fun K "counted" "counted" Q6o f fd) (hm : mg "counted" = some (.ref f)) (hb : Q0A K fd ["weights"] []) : Q0j P w K mg base 1 "counted" (Q0i Q5S) := by
 refine okD (k := 0) Fn Z3a hm hb (λ ds O R h => ?_) (λ cdv A outer s H E ds O R hr h => ?_)
 ·obtain ⟨_,⟨_,rfl,_⟩,_⟩ := h; rfl
 ·obtain ⟨d,⟨ws,rfl,hl,rfl⟩,hR⟩ := h
  refine Q0c (x_if (Q0I (Q0s T.j2P (Q0a (Q0b 0) Q0d) (Z6j (by first | exact Or.inr rfl | exact Or.inl (Or.inl rfl) | exact Or.inl (Or.inr (Or.inl rfl)) | exact Or.inl (Or.inr (Or.inr ⟨_,rfl,by first | assumption | rfl⟩))))) Q0g Q0M) (λ hk => ?_) (λ hk => ?_))
  ·have hk := of_decide_eq_true hk
   refine Q0c (Q0v (EvP.ev (Q0J (λ _ => .int 1) ["weight"] [] [] (Q2z (Q0b 0) wB) (by rw [sizeLine_eq]; omega) (by exact λ q hq s H fp => ⟨[some _],rfl,(Q0q 0 (show List.Nodup (["weight"] : List Str) by decide +kernel)),⟨_,rfl,Q0g⟩⟩)) ?_))
   unfold cnt at hR
   rw [if_pos hk,List.map_map] at hR
   exact hR
  ·have hk := of_decide_eq_false hk
   refine Q0p ?_
   refine Q0c (Q0v (EvP.ev (Q0x T.j2O (Q0a (Q0b 0) Q0d) (Y1E (by first | exact Or.inr rfl | exact Or.inl (Or.inl rfl) | exact Or.inl (Or.inr (Or.inl rfl)) | exact Or.inl (Or.inr (Or.inr ⟨_,rfl,by first | assumption | rfl⟩))))) ?_))
   unfold cnt at hR
   rw [if_neg hk] at hR
   exact hR
theorem Z4Z (Fn : Fun K "middle" "middle" Q8B f fd) (hm : mg "middle" = some (.ref f)) (hb : Q0A K fd ["numbers","weights"] []) (j0V : Q0j P w K mg base 1 "counted" (Q0i Q5S)) : Q0j P w K mg base 2 "middle" (Q0i Q8p) := by
 refine okD (k := 1) Fn Q1I hm hb (λ ds O R h => ?_) (λ cdv A outer s H E ds O R hr h => ?_)
 ·obtain ⟨_,⟨_,_,rfl,_⟩,_⟩ := h; rfl
 ·obtain ⟨d,⟨ns,ws,rfl,⟨h1,h2,h3⟩,rfl⟩,hR⟩ := h
  refine Q0c (Q0O 2 (EvP.ev (Q0h j0V (hr.mono wE) (Q0a (Q0b 1) Q0d) ⟨_,rfl,by assumption,rfl⟩) ?_) Q1I.nd)
  have hc := Z5X h3
  have hcl := Z1v ws
  unfold mid at hR
  generalize cnt ws = cs at hR hc hcl
  refine Q0c (Q0O 3 (EvP.ev (Q0s T.j2P (Q0a (Q0b 2) Q0d) (Z6j (by first | exact Or.inr rfl | exact Or.inl (Or.inl rfl) | exact Or.inl (Or.inr (Or.inl rfl)) | exact Or.inl (Or.inr (Or.inr ⟨_,rfl,by first | assumption | rfl⟩))))) ?_) Q1I.nd)
  refine Q0c (Q0O 4 (EvP.ev Q0g ?_) Q1I.nd)
  have hz : (ns.zip cs).length < 64 := by rw [List.length_zip]; omega
  have hsl : (srt ltP (ns.zip cs)).length <= 63 := by rw [(Q5u ltP (ns.zip cs)).length_eq]; omega
  have hsm : ∀ p ∈ srt ltP (ns.zip cs),0 <= p.2 := λ p hp => hc _ (List.of_mem_zip ((Q5u ltP (ns.zip cs)).mem_iff.mp hp)).2
  refine Q0c (Q5f (Q2z (Z3F ordP (λ Y => cmpP) Z5i (Q6P (Q0b 0) (Q0b 2) wB wB T.j2Q) wF T.j2R) wB) (λ i ρ O' => ∃ (r : Int) (u v : Option D),ρ = [some (.tup (ns.map D.int)),some (.tup (ws.map D.int)),some (.lst (cs.map D.int)),some (.int cs.sum),some (.int r),u,v] /\ r = sm (λ q => q.2) ((srt ltP (ns.zip cs)).take i) /\ go cs.sum 0 (srt ltP (ns.zip cs)) = go cs.sum r ((srt ltP (ns.zip cs)).drop i) /\ O' = O) ⟨0,_,_,rfl,rfl,rfl,rfl⟩ ?_ ?_)
  ·rintro i x ρ O' hx ⟨r,u,v,rfl,hr1,hg,rfl⟩
   rw [List.getElem?_map] at hx
   cases hp : (srt ltP (ns.zip cs))[i]? with
   | none => rw [hp] at hx; cases hx
   | some p =>
    rw [hp] at hx
    cases hx
    refine ⟨_,Q3b (Q0B (Q0q 5 Q1I.nd) (Q0B (Q0q 6 Q1I.nd) Q1G)),?_⟩
    refine Q0c (Q0O 4 (EvP.ev (Q0m (Q0b 4) (Q0b 6) Q1X) ?_) Q1I.nd)
    have h4 : r + p.2 = sm (λ q => q.2) ((srt ltP (ns.zip cs)).take (i + 1)) := by rw [Z8U hp,hr1]
    have hd : (srt ltP (ns.zip cs)).drop i = p :: (srt ltP (ns.zip cs)).drop (i + 1) := by
     obtain ⟨hi,e⟩ := List.getElem?_eq_some_iff.mp hp
     rw [List.drop_eq_getElem_cons hi,e]
    rw [hd] at hg
    refine Q0c (x_if (Q0I (Q0m Q0g (Q0b 4) (Q2Z (CMul.ok (Or.inl ⟨by decide,by decide⟩)))) (Q0b 3) Y1C) (λ hk => ?_) (λ hk => ?_))
    ·have hk := of_decide_eq_true hk
     refine Q0c (Q0v (EvP.ev (Q0b 5) ?_))
     rw [hg] at hR
     unfold go at hR
     rw [if_pos hk] at hR
     exact hR
    ·have hk := of_decide_eq_false hk
     refine Q0p (Q0p ?_)
     refine ⟨_,_,_,rfl,h4,?_,rfl⟩
     rw [hg]
     conv => lhs; unfold go
     rw [if_neg hk]
  ·rintro ρ O' ⟨r,u,v,rfl,hr1,hg,rfl⟩
   refine Q0c (Q0v (EvP.ev Q0g ?_))
   rw [List.length_map,List.drop_of_length_le (Nat.le_refl _)] at hg
   rw [hg] at hR
   exact hR
theorem Q6w (Fn : Fun K "check_within" "check_within" Q2i f fd) (hm : mg "check_within" = some (.ref f)) (hb : Q0A K fd ["what","value","least","most"] []) (j0z : Q0j P w K mg base 1 "is_whole" (Q0i Q4f)) : Q0j P w K mg base 2 "check_within" (Q0i Q2A) := by
 refine okD (k := 1) Fn Q5X hm hb (λ ds O R h => ?_) (λ cdv A outer s H E ds O R hr h => ?_)
 ·obtain ⟨_,⟨_,_,_,_,rfl,_⟩,_⟩ := h; rfl
 ·obtain ⟨d,⟨x,v,l,u,rfl,hv,rfl⟩,hR⟩ := h
  refine Q0c (x_if (EvW.t (Z3E (Q2x (Q2R (Q0h j0z (hr.mono wE) (Q0a (Q0b 1) Q0d) ⟨some v,rfl,rfl⟩))) (λ hbb => (Q8b (Q2x (Z7J (Q0b 2) (Q0b 1) (Q0b 3) Z2D (λ hbb => Z2D))))))) (λ hk => ?_) (λ hk => Q0p (Q0p hR)))
  exfalso
  have hk : (!true || !(decide (l <= v) && decide (v <= u))) = true := hk
  rw [decide_eq_true hv.1,decide_eq_true hv.2] at hk
  cases hk
theorem Q7r (Fn : Fun K "check_scale" "check_scale" Q2L f fd) (hm : mg "check_scale" = some (.ref f)) (hb : Q0A K fd ["scale"] []) (j0e : Q0j P w K mg base 2 "check_within" (Q0i Q2A)) : Q0j P w K mg base 3 "check_scale" (Q0i Z0Q) := by
 refine okD (k := 2) Fn Q7j hm hb (λ ds O R h => ?_) (λ cdv A outer s H E ds O R hr h => ?_)
 ·obtain ⟨_,⟨_,rfl,_⟩,_⟩ := h; rfl
 ·obtain ⟨d,⟨s,rfl,hs,rfl⟩,hR⟩ := h
  refine Q0c (Q0y (EvP.ev (Q0h j0e (hr.mono wE) (Q0a Q6Q (Q0a (Q0b 0) (Q0a Q0g (Q0a (Q6R T.j3d.choose_spec) Q0d)))) ⟨_,_,_,_,rfl,by omega,rfl⟩) ?_))
  exact Q0p hR
theorem Q6x (Fn : Fun K "check_making" "check_making" Q2j f fd) (hm : mg "check_making" = some (.ref f)) (hb : Q0A K fd ["many","scale"] []) (j0e : Q0j P w K mg base 2 "check_within" (Q0i Q2A)) (j0W : Q0j P w K mg base 3 "check_scale" (Q0i Z0Q)) : Q0j P w K mg base 4 "check_making" (Q0i Q8q) := by
 refine okD (k := 3) Fn Q5Y hm hb (λ ds O R h => ?_) (λ cdv A outer s H E ds O R hr h => ?_)
 ·obtain ⟨_,⟨_,_,rfl,_⟩,_⟩ := h; rfl
 ·obtain ⟨d,⟨m,s,rfl,hm,hs,rfl⟩,hR⟩ := h
  refine Q0c (Q0y (EvP.ev (Q0h j0e (hr.mono wE) (Q0a Q6Q (Q0a (Q0b 0) (Q0a Q0g (Q0a (Q6R T.j3c.choose_spec) Q0d)))) ⟨_,_,_,_,rfl,by omega,rfl⟩) ?_))
  refine Q0c (Q0y (EvP.ev (Q0h j0W (hr.mono wE) (Q0a (Q0b 1) Q0d) ⟨_,rfl,by assumption,rfl⟩) ?_))
  exact Q0p hR
theorem Q4R (Fn : Fun K "check_fraction" "check_fraction" Q1w f fd) (hm : mg "check_fraction" = some (.ref f)) (hb : Q0A K fd ["top","bottom"] []) (j0e : Q0j P w K mg base 2 "check_within" (Q0i Q2A)) : Q0j P w K mg base 3 "check_fraction" (Q0i Q4H) := by
 refine okD (k := 2) Fn Q4I hm hb (λ ds O R h => ?_) (λ cdv A outer s H E ds O R hr h => ?_)
 ·obtain ⟨_,⟨_,_,rfl,_⟩,_⟩ := h; rfl
 ·obtain ⟨d,⟨t,b,rfl,hb,rfl⟩,hR⟩ := h
  refine Q0c (Q0y (EvP.ev (Q0h j0e (hr.mono wE) (Q0a Q6Q (Q0a (Q0b 1) (Q0a Q0g (Q0a (Q6R T.j3e.choose_spec) Q0d)))) ⟨_,_,_,_,rfl,by omega,rfl⟩) ?_))
  refine Q0c (Q0y (EvP.ev (Q0h j0e (hr.mono wE) (Q0a Q6Q (Q0a (Q0b 0) (Q0a Q0g (Q0a (Q0m (Q0b 1) Q0g Z1j) Q0d)))) ⟨_,_,_,_,rfl,by omega,rfl⟩) ?_))
  exact Q0p hR
theorem Q7q (Fn : Fun K "check_share" "check_share" Q2K f fd) (hm : mg "check_share" = some (.ref f)) (hb : Q0A K fd ["share","parts"] []) (j0e : Q0j P w K mg base 2 "check_within" (Q0i Q2A)) : Q0j P w K mg base 3 "check_share" (Q0i Z0P) := by
 refine okD (k := 2) Fn Q7i hm hb (λ ds O R h => ?_) (λ cdv A outer s H E ds O R hr h => ?_)
 ·obtain ⟨_,⟨_,_,rfl,_⟩,_⟩ := h; rfl
 ·obtain ⟨d,⟨t,b,rfl,hb,rfl⟩,hR⟩ := h
  refine Q0c (Q0y (EvP.ev (Q0h j0e (hr.mono wE) (Q0a Q6Q (Q0a (Q0b 1) (Q0a Q0g (Q0a (Q6R T.j3f.choose_spec) Q0d)))) ⟨_,_,_,_,rfl,by omega,rfl⟩) ?_))
  refine Q0c (Q0y (EvP.ev (Q0h j0e (hr.mono wE) (Q0a Q6Q (Q0a (Q0b 0) (Q0a Q0g (Q0a (Q0m (Q0b 1) Q0g Z1j) Q0d)))) ⟨_,_,_,_,rfl,by omega,rfl⟩) ?_))
  exact Q0p hR
theorem Q7n (Fn : Fun K "is_on_scale" "is_on_scale" Q2H f fd) (hm : mg "is_on_scale" = some (.ref f)) (hb : Q0A K fd ["scale","value"] []) (j0z : Q0j P w K mg base 1 "is_whole" (Q0i Q4f)) : Q0j P w K mg base 2 "is_on_scale" (Q0i Z6U) := by
 refine okD (k := 1) Fn Q7g hm hb (λ ds O R h => ?_) (λ cdv A outer s H E ds O R hr h => ?_)
 ·obtain ⟨_,⟨_,_,rfl,_⟩,_⟩ := h; rfl
 ·obtain ⟨d,⟨s,w,rfl,rfl⟩,hR⟩ := h
  cases w with
  | none =>
   refine Q0c (Q0v (EvP.ev (Q4x (l := false) (Q0h j0z (hr.mono wE) (Q0a (Q0b 1) Q0d) ⟨none,rfl,rfl⟩) (λ hbb => absurd hbb Bool.false_ne_true)) ?_))
   exact hR
  | some i =>
   refine Q0c (Q0v (EvP.ev (Q4x (Q0h j0z (hr.mono wE) (Q0a (Q0b 1) Q0d) ⟨some i,rfl,rfl⟩) (λ hbb => (Q5c (Z7H Q0g (Q0b 1) (Q0b 0) Z2D (λ hbb => Z2D))))) ?_))
   exact hR
theorem Z3q (Fn : Fun K "is_said" "is_said" Q6m f fd) (hm : mg "is_said" = some (.ref f)) (hb : Q0A K fd ["many","scale","said"] []) (j0C : Q0j P w K mg base 2 "is_on_scale" (Q0i Z6U)) : Q0j P w K mg base 3 "is_said" (Q0i Q5w) := by
 refine okD (k := 2) Fn Z2Y hm hb (λ ds O R h => ?_) (λ cdv A outer s H E ds O R hr h => ?_)
 ·obtain ⟨_,⟨_,_,_,rfl,_⟩,_⟩ := h; rfl
 ·obtain ⟨d,⟨m,s,said,rfl,⟨h1,h2,h3⟩,rfl⟩,hR⟩ := h
  refine Q0c (x_if (EvW.t (Z3E (Q2x (Q2R (Q0s T.j2T (Q0a (Q0b 2) (Q0a (Q2Q T.j2N) Q0d)) (Q1T rfl)))) (λ hbb => (Q8b (Q0I (Q0s T.j2M (Q0a (Q0b 2) Q0d) (Q4z (by first | exact Or.inr rfl | exact Or.inl (Or.inl rfl) | exact Or.inl (Or.inr (Or.inl rfl)) | exact Or.inl (Or.inr (Or.inr ⟨_,rfl,by first | assumption | rfl⟩))))) (Q0b 0) Z1w))))) (λ hk => ?_) (λ hk => Q0p ?_))
  ·exfalso
   have e : (!decide ((((said.map od).length : Nat) : Int) = m)) = false := by rw [List.length_map,h1,decide_eq_true rfl]; rfl
   have hk : (!true || !decide ((((said.map od).length : Nat) : Int) = m)) = true := hk
   rw [e] at hk
   cases hk
  refine Q0c (Q0v (EvP.ev (Q0s T.j2W (Q0a (Q0J (λ w => .bl (isN (od w) || onS s w)) ["what"] ["scale"] [1] (Q2z (Q0b 2) wB) (by rw [sizeLine_eq]; omega) (by exact λ q hq s H fp => ⟨[some _],rfl,(Q0q 0 (show List.Nodup (["what","scale"] : List Str) by decide +kernel)),⟨_,rfl,(ev_or (Q5d (Q0b 0) Q4w Q6U) (λ hbb => (Q5c (Q0h j0C (hr.mono wE) (Q0a (Q0b 1) (Q0a (Q0b 0) Q0d)) ⟨_,q,rfl,rfl⟩))))⟩⟩)) Q0d) (Y0d (bs := said.map λ w => (isN (od w) || onS s w)) (Or.inl (Or.inl (congrArg D.lst (by rw [List.map_map]; rfl)))))) ?_))
  have e : ((said.map λ w => (isN (od w) || onS s w)).all id) = true := by
   rw [List.all_map,List.all_eq_true]
   intro w hw
   rcases h3 w hw with rfl | h
   ·rfl
   ·show (isN (od w) || onS s w) = true
    rw [h,Bool.or_true]
  rw [e]
  exact hR
theorem Q8N (Fn : Fun K "check_said" "check_said" Q3l f fd) (hm : mg "check_said" = some (.ref f)) (hb : Q0A K fd ["many","scale","said"] []) (j0D : Q0j P w K mg base 3 "is_said" (Q0i Q5w)) : Q0j P w K mg base 4 "check_said" (Q0i Q1H) := by
 refine okD (k := 3) Fn Q8z hm hb (λ ds O R h => ?_) (λ cdv A outer s H E ds O R hr h => ?_)
 ·obtain ⟨_,⟨_,_,_,rfl,_⟩,_⟩ := h; rfl
 ·obtain ⟨d,⟨m,s,said,rfl,hs,rfl⟩,hR⟩ := h
  exact Q0c (x_if (Q2x (Q2R (Q0h j0D (hr.mono wE) (Q0a (Q0b 0) (Q0a (Q0b 1) (Q0a (Q0b 2) Q0d))) ⟨_,_,_,rfl,by assumption,rfl⟩))) (λ hk => by cases hk) (λ hk => Q0p (Q0p hR)))
theorem Z7r (Fn : Fun K "power" "power" Z1b f fd) (hm : mg "power" = some (.ref f)) (hb : Q0A K fd ["base","exponent"] []) : Q0j P w K mg base 1 "power" (Q0i Z4r) := by
 refine okD (k := 0) Fn Q5z hm hb (λ ds O R h => ?_) (λ cdv A outer s H E ds O R hr h => ?_)
 ·obtain ⟨_,⟨_,_,rfl,_⟩,_⟩ := h; rfl
 ·obtain ⟨d,⟨b,n,rfl,hb,hn,rfl⟩,hR⟩ := h
  refine Q0c (Q0O 2 (EvP.ev Q0g ?_) Q5z.nd)
  refine Q0c (Q5f (Q2y (Q0b 1) T.j2S wC wC) (λ i ρ O' => ∃ u,ρ = [some (.int b),some (.int n),some (.int (b ^ i)),u] /\ O' = O) ⟨none,by rw [Int.pow_zero]; rfl,rfl⟩ ?_ ?_)
  ·rintro i x ρ O' hx ⟨u,rfl,rfl⟩
   refine ⟨_,Q0q 3 Q5z.nd,?_⟩
   refine Q0c (Q0O 2 (EvP.ev (Q0m (Q0b 2) (Q0b 0) (Q2Z (by first | assumption | exact CMul.ok (Or.inl ⟨by omega,by omega⟩) | exact CMul.ok (Or.inr ⟨by omega,by omega⟩)))) ?_) Q5z.nd)
   exact Q0p ⟨_,by rw [Int.pow_succ]; rfl,rfl⟩
  ·rintro ρ O' ⟨u,rfl,rfl⟩
   rw [Q0W]
   exact Q0c (Q0v (EvP.ev (Q0b 2) hR))
theorem Z5f (Fn : Fun K "charge" "charge" Q8H f fd) (hm : mg "charge" = some (.ref f)) (hb : Q0A K fd ["what","so"] []) : Q0j P w K mg base 1 "charge" (Q0i Q1D) := by
 refine okD (k := 0) Fn Z4G hm hb (λ ds O R h => ?_) (λ cdv A outer s H E ds O R hr h => ?_)
 ·obtain ⟨_,⟨_,_,rfl,_⟩,_⟩ := h; rfl
 ·obtain ⟨d,⟨w,z,rfl,rfl⟩,hR⟩ := h
  cases w with
  | none =>
   refine Q0c (x_if (Q0I (Q0b 0) Q4w Q6U) (λ hk => ?_) (λ hk => ?_))
   ·exact Q0c (Q0v (EvP.ev Q0g hR))
   ·cases hk
  | some w =>
   refine Q0c (x_if (Q0I (Q0b 0) Q4w Q6U) (λ hk => ?_) (λ hk => ?_))
   ·cases hk
   ·exact Q0p (Q0c (Q0v (EvP.ev (Q0s T.j2Z (Q0a (Q0m (Q0b 0) (Q0b 1) Z1j) Q0d) c_abs) hR)))
theorem Z3p (Fn : Fun K "is_turn" "is_turn" Q6l f fd) (hm : mg "is_turn" = some (.ref f)) (hb : Q0A K fd ["many","scale","turn"] []) (j0D : Q0j P w K mg base 3 "is_said" (Q0i Q5w)) (j0C : Q0j P w K mg base 2 "is_on_scale" (Q0i Z6U)) : Q0j P w K mg base 4 "is_turn" (Q0i Q5v) := by
 refine okD (k := 3) Fn Z2X hm hb (λ ds O R h => ?_) (λ cdv A outer s H E ds O R hr h => ?_)
 ·obtain ⟨_,⟨_,_,_,_,rfl,_⟩,_⟩ := h; rfl
 ·obtain ⟨d,⟨m,s,said,so,rfl,hs,hso,rfl⟩,hR⟩ := h
  refine Q0c (x_if (EvW.t (Z3E (Q2x (Q2R (Q0s T.j2T (Q0a (Q0b 2) (Q0a (Q2Q T.j2N) Q0d)) (Q1T rfl)))) (λ hbb => (Q8b (Q0I (Q0s T.j2M (Q0a (Q0b 2) Q0d) (Q4z (by first | exact Or.inr rfl | exact Or.inl (Or.inl rfl) | exact Or.inl (Or.inr (Or.inl rfl)) | exact Or.inl (Or.inr (Or.inr ⟨_,rfl,by first | assumption | rfl⟩))))) Q0g Z1w))))) (λ hk => by cases hk) (λ hk => Q0p ?_))
  have e : onS s (some so) = true := by
   show (decide (0 <= so) && decide (so <= s)) = true
   rw [decide_eq_true hso.1,decide_eq_true hso.2]; rfl
  refine Q0c (Q0v (EvP.ev (Q4x (Q0h j0D (hr.mono wE) (Q0a (Q0b 0) (Q0a (Q0b 1) (Q0a (Q1p (Q0b 2) Q0g rfl) Q0d))) ⟨_,_,_,rfl,by assumption,rfl⟩) (λ hbb => (Q5c (Q0h j0C (hr.mono wE) (Q0a (Q0b 1) (Q0a (Q1p (Q0b 2) Q0g rfl) Q0d)) ⟨s,some so,rfl,rfl⟩)))) ?_))
  rw [e]
  exact hR
theorem Q8L (Fn : Fun K "check_turn" "check_turn" Q3j f fd) (hm : mg "check_turn" = some (.ref f)) (hb : Q0A K fd ["many","scale","said","so"] []) (j0E : Q0j P w K mg base 4 "is_turn" (Q0i Q5v)) : Q0j P w K mg base 5 "check_turn" (Q0i Q0S) := by
 refine okD (k := 4) Fn Q8x hm hb (λ ds O R h => ?_) (λ cdv A outer s H E ds O R hr h => ?_)
 ·obtain ⟨_,⟨_,_,_,_,rfl,_⟩,_⟩ := h; rfl
 ·obtain ⟨d,⟨m,s,said,so,rfl,hs,hso,rfl⟩,hR⟩ := h
  exact Q0c (x_if (Q2x (Q2R (Q0h j0E (hr.mono wE) (Q0a (Q0b 0) (Q0a (Q0b 1) (Q0a (Q2X (Q0a (Q0b 2) (Q0a (Q0b 3) Q0d))) Q0d))) ⟨_,_,_,_,rfl,by assumption,by assumption,rfl⟩))) (λ hk => by cases hk) (λ hk => Q0p (Q0p hR)))
theorem Z1h (Fn : Fun K "awake_in" "awake_in" Q4M f fd) (hm : mg "awake_in" = some (.ref f)) (hb : Q0A K fd ["said"] []) : Q0j P w K mg base 1 "awake_in" (Q0i Q8u) := by
 refine okD (k := 0) Fn Z0X hm hb (λ ds O R h => ?_) (λ cdv A outer s H E ds O R hr h => ?_)
 ·obtain ⟨_,⟨_,rfl,_⟩,_⟩ := h; rfl
 ·obtain ⟨d,⟨said,rfl,hs,rfl⟩,hR⟩ := h
  refine Q0c (Q0v (EvP.ev (Z2v (λ q : Option Int × Nat => if (!isN (od q.1)) = true then some (D.int (q.2 : Nat)) else none) ["adviser","what"] [] [] (ei_Z (Z2r (Q0b 0) wB T.j2Y)) (by rw [List.length_zipIdx,sizeLine_eq]; omega) (by exact λ q hq s H fp => ⟨[some _,some _],rfl,(Q3b (Q0B (Q0q 0 (show List.Nodup (["adviser","what"] : List Str) by decide +kernel)) (Q0B (Q0q 1 (show List.Nodup (["adviser","what"] : List Str) by decide +kernel)) Q1G))),⟨_,(Q0I (Q0b 1) Q4w Z5Z),λ hbb => ⟨_,if_pos hbb,(Q0b 0)⟩,λ hbb => if_neg (λ hcc => Bool.false_ne_true (hbb.symm.trans hcc))⟩⟩)) ?_))
  rw [Z7S]
  exact hR
theorem Q6v (Fn : Fun K "middle_awake" "middle_awake" Q2h f fd) (hm : mg "middle_awake" = some (.ref f)) (hb : Q0A K fd ["said","weights"] []) (j0X : Q0j P w K mg base 2 "middle" (Q0i Q8p)) (j0F : Q0j P w K mg base 1 "awake_in" (Q0i Q8u)) : Q0j P w K mg base 4 "middle_awake" (Q0i spMA) := by
 refine okD (k := 3) Fn Q3g hm hb (λ ds O R h => ?_) (λ cdv A outer s H E ds O R hr h => ?_)
 ·obtain ⟨_,⟨_,_,rfl,_⟩,_⟩ := h; rfl
 ·obtain ⟨d,⟨said,ws,rfl,hs,hl,hw,rfl⟩,hR⟩ := h
  have hal := Z6n said
  refine Q0c (Q0O 2 (EvP.ev (Q0h j0F (hr.mono wE) (Q0a (Q0b 0) Q0d) ⟨_,rfl,by assumption,rfl⟩) ?_) Q3g.nd)
  have e : [D.tup ((ax said).map λ k => D.int ((sat2 said k).getD 0)),D.tup ((ax said).map λ k => D.int (ws.getD k 0))] = [.tup ((nsA said).map D.int),.tup ((wsA said ws).map D.int)] := by
   unfold nsA wsA
   rw [List.map_map,List.map_map]
   rfl
  exact Q0c (Q0v (EvP.ev (Q0h j0X (hr.mono wE) (Q0a (Q0x T.j2N (Q0a (Q0J (λ k => D.int ((sat2 said k).getD 0)) ["adviser"] ["said"] [0] (Q2z (Q0b 2) wB) (by rw [sizeLine_eq]; omega) (by exact λ q hq s H fp => ⟨[some _],rfl,(Q0q 0 (show List.Nodup (["adviser","said"] : List Str) by decide +kernel)),⟨_,rfl,(Q1p (Q0b 1) (Q0b 0) (Y1J hq))⟩⟩)) Q0d) (Q0N (by first | exact Or.inr rfl | exact Or.inl (Or.inl rfl) | exact Or.inl (Or.inr (Or.inl rfl)) | exact Or.inl (Or.inr (Or.inr ⟨_,rfl,by first | assumption | rfl⟩))))) (Q0a (Q0x T.j2N (Q0a (Q0J (λ k => D.int (ws.getD k 0)) ["adviser"] ["weights"] [1] (Q2z (Q0b 2) wB) (by rw [sizeLine_eq]; omega) (by exact λ q hq s H fp => ⟨[some _],rfl,(Q0q 0 (show List.Nodup (["adviser","weights"] : List Str) by decide +kernel)),⟨_,rfl,(Q1p (Q0b 1) (Q0b 0) (Y1I (by have := Z6m hq; omega)))⟩⟩)) Q0d) (Q0N (by first | exact Or.inr rfl | exact Or.inl (Or.inl rfl) | exact Or.inl (Or.inr (Or.inl rfl)) | exact Or.inl (Or.inr (Or.inr ⟨_,rfl,by first | assumption | rfl⟩))))) Q0d)) ⟨nsA said,wsA said ws,e,twoA hs hw,rfl⟩) hR))
theorem Q7l (Fn : Fun K "times_awake" "times_awake" Q2F f fd) (hm : mg "times_awake" = some (.ref f)) (hb : Q0A K fd ["keeper","own","off"] []) (j0p : Q0j P w K mg base 1 "power" (Q0i Z4r)) : Q0j P w K mg base 2 "times_awake" (Z8R CK5 CK3) := by
 refine okD (k := 1) Fn Q3F hm hb (λ ds O R h => ?_) (λ cdv A outer s H E ds O R hr h => ?_)
 ·obtain ⟨_,_,_,_,_,_,_,rfl,_⟩ := h; rfl
 ·obtain ⟨q,sf,p,u,own,off,ws,rfl,hW,hp,ho,hof,hR⟩ := h
  have hf := hp.f
  have s1 := hf.s1; have s2 := hf.s2; have t0 := hf.t0; have tb := hf.tb; have b2 := hf.b2
  have a1 := pw81 (x := p.t) (e := off) hf.t0 wF wF
  have a2 := pw81 (x := p.b) (e := p.sc - off) wF wF wF
  have a3 := pw81 (x := p.b) (e := own) wF wF wF
  have c1 := Q2W a1.1 a1.2 a2.1 a2.2
  have c2 := Q2W (c := 2) c1.1 c1.2 (show (0 : Int) <= 2 by decide) wE
  refine Q0c (Q0O 3 (EvP.ev (Q0m (Q0h j0p (hr.mono wE) (Q0a (Q0n (Q0b 0) hW (cv T.j3n.cls T.j3x.cls sf) (nv T.j3r T.j3B sf) (Z8i sf p u ws)) (Q0a (Q0b 2) Q0d)) ⟨_,_,rfl,⟨by omega,by omega⟩,⟨by omega,by omega⟩,rfl⟩) (Q0h j0p (hr.mono wE) (Q0a (Q0n (Q0b 0) hW (cv T.j3n.cls T.j3x.cls sf) (nv T.j3s T.j3C sf) (Q4c sf p u ws)) (Q0a (Q0m (Q0n (Q0b 0) hW (cv T.j3n.cls T.j3x.cls sf) (nv T.j3q T.j3A sf) (Q5t sf p u ws)) (Q0b 2) Z1j) Q0d)) ⟨_,_,rfl,⟨by omega,by omega⟩,⟨by omega,by omega⟩,rfl⟩) (Q2Z (mulP a1.1 a1.2 a2.1 a2.2))) ?_) Q3F.nd)
  exact Q0c (Q0v (EvP.ev (Q0m (Q0m (Q0b 3) Q0g (Q2Z (by first | assumption | exact CMul.ok (Or.inl ⟨by omega,by omega⟩) | exact CMul.ok (Or.inr ⟨by omega,by omega⟩)))) (Q0h j0p (hr.mono wE) (Q0a (Q0n (Q0b 0) hW (cv T.j3n.cls T.j3x.cls sf) (nv T.j3s T.j3C sf) (Q4c sf p u ws)) (Q0a (Q0b 1) Q0d)) ⟨_,_,rfl,⟨by omega,by omega⟩,⟨by omega,by omega⟩,rfl⟩) (Q2Z (mulP c2.1 c2.2 a3.1 a3.2))) hR))
theorem Q6u (Fn : Fun K "times_asleep" "times_asleep" Q2g f fd) (hm : mg "times_asleep" = some (.ref f)) (hb : Q0A K fd ["keeper","own"] []) (j0p : Q0j P w K mg base 1 "power" (Q0i Z4r)) : Q0j P w K mg base 2 "times_asleep" (Z6T CK5 CK3) := by
 refine okD (k := 1) Fn Q5W hm hb (λ ds O R h => ?_) (λ cdv A outer s H E ds O R hr h => ?_)
 ·obtain ⟨_,_,_,_,_,_,rfl,_⟩ := h; rfl
 ·obtain ⟨q,sf,p,u,own,ws,rfl,hW,hp,ho,hR⟩ := h
  have hf := hp.f
  have s1 := hf.s1; have s2 := hf.s2; have t0 := hf.t0; have tb := hf.tb; have b2 := hf.b2
  have a1 := pw81 (x := p.b) (e := p.sc) wF wF wF
  have a2 := pw81 (x := p.b) (e := own) wF wF wF
  have a3 := pw81 (x := p.t) (e := own) hf.t0 wF wF
  have e82 : (2 : Int) ^ 82 = 2 ^ 81 + 2 ^ 81 := by decide
  exact Q0c (Q0v (EvP.ev (Q0m (Q0h j0p (hr.mono wE) (Q0a (Q0n (Q0b 0) hW (cv T.j3n.cls T.j3x.cls sf) (nv T.j3s T.j3C sf) (Q4c sf p u ws)) (Q0a (Q0n (Q0b 0) hW (cv T.j3n.cls T.j3x.cls sf) (nv T.j3q T.j3A sf) (Q5t sf p u ws)) Q0d)) ⟨_,_,rfl,⟨by omega,by omega⟩,⟨by omega,by omega⟩,rfl⟩) (Q0m (Q0h j0p (hr.mono wE) (Q0a (Q0n (Q0b 0) hW (cv T.j3n.cls T.j3x.cls sf) (nv T.j3s T.j3C sf) (Q4c sf p u ws)) (Q0a (Q0b 1) Q0d)) ⟨_,_,rfl,⟨by omega,by omega⟩,⟨by omega,by omega⟩,rfl⟩) (Q0h j0p (hr.mono wE) (Q0a (Q0n (Q0b 0) hW (cv T.j3n.cls T.j3x.cls sf) (nv T.j3r T.j3B sf) (Z8i sf p u ws)) (Q0a (Q0b 1) Q0d)) ⟨_,_,rfl,⟨by omega,by omega⟩,⟨by omega,by omega⟩,rfl⟩) Q1X) (Q2Z (mulP (n := 82) a1.1 a1.2 wF (by rw [e82]; omega)))) hR))
theorem Z7q (Fn : Fun K "times" "times" Z1a f fd) (hm : mg "times" = some (.ref f)) (hb : Q0A K fd ["keeper","own","what","so"] []) (j0a : Q0j P w K mg base 1 "charge" (Q0i Q1D)) (j0G : Q0j P w K mg base 2 "times_asleep" (Z6T CK5 CK3)) (j0Y : Q0j P w K mg base 2 "times_awake" (Z8R CK5 CK3)) : Q0j P w K mg base 3 "times" (Z8Q CK5 CK3) := by
 refine okD (k := 2) Fn Z6Z hm hb (λ ds O R h => ?_) (λ cdv A outer s H E ds O R hr h => ?_)
 ·obtain ⟨_,_,_,_,_,_,_,_,rfl,_⟩ := h; rfl
 ·obtain ⟨q,sf,p,u,own,so,w,ws,rfl,hW,hp,ho,hso,hw,hR⟩ := h
  cases w with
  | none =>
   refine Q0c (x_if (Q0I (Q0b 2) Q4w Q6U) (λ hk => ?_) (λ hk => by cases hk))
   exact Q0c (Q0v (EvP.ev (Ev.evp (Q0H j0G (hr.mono wE) (Q0a (Q0b 0) (Q0a (Q0b 1) Q0d)) ⟨q,sf,p,u,own,ws,rfl,hW,hp,ho,rfl,rfl⟩)) hR))
  | some x =>
   have hx := Q9T (hw.resolve_left (λ h => by cases h))
   refine Q0c (x_if (Q0I (Q0b 2) Q4w Q6U) (λ hk => by cases hk) (λ hk => Q0p ?_))
   exact Q0c (Q0v (EvP.ev (Ev.evp (Q0H j0Y (hr.mono wE) (Q0a (Q0b 0) (Q0a (Q0b 1) (Q0a (Q0h j0a (hr.mono wE) (Q0a (Q0b 2) (Q0a (Q0b 3) Q0d)) ⟨some x,so,rfl,rfl⟩) Q0d))) ⟨q,sf,p,u,own,ab (x - so),ws,rfl,hW,hp,ho,Z1C hx hso,rfl,rfl⟩)) hR))
theorem Q7p (Fn : Fun K "check_turns" "check_turns" Q2J f fd) (hm : mg "check_turns" = some (.ref f)) (hb : Q0A K fd ["many","scale","turns"] []) (j0E : Q0j P w K mg base 4 "is_turn" (Q0i Q5v)) : Q0j P w K mg base 5 "check_turns" (Q0i Q2a) := by
 refine okD (k := 4) Fn Q2f hm hb (λ ds O R h => ?_) (λ cdv A outer s H E ds O R hr h => ?_)
 ·obtain ⟨_,⟨_,_,_,rfl,_⟩,_⟩ := h; rfl
 ·obtain ⟨d,⟨m,s,ts,rfl,hm,hts,rfl⟩,hR⟩ := h
  refine Q0c (x_if (Q2x (Q2R (Q0s T.j2T (Q0a (Q0b 2) (Q0a (Q2Q T.j2N) Q0d)) (Q1T rfl)))) (λ hk => by cases hk) (λ hk => Q0p ?_))
  refine Q0c (Q5f (ei_Z (Z2r (Q0b 2) wB T.j2Y)) (λ i ρ O' => (∃ u v : Option D,ρ = [some (.int (m : Nat)),some (.int s),some (.tup (ts.map tD)),u,v]) /\ O' = O) ⟨⟨_,_,rfl⟩,rfl⟩ ?_ ?_)
  ·rintro i x ρ O' hx ⟨⟨u,v,rfl⟩,rfl⟩
   rw [List.getElem?_map] at hx
   cases hp : ts.zipIdx[i]? with
   | none => rw [hp] at hx; cases hx
   | some p =>
    rw [hp] at hx
    cases hx
    have hok := hts p.1 (List.fst_mem_of_mem_zipIdx (List.mem_of_getElem? hp))
    have hsd := hok.said hm
    have hso := hok.2.2
    refine ⟨_,Q3b (Q0B (Q0q 3 Q2f.nd) (Q0B (Q0q 4 Q2f.nd) Q1G)),?_⟩
    exact Q0c (x_if (Q2x (Q2R (Q0h j0E (hr.mono wE) (Q0a (Q0b 0) (Q0a (Q0b 1) (Q0a (Q0b 4) Q0d))) ⟨(m : Nat),s,p.1.1,p.1.2,rfl,hsd,hso,rfl⟩))) (λ hk => by cases hk) (λ hk => Q0p (Q0p ⟨⟨_,_,rfl⟩,rfl⟩)))
  ·rintro ρ O' ⟨⟨u,v,rfl⟩,rfl⟩
   exact Q0p hR
theorem Q8O (Fn : Fun K "check_push" "check_push" Q3m f fd) (hm : mg "check_push" = some (.ref f)) (hb : Q0A K fd ["many","push"] []) (j0e : Q0j P w K mg base 2 "check_within" (Q0i Q2A)) (j0p : Q0j P w K mg base 1 "power" (Q0i Z4r)) : Q0j P w K mg base 3 "check_push" (Q0i Z4q) := by
 refine okD (k := 2) Fn Q4k hm hb (λ ds O R h => ?_) (λ cdv A outer s H E ds O R hr h => ?_)
 ·obtain ⟨_,⟨_,_,rfl,_⟩,_⟩ := h; rfl
 ·obtain ⟨d,⟨m,ps,rfl,hp,hm,rfl⟩,hR⟩ := h
  refine Q0c (x_if (EvW.t (Z3E (Q2x (Q2R (Q0s T.j2T (Q0a (Q0b 1) (Q0a (Q2Q T.j2N) Q0d)) (Q1T rfl)))) (λ hbb => (Q8b (Q0I (Q0s T.j2M (Q0a (Q0b 1) Q0d) (Q4z (by first | exact Or.inr rfl | exact Or.inl (Or.inl rfl) | exact Or.inl (Or.inr (Or.inl rfl)) | exact Or.inl (Or.inr (Or.inr ⟨_,rfl,by first | assumption | rfl⟩))))) (Q0b 0) Z1w))))) (λ hk => ?_) (λ hk => Q0p ?_))
  ·exfalso
   have hk : (!true || !decide ((((ps.map D.int).length : Nat) : Int) = m)) = true := hk
   rw [List.length_map,hp.1,decide_eq_true rfl] at hk
   cases hk
  refine Q0c (Q5f (Q2z (Q0b 1) wB) (λ i ρ O' => (∃ u,ρ = [some (.int m),some (.tup (ps.map D.int)),u]) /\ O' = O) ⟨⟨_,rfl⟩,rfl⟩ ?_ ?_)
  ·rintro i x ρ O' hx ⟨⟨u,rfl⟩,rfl⟩
   rw [List.getElem?_map] at hx
   cases hi : ps[i]? with
   | none => rw [hi] at hx; cases hx
   | some p =>
    rw [hi] at hx
    cases hx
    have hb := hp.2 p (List.mem_of_getElem? hi)
    refine ⟨_,Q0q 2 Q4k.nd,?_⟩
    exact Q0c (Q0y (EvP.ev (Q0h j0e (hr.mono wE) (Q0a Q6Q (Q0a (Q0b 2) (Q0a Q0g (Q0a (Q0m (Q0h j0p (hr.mono wE) (Q0a Q0g (Q0a (Q6R T.j3g.choose_spec) Q0d)) ⟨10,60,rfl,by decide,by decide,rfl⟩) Q0g Z1j) Q0d)))) ⟨_,_,_,_,rfl,hb,rfl⟩) (Q0p ⟨⟨_,rfl⟩,rfl⟩)))
  ·rintro ρ O' ⟨⟨u,rfl⟩,rfl⟩
   exact Q0p hR
theorem Z3k (Fn : Fun K "push_of" "push_of" Q6g f fd) (hm : mg "push_of" = some (.ref f)) (hb : Q0A K fd ["many","push"] []) (j0Z : Q0j P w K mg base 3 "check_push" (Q0i Z4q)) : Q0j P w K mg base 4 "push_of" (Q0i Q8n) := by
 refine okD (k := 3) Fn Z2V hm hb (λ ds O R h => ?_) (λ cdv A outer s H E ds O R hr h => ?_)
 ·obtain ⟨_,⟨_,_,rfl,_⟩,_⟩ := h; rfl
 ·obtain ⟨d,⟨m,po,rfl,hm,hp,rfl⟩,hR⟩ := h
  cases po with
  | none =>
   refine Q0c (x_if (Q0I (Q0b 1) Q4w Q6U) (λ hk => ?_) (λ hk => by cases hk))
   refine Q0c (Q0v (EvP.ev (Q0m (Q2X (Q0a Q0g Q0d)) (Q0b 0) (Q7T hm.1 wF (by simp) (by rw [sizeLine_eq]; show 1 * m.toNat <= _; omega))) ?_))
   rw [Z8H]
   exact hR
  | some ps =>
   have hp : Q6V m ps := hp
   have hm2 := hm.2
   refine Q0c (x_if (Q0I (Q0b 1) Q4w Q6U) (λ hk => by cases hk) (λ hk => Q0p ?_))
   refine Q0c (Q0y (EvP.ev (Q0h j0Z (hr.mono wE) (Q0a (Q0b 0) (Q0a (Q0b 1) Q0d)) ⟨m,ps,rfl,hp,hm2,rfl⟩) ?_))
   exact Q0c (Q0v (EvP.ev (Q0b 1) hR))
theorem Q7o (Fn : Fun K "first_least" "first_least" Q2I f fd) (hm : mg "first_least" = some (.ref f)) (hb : Q0A K fd ["scores","advisers"] []) : Q0j P w K mg base 1 "first_least" (Q0i Z0S) := by
 refine okD (k := 0) Fn Q7h hm hb (λ ds O R h => ?_) (λ cdv A outer s H E ds O R hr h => ?_)
 ·obtain ⟨_,⟨_,_,_,rfl,_⟩,_⟩ := h; rfl
 ·obtain ⟨d,⟨sc,as,k,rfl,hl,hb,hf,rfl⟩,hR⟩ := h
  have hy : ∀ q ∈ as,atI (sc.map D.int) (q : Nat) = some (.int (sc.getD q 0)) := λ q hq => Y1I (hb q hq)
  have hne : (as.map λ k => (sc.getD k 0,((k : Nat) : Int))) ≠ [] := λ z => by
   rw [List.map_eq_nil_iff] at z
   have := hf.1
   rw [z] at this
   cases this
  refine Q0c (Q0v (EvP.ev (Q1p (Q0s T.j3a (Q0a (Q0J (λ k : Nat => pD (sc.getD k 0,((k : Nat) : Int))) ["adviser"] ["scores"] [0] (Q2z (Q0b 1) wB) (by rw [sizeLine_eq]; omega) (by exact λ q hq s H fp => ⟨[some _],rfl,(Q0q 0 (show List.Nodup (["adviser","scores"] : List Str) by decide +kernel)),⟨_,rfl,(Q2X (Q0a (Q1p (Q0b 1) (Q0b 0) (hy q hq)) (Q0a (Q0b 0) Q0d)))⟩⟩)) Q0d) (Y1D hr (ps := as.map λ k => (sc.getD k 0,((k : Nat) : Int))) (Or.inl (congrArg D.lst (by rw [List.map_map]; rfl))) hne)) Q0g rfl) ?_))
  rw [Z9z hf]
  exact hR
theorem Q5m (Fn : Fun K "__init__" "Hand.__init__" Q1N f fd)  (j1a : Q0j P w K mg base 4 "check_making" (Q0i Q8q)) : FnOk P w K mg base CX0 5 f fd ["self","many","scale"] (toSp K (Q1t (λ C => C = CK1 \/ C = CK5 \/ C = CK3 \/ C = CK2 \/ C = CK4 \/ C = CK0))) := by
 refine okF (k := 4) Fn Q5h (λ ds O R h => ?_) (λ cdv A outer s H E ds O R hr h => ?_)
 ·obtain ⟨_,_,_,_,rfl,_⟩ := h; rfl
 ·obtain ⟨q,m,s,C,rfl,hC,hq,hm,hs,hR⟩ := h
  have hc : Cls K C := by rcases hC with rfl | rfl | rfl | rfl | rfl | rfl; exact T.j3h.cls; exact T.j3n.cls; exact T.j3x.cls; exact T.j3J.cls; exact T.j3Z.cls; exact T.j3R.cls
  have n1 : Q0l K C "many" := by rcases hC with rfl | rfl | rfl | rfl | rfl | rfl; exact T.j3j; exact T.j3p; exact T.j3z; exact T.j3L; exact T.j4b; exact T.j3T
  have n2 : Q0l K C "scale" := by rcases hC with rfl | rfl | rfl | rfl | rfl | rfl; exact T.j3k; exact T.j3q; exact T.j3A; exact T.j3M; exact T.j4c; exact T.j3U
  refine Q0c (Q0y (EvP.ev (Q0h j1a (hr.mono wE) (Q0a (Q0b 1) (Q0a (Q0b 2) Q0d)) ⟨_,_,rfl,by assumption,by assumption,rfl⟩) ?_))
  refine Q0c (Q1V (Q0b 1) (Q0b 0) hq hc n1 wE ?_)
  refine Q0c (Q1V (Q0b 2) (Q0b 0) (Q1h hq) hc n2 (by show 1 < 1000; decide) ?_)
  refine Q0p ?_
  rw [List.set_set,Z7g]
  exact hR
theorem Q7u (Fn : Fun K "heeded" "Hand.heeded" Q2O f fd)  : FnOk P w K mg base CX0 1 f fd ["self"] (toSp K (Q8s CK1)) := by
 refine okF (k := 0) Fn Q7k (λ ds O R h => ?_) (λ cdv A outer s H E ds O R hr h => ?_)
 ·obtain ⟨_,_,_,rfl,_⟩ := h; rfl
 ·obtain ⟨q,m,s,rfl,hq,hm,hR⟩ := h
  refine Q0c (Q0v (EvP.ev (Q0m (Q2X (Q0a Q0g Q0d)) (Q0n (Q0b 0) hq T.j3h.cls T.j3j (Q6N m s)) (Q7T hm.1 wF (by simp) (by rw [sizeLine_eq]; show 1 * m.toNat <= _; omega))) ?_))
  rw [ones]
  exact hR
theorem Q4S (Fn : Fun K "heeded" "Weigher.heeded" Q1x f fd)  : FnOk P w K mg base CX0 1 f fd ["self"] (toSp K (Q4G CK5 CK3)) := by
 refine okF (k := 0) Fn Q4J (λ ds O R h => ?_) (λ cdv A outer s H E ds O R hr h => ?_)
 ·obtain ⟨_,_,_,_,_,rfl,_⟩ := h; rfl
 ·obtain ⟨q,sf,p,u,ws,rfl,hW,hR⟩ := h
  exact Q0c (Q0v (EvP.ev (Q0n (Q0b 0) hW (cv T.j3n.cls T.j3x.cls sf) (nv T.j3t T.j3D sf) (Z0G sf p u ws)) hR))
theorem Q4T (Fn : Fun K "heeded" "Rounder.heeded" Q1y f fd)  : FnOk P w K mg base CX0 1 f fd ["self"] (toSp K (Q8r CK2)) := by
 refine okF (k := 0) Fn Q4K (λ ds O R h => ?_) (λ cdv A outer s H E ds O R hr h => ?_)
 ·obtain ⟨_,_,_,_,_,rfl,_⟩ := h; rfl
 ·obtain ⟨jj,m,s,ov,ins,rfl,hO,hl,hR⟩ := h
  refine Q0c (Q0v (EvP.ev (Q0x T.j2N (Q0a (Q0J (λ b : Bool => if b = true then D.int 1 else D.int 0) ["one"] [] [] (Q2z (Q0n (Q0b 0) hO T.j3J.cls T.j3N (Q9M m s ov ins)) wB) (by rw [sizeLine_eq]; omega) (by exact λ q hq s H fp => ⟨[some _],rfl,(Q0q 0 (show List.Nodup (["one"] : List Str) by decide +kernel)),⟨_,rfl,(ev_if (Q2R (Q0b 0)) (λ hbb => Q0g) (λ hbb => Q0g))⟩⟩)) Q0d) (Q0N (by first | exact Or.inr rfl | exact Or.inl (Or.inl rfl) | exact Or.inl (Or.inr (Or.inl rfl)) | exact Or.inl (Or.inr (Or.inr ⟨_,rfl,by first | assumption | rfl⟩))))) ?_))
  rw [Z9G]
  exact hR
theorem Z1i (Fn : Fun K "say" "Hand.say" Q4N f fd)  (j0q : Q0j P w K mg base 4 "check_said" (Q0i Q1H)) (j0P : Q0j P w K mg base 4 "middle_awake" (Q0i spMA)) (j1b : Q0e P w K mg base CK1 1 "heeded" (Q8s CK1)) (j1c : Q0e P w K mg base CK5 1 "heeded" (Q4G CK5 CK3)) (j1d : Q0e P w K mg base CK3 1 "heeded" (Q4G CK5 CK3)) (j1e : Q0e P w K mg base CK2 1 "heeded" (Q8r CK2)) : FnOk P w K mg base CX0 6 f fd ["self","said"] (toSp K (Q0E CK1 CK5 CK3 CK2)) := by
 refine okF (k := 5) Fn Z0Y (λ ds O R h => ?_) (λ cdv A outer s H E ds O R hr h => ?_)
 ·obtain ⟨_,_,_,_,_,rfl,_⟩ := h; rfl
 ·obtain ⟨q,m,s,ws,said,rfl,hq,hm,hs,hl,hw,hR⟩ := h
  have hs1 := hs.1
  have h24 : said.length <= 24 := by have := hs.2.1; omega
  have hll : ws.length = said.length := by omega
  rcases hq with ⟨hq,rfl⟩ | ⟨sf,p,u,hW,rfl,rfl⟩ | ⟨ins,ov,hq,rfl⟩
  ·refine Q0c (Q0y (EvP.ev (Q0h j0q (hr.mono wE) (Q0a (Q0n (Q0b 0) hq T.j3h.cls T.j3j (Q6N m s)) (Q0a (Q0n (Q0b 0) hq T.j3h.cls T.j3k (Q5E m s)) (Q0a (Q0b 1) Q0d))) ⟨_,_,_,rfl,by assumption,rfl⟩) ?_))
   exact Q0c (Q0v (EvP.ev (Q0h j0P (hr.mono wE) (Q0a (Q0b 1) (Q0a (Ev.evp (Q1m j1b (hr.mono wE) (Q0b 0) hq (Z5y m s) ⟨q,m,s,rfl,hq,hm,rfl,rfl⟩)) Q0d)) ⟨_,_,rfl,by assumption,by assumption,by assumption,rfl⟩) hR))
  ·refine Q0c (Q0y (EvP.ev (Q0h j0q (hr.mono wE) (Q0a (Q0n (Q0b 0) hW (cv T.j3n.cls T.j3x.cls sf) (nv T.j3p T.j3z sf) (Z4b sf p u ws)) (Q0a (Q0n (Q0b 0) hW (cv T.j3n.cls T.j3x.cls sf) (nv T.j3q T.j3A sf) (Q5t sf p u ws)) (Q0a (Q0b 1) Q0d))) ⟨_,_,_,rfl,by assumption,rfl⟩) ?_))
   exact Q0c (Q0v (EvP.ev (Q0h j0P (hr.mono wE) (Q0a (Q0b 1) (Q0a (Ev.evp (Q1m (mv j1c j1d sf) (hr.mono wE) (Q0b 0) hW (Z2O sf p u ws wD wD) ⟨q,sf,p,u,ws,rfl,hW,rfl,rfl⟩)) Q0d)) ⟨_,_,rfl,by assumption,by assumption,by assumption,rfl⟩) hR))
  ·have hi24 : ins.length <= 24 := by have : (wsR ins).length = ins.length := List.length_map ..; omega
   refine Q0c (Q0y (EvP.ev (Q0h j0q (hr.mono wE) (Q0a (Q0n (Q0b 0) hq T.j3J.cls T.j3L (Q6q m s ov ins)) (Q0a (Q0n (Q0b 0) hq T.j3J.cls T.j3M (Q5B m s ov ins)) (Q0a (Q0b 1) Q0d))) ⟨_,_,_,rfl,by assumption,rfl⟩) ?_))
   exact Q0c (Q0v (EvP.ev (Q0h j0P (hr.mono wE) (Q0a (Q0b 1) (Q0a (Ev.evp (Q1m j1e (hr.mono wE) (Q0b 0) hq (Z7d m s ov ins wD) ⟨q,m,s,ov,ins,rfl,hq,hi24,rfl,rfl⟩)) Q0d)) ⟨_,_,rfl,by assumption,by assumption,by assumption,rfl⟩) hR))
theorem Q9X (Fn : Fun K "hear" "Hand.hear" Q3P f fd)  (j0b : Q0j P w K mg base 5 "check_turn" (Q0i Q0S)) : FnOk P w K mg base CX0 6 f fd ["self","said","so"] (toSp K (Q2D CK1)) := by
 refine okF (k := 5) Fn Q9J (λ ds O R h => ?_) (λ cdv A outer s H E ds O R hr h => ?_)
 ·obtain ⟨_,_,_,_,_,rfl,_⟩ := h; rfl
 ·obtain ⟨q,m,sc,so,said,rfl,hq,hs,hso,hR⟩ := h
  exact Q0c (Q0y (EvP.ev (Q0h j0b (hr.mono wE) (Q0a (Q0n (Q0b 0) hq T.j3h.cls T.j3j (Q6N m sc)) (Q0a (Q0n (Q0b 0) hq T.j3h.cls T.j3k (Q5E m sc)) (Q0a (Q0b 1) (Q0a (Q0b 2) Q0d)))) ⟨_,_,_,_,rfl,by assumption,by assumption,rfl⟩) (Q0p hR)))
theorem Q9Y (Fn : Fun K "anew" "Hand.anew" Q3Q f fd)  (j0H : Q0R P w K mg base CK1 5 "Hand" (Q1t (λ C => C = CK1 \/ C = CK5 \/ C = CK3 \/ C = CK2 \/ C = CK4 \/ C = CK0))) : FnOk P w K mg base CX0 7 f fd ["self"] (toSp K (Q3d CK1)) := by
 refine okF (k := 6) Fn Q9K (λ ds O R h => ?_) (λ cdv A outer s H E ds O R hr h => ?_)
 ·obtain ⟨_,_,_,rfl,_⟩ := h; rfl
 ·obtain ⟨q,m,sc,rfl,hq,hm,hs,hR⟩ := h
  refine Q0c (Q0v (Q1s j0H (hr.mono wE) (Q0a (Q0n (Q0b 0) hq T.j3h.cls T.j3j (Q6N m sc)) (Q0a (Q0n (Q0b 0) hq T.j3h.cls T.j3k (Q5E m sc)) Q0d)) ⟨O.length,m,sc,CK1,rfl,.inl rfl,st0,hm,hs,rfl,?_⟩))
  rw [ss0]
  exact hR
theorem Q3V (Fn : Fun K "__init__" "Rounder.__init__" Q1l f fd)  (j0o : Z0w P w K mg base "Hand" 5 "__init__" (Q1t (λ C => C = CK1 \/ C = CK5 \/ C = CK3 \/ C = CK2 \/ C = CK4 \/ C = CK0))) : FnOk P w K mg base CX0 6 f fd ["self","many","scale"] (toSp K (Q5Q CK2)) := by
 refine okF (k := 5) Fn Q3L (λ ds O R h => ?_) (λ cdv A outer s H E ds O R hr h => ?_)
 ·obtain ⟨_,_,_,rfl,_⟩ := h; rfl
 ·obtain ⟨q,m,s,rfl,hq,hm,hs,hR⟩ := h
  refine Q0c (Q0y (Q4v j0o (hr.mono wE) (Q0a (Q0b 0) (Q0a (Q0b 1) (Q0a (Q0b 2) Q0d))) ⟨q,m,s,CK2,rfl,.inr (.inr (.inr (.inl rfl))),hq,hm,hs,?_⟩))
  refine Q0c (Q1V (Q0m (Q2X (Q0a Z3H Q0d)) (Q0b 1) (Q7T hm.1 wF (by simp) (by rw [sizeLine_eq]; show 1 * m.toNat <= _; omega))) (Q0b 0) (Q1h hq) T.j3J.cls T.j3N (by show 2 < 1000; decide) ?_)
  rw [List.set_set,show Q1v m s = r2 m s from rfl,Y0G,Y0r]
  refine Q0c (Q1V Q0g (Q0b 0) (Q1h hq) T.j3J.cls T.j3O (by show 3 < 1000; decide) ?_)
  rw [List.set_set,Y0F]
  exact Q0p hR
theorem Q6D (Fn : Fun K "hear" "Rounder.hear" Q2p f fd)  (j0b : Q0j P w K mg base 5 "check_turn" (Q0i Q0S)) (j0a : Q0j P w K mg base 1 "charge" (Q0i Q1D)) : FnOk P w K mg base CX0 6 f fd ["self","said","so"] (toSp K (Q2C CK2)) := by
 refine okF (k := 5) Fn Q3h (λ ds O R h => ?_) (λ cdv A outer s H E ds O R hr h => ?_)
 ·obtain ⟨_,_,_,_,_,_,_,rfl,_⟩ := h; rfl
 ·obtain ⟨jj,m,s,ov,so,ins,said,rfl,hO,hm,hs,hso,hl,hR⟩ := h
  have hs1 := hs.1
  have hzl : (ins.zip said).length <= 63 := by rw [List.length_zip]; omega
  refine Q0c (Q0y (EvP.ev (Q0h j0b (hr.mono wE) (Q0a (Q0n (Q0b 0) hO T.j3J.cls T.j3L (Q6q m s ov ins)) (Q0a (Q0n (Q0b 0) hO T.j3J.cls T.j3M (Q5B m s ov ins)) (Q0a (Q0b 1) (Q0a (Q0b 2) Q0d)))) ⟨_,_,_,_,rfl,by assumption,by assumption,rfl⟩) ?_))
  refine Q0c (Q0O 3 (EvP.ev (Q0x T.j2N (Q0a (Q0J (λ p : Bool × Option Int => .bl (p.1 && decide (chg p.2 so = 0))) ["one","what"] ["so"] [2] (ei_Z (Q6P (Q0n (Q0b 0) hO T.j3J.cls T.j3N (Q9M m s ov ins)) (Q0b 1) wB wB T.j2Q)) (by rw [sizeLine_eq]; omega) (by exact λ q hq s H fp => ⟨[some _,some _],rfl,(Q3b (Q0B (Q0q 0 (show List.Nodup (["one","what","so"] : List Str) by decide +kernel)) (Q0B (Q0q 1 (show List.Nodup (["one","what","so"] : List Str) by decide +kernel)) Q1G))),⟨_,rfl,(Q4x (Q0b 0) (λ hbb => (Q5c (Q5d (Q0h j0a (hr.mono wE) (Q0a (Q0b 1) (Q0a (Q0b 2) Q0d)) ⟨_,_,rfl,rfl⟩) Q0g Q0M))))⟩⟩)) Q0d) (Q0N (by first | exact Or.inr rfl | exact Or.inl (Or.inl rfl) | exact Or.inl (Or.inr (Or.inl rfl)) | exact Or.inl (Or.inr (Or.inr ⟨_,rfl,by first | assumption | rfl⟩))))) ?_) Q3h.nd)
  have e1 : ((ins.zip said).map λ p : Bool × Option Int => D.bl (p.1 && decide (chg p.2 so = 0))) = (Q8T said so ins).map D.bl := by
   unfold Q8T
   rw [List.map_map]
   rfl
  rw [e1]
  have hLl : (Q8T said so ins).length = ins.length := Z0f wF
  unfold Z3v Z9w at hR
  generalize Q8T said so ins = left at hR hLl
  refine Q0c (x_if (Q2R (Q0s T.j2X (Q0a (Q0b 3) Q0d) (c_any (by first | exact Or.inr rfl | exact Or.inl (Or.inl rfl) | exact Or.inl (Or.inr (Or.inl rfl)) | exact Or.inl (Or.inr (Or.inr ⟨_,rfl,by first | assumption | rfl⟩)))))) (λ hk => ?_) (λ hk => ?_))
  ·rw [if_pos hk,if_pos hk] at hR
   refine Q0c (Q1V (Q0b 3) (Q0b 0) hO T.j3J.cls T.j3N (by show 4 < 1000; decide) ?_)
   rw [Z4L]
   exact Q0p (Q0p hR)
  ·have hk' : ¬ left.any id = true := by rw [hk]; exact Bool.false_ne_true
   rw [if_neg hk',if_neg hk'] at hR
   refine Q0c (Q1V (Q0m (Q2X (Q0a Z3H Q0d)) (Q0n (Q0b 0) hO T.j3J.cls T.j3L (Q6q m s ov ins)) (Q7T hm.1 wF (by simp) (by rw [sizeLine_eq]; show 1 * m.toNat <= _; omega))) (Q0b 0) hO T.j3J.cls T.j3N (by show 4 < 1000; decide) ?_)
   rw [Y0r,Z4L]
   have hO2 : (O.set jj (some (MO.ins CK2 (rouF m s (List.replicate m.toNat true) ov))))[jj]? = some (some (.ins CK2 (rouF m s (List.replicate m.toNat true) ov))) := Q1h hO
   refine Q0c (Q1V (Q0m (Q0n (Q0b 0) hO2 T.j3J.cls T.j3O (Z9b m s ov _)) Q0g Q1X) (Q0b 0) hO2 T.j3J.cls T.j3O (by show 4 < 1000; decide) ?_)
   rw [List.set_set,Z8Z]
   have e : m.toNat = ins.length := by omega
   rw [e]
   exact Q0p (Q0p hR)
theorem Q6E (Fn : Fun K "anew" "Rounder.anew" Q2q f fd)  (j0I : Q0R P w K mg base CK2 6 "Rounder" (Q5Q CK2)) : FnOk P w K mg base CX0 8 f fd ["self"] (toSp K (Q3c CK2)) := by
 refine okF (k := 7) Fn Q6f (λ ds O R h => ?_) (λ cdv A outer s H E ds O R hr h => ?_)
 ·obtain ⟨_,_,_,_,_,rfl,_⟩ := h; rfl
 ·obtain ⟨q,m,s,ov,ins,rfl,hq,hm,hs,hR⟩ := h
  refine Q0c (Q0v (Q1s j0I (hr.mono wE) (Q0a (Q0n (Q0b 0) hq T.j3J.cls T.j3L (Q6q m s ov ins)) (Q0a (Q0n (Q0b 0) hq T.j3J.cls T.j3M (Q5B m s ov ins)) Q0d)) ⟨O.length,m,s,rfl,st0,hm,hs,rfl,?_⟩))
  rw [ss0]
  exact hR
theorem Q3R (Fn : Fun K "__init__" "Weigher.__init__" Q1i f fd)  (j1f : Q0j P w K mg base 3 "check_fraction" (Q0i Q4H)) (j0o : Z0w P w K mg base "Hand" 5 "__init__" (Q1t (λ C => C = CK1 \/ C = CK5 \/ C = CK3 \/ C = CK2 \/ C = CK4 \/ C = CK0))) : FnOk P w K mg base CX0 6 f fd ["self","many","scale","top","bottom"] (toSp K (Q2B CK5 CK3)) := by
 refine okF (k := 5) Fn Q3J (λ ds O R h => ?_) (λ cdv A outer s H E ds O R hr h => ?_)
 ·obtain ⟨_,_,_,rfl,_⟩ := h; rfl
 ·obtain ⟨q,sf,p,rfl,hq,hp,hR⟩ := h
  obtain ⟨m,s,t,b,sh,pa⟩ := p
  have hm : 1 <= m /\ m <= 24 := ⟨hp.m1,hp.m2⟩
  have hb : 0 <= t /\ t < b /\ b <= 100 := ⟨hp.f.t0,hp.f.tb,hp.f.b2⟩
  refine Q0c (Q0y (EvP.ev (Q0h j1f (hr.mono wE) (Q0a (Q0b 3) (Q0a (Q0b 4) Q0d)) ⟨_,_,rfl,by assumption,rfl⟩) ?_))
  refine Q0c (Q0y (Q4v j0o (hr.mono wE) (Q0a (Q0b 0) (Q0a (Q0b 1) (Q0a (Q0b 2) Q0d))) ⟨q,m,s,wsC CK5 CK3 sf,rfl,(by cases sf; exact .inr (.inl rfl); exact .inr (.inr (.inl rfl))),hq,hm,⟨hp.f.s1,hp.f.s2⟩,?_⟩))
  have q1 := Q1h (y := some (.ins (wsC CK5 CK3 sf) (Q1v m s))) hq
  refine Q0c (Q1V (Q0b 3) (Q0b 0) q1 (cv T.j3n.cls T.j3x.cls sf) (nv T.j3r T.j3B sf) (by show 2 < 1000; decide) ?_)
  rw [List.set_set,Z9f]
  refine Q0c (Q1V (Q0b 4) (Q0b 0) (Q1h hq) (cv T.j3n.cls T.j3x.cls sf) (nv T.j3s T.j3C sf) (by show 3 < 1000; decide) ?_)
  rw [List.set_set,Z3g]
  refine Q0c (Q1V (Q0m (Q2X (Q0a Q0g Q0d)) (Q0b 1) (Q7T hm.1 wF (by simp) (by rw [sizeLine_eq]; show 1 * m.toNat <= _; omega))) (Q0b 0) (Q1h hq) (cv T.j3n.cls T.j3x.cls sf) (nv T.j3t T.j3D sf) (by show 4 < 1000; decide) ?_)
  rw [List.set_set,Z7e,ones]
  refine Q0c (Q1V Q0g (Q0b 0) (Q1h hq) (cv T.j3n.cls T.j3x.cls sf) (nv T.j3u T.j3E sf) (by show 5 < 1000; decide) ?_)
  rw [List.set_set,Z4N]
  exact Q0p hR
theorem Q3U (Fn : Fun K "__init__" "Shifter.__init__" Q1k f fd)  (j1g : Q0j P w K mg base 3 "check_share" (Q0i Z0P)) (j1h : Z0w P w K mg base "Weigher" 6 "__init__" (Q2B CK5 CK3)) : FnOk P w K mg base CX0 7 f fd ["self","many","scale","top","bottom","share","parts"] (toSp K (Q5P CK3)) := by
 refine okF (k := 6) Fn Q3K (λ ds O R h => ?_) (λ cdv A outer s H E ds O R hr h => ?_)
 ·obtain ⟨_,_,rfl,_⟩ := h; rfl
 ·obtain ⟨q,p,rfl,hq,hp,hR⟩ := h
  have hsh : 1 <= p.sh /\ p.sh < p.pa /\ p.pa <= 100 := ⟨hp.h1,hp.h2,hp.h3⟩
  refine Q0c (Q0y (EvP.ev (Q0h j1g (hr.mono wE) (Q0a (Q0b 5) (Q0a (Q0b 6) Q0d)) ⟨_,_,rfl,by assumption,rfl⟩) ?_))
  refine Q0c (Q0y (Q4v j1h (hr.mono wE) (Q0a (Q0b 0) (Q0a (Q0b 1) (Q0a (Q0b 2) (Q0a (Q0b 3) (Q0a (Q0b 4) Q0d))))) ⟨q,true,p,rfl,hq,⟨hp.f,hp.m1,hp.m2,λ z => by cases z⟩,?_⟩))
  have q1 := Q1h (y := some (.ins CK3 (Q1q p.m p.sc p.t p.b (List.replicate p.m.toNat 1) 1))) hq
  refine Q0c (Q1V (Q0b 5) (Q0b 0) q1 T.j3x.cls T.j3F (by show 6 < 1000; decide) ?_)
  rw [List.set_set,Z4O]
  refine Q0c (Q1V (Q0b 6) (Q0b 0) (Q1h hq) T.j3x.cls T.j3G (by show 7 < 1000; decide) ?_)
  rw [List.set_set,Z4P]
  exact Q0p hR
theorem Q5l (Fn : Fun K "total" "Weigher.total" Q1M f fd)  : FnOk P w K mg base CX0 1 f fd ["self"] (toSp K (Q3u CK5 CK3)) := by
 refine okF (k := 0) Fn Q5g (λ ds O R h => ?_) (λ cdv A outer s H E ds O R hr h => ?_)
 ·obtain ⟨_,_,_,_,_,rfl,_⟩ := h; rfl
 ·obtain ⟨q,sf,p,u,ws,rfl,hW,hl,hR⟩ := h
  exact Q0c (Q0v (EvP.ev (Q2X (Q0a (Q0s T.j2P (Q0a (Q0n (Q0b 0) hW (cv T.j3n.cls T.j3x.cls sf) (nv T.j3t T.j3D sf) (Z0G sf p u ws)) Q0d) (Z6j (Or.inr rfl))) (Q0a (Q0n (Q0b 0) hW (cv T.j3n.cls T.j3x.cls sf) (nv T.j3u T.j3E sf) (Z1N sf p u ws)) Q0d))) hR))
theorem Q5k (Fn : Fun K "weigh" "Weigher.weigh" Q1L f fd)  (j0a : Q0j P w K mg base 1 "charge" (Q0i Q1D)) (j0c : Q0e P w K mg base CK5 6 "say" (Q0E CK1 CK5 CK3 CK2)) (j0d : Q0e P w K mg base CK3 6 "say" (Q0E CK1 CK5 CK3 CK2)) (j1i : Q0j P w K mg base 3 "times" (Z8Q CK5 CK3)) (j0G : Q0j P w K mg base 2 "times_asleep" (Z6T CK5 CK3)) : FnOk P w K mg base CX0 7 f fd ["self","said","so"] (toSp K (Q3t CK5 CK3)) := by
 refine okF (k := 6) Fn Q2U (λ ds O R h => ?_) (λ cdv A outer s H E ds O R hr h => ?_)
 ·obtain ⟨_,_,_,_,_,_,_,_,rfl,_⟩ := h; rfl
 ·obtain ⟨jj,n,sf,p,u,so,said,ws,rfl,hW,hp,hn,hwo,hl,hs,hso,hR⟩ := h
  have hf := hp.f
  have hs1 := hs.1
  have h24 := hs.2.1
  have h0 : Wok ws := λ w hw => (hwo.w w hw).1
  have hon := Q3W (ws := ws) hs (by have := hf.s1; omega) h0
  have hd := Z1C hon hso
  refine Q0c (Q0O 3 (EvP.ev (Q0h j0a (hr.mono wE) (Q0a (Ev.evp (Q1e (mv j0c j0d sf) (hr.mono wE) (Q0b 0) hW (Z2O sf p u ws wD wD) (Q0a (Q0b 1) Q0d) ⟨jj,p.m,p.sc,ws,said,rfl,.inr (.inl ⟨sf,p,u,hW,rfl,rfl⟩),⟨hp.m1,hp.m2⟩,hs,hl,h0,rfl,rfl⟩)) (Q0a (Q0b 2) Q0d)) ⟨some (midA said ws),so,rfl,rfl⟩) ?_) Q2U.nd)
  have hdd : chg (some (midA said ws)) so = ab (midA said ws - so) := rfl
  rw [hdd]
  generalize ab (midA said ws - so) = dd at hd hR
  have hzl : (ws.zip said).length <= 63 := by rw [List.length_zip]; omega
  have hi : ∀ q ∈ ws.zip said,IntMulOk q.1 (tF p.t p.b p.sc dd so q.2) := λ q hq => by
   have h1 := hwo.w _ (List.of_mem_zip hq).1
   have h2 := Z8M hf hd.2 hso (hs.2.2 _ (List.of_mem_zip hq).2)
   exact mulP h1.1 h1.2 h2.1 h2.2 wF
  have hin : ∀ q ∈ ws.zip said,q.2 = none \/ onS p.sc q.2 = true := λ q hq => hs.2.2 _ (List.of_mem_zip hq).2
  refine Q0c (Q1V (Q0x T.j2N (Q0a (Q0J (λ q : Int × Option Int => .int (q.1 * tF p.t p.b p.sc dd so q.2)) ["kept","what"] ["self","own","so"] [0,3,2] (ei_Z (Q6P (Q0n (Q0b 0) hW (cv T.j3n.cls T.j3x.cls sf) (nv T.j3t T.j3D sf) (Z0G sf p u ws)) (Q0b 1) wB wB T.j2Q)) (by rw [sizeLine_eq]; omega) (by exact λ q hq s H fp => ⟨[some _,some _],rfl,(Q3b (Q0B (Q0q 0 (show List.Nodup (["kept","what","self","own","so"] : List Str) by decide +kernel)) (Q0B (Q0q 1 (show List.Nodup (["kept","what","self","own","so"] : List Str) by decide +kernel)) Q1G))),⟨_,rfl,(Q0m (Q0b 0) (Ev.evp (Q0H j1i (hr.mono wE) (Q0a (Q0b 2) (Q0a (Q0b 3) (Q0a (Q0b 1) (Q0a (Q0b 4) Q0d)))) ⟨_,_,_,_,_,_,q.2,_,rfl,hW,hp,hd,hso,hin q hq,rfl,rfl⟩)) (Q2Z (hi q hq)))⟩⟩)) Q0d) (Q0N (by first | exact Or.inr rfl | exact Or.inl (Or.inl rfl) | exact Or.inl (Or.inr (Or.inl rfl)) | exact Or.inl (Or.inr (Or.inr ⟨_,rfl,by first | assumption | rfl⟩))))) (Q0b 0) hW (cv T.j3n.cls T.j3x.cls sf) (nv T.j3t T.j3D sf) (vlen ..) ?_)
  have e1 : ((ws.zip said).map λ q : Int × Option Int => D.int (q.1 * tF p.t p.b p.sc dd so q.2)) = (Q2s p.t p.b p.sc dd so said ws).map D.int := by
   unfold Q2s
   rw [List.map_map]
   rfl
  rw [e1,Z4a]
  have h1 := Z4i (own := dd) hf hd.2
  have hW2 : (O.set jj (some (MO.ins (wsC CK5 CK3 sf) (wsF sf p (Q2s p.t p.b p.sc dd so said ws) u))))[jj]? = some (some (.ins (wsC CK5 CK3 sf) (wsF sf p (Q2s p.t p.b p.sc dd so said ws) u))) := Q1h hW
  refine Q0c (Q1V (Q0m (Q0n (Q0b 0) hW2 (cv T.j3n.cls T.j3x.cls sf) (nv T.j3u T.j3E sf) (Z1N sf p u _)) (Ev.evp (Q0H j0G (hr.mono wE) (Q0a (Q0b 0) (Q0a (Q0b 3) Q0d)) ⟨jj,sf,p,u,dd,_,rfl,hW2,hp,hd,rfl,rfl⟩)) (Q2Z (mulP hwo.u0 hwo.u1 h1.1 h1.2 wF))) (Q0b 0) hW2 (cv T.j3n.cls T.j3x.cls sf) (nv T.j3u T.j3E sf) (vlen ..) ?_)
  rw [List.set_set,Z2N]
  exact Q0p hR
theorem Q6B (Fn : Fun K "deal" "Shifter.deal" Q2n f fd)  : FnOk P w K mg base CX0 1 f fd ["self"] (toSp K (Q8t CK3)) := by
 refine okF (k := 0) Fn Q1J (λ ds O R h => ?_) (λ cdv A outer s H E ds O R hr h => ?_)
 ·obtain ⟨_,_,_,_,rfl,_⟩ := h; rfl
 ·obtain ⟨jj,p,u,ws,rfl,hW,hp,hl,hR⟩ := h
  have hk := Z5u hp
  have p1 := hp.h1; have p2 := hp.h2; have p3 := hp.h3; have m1 := hp.m1; have m2 := hp.m2
  refine Q0c (Q0O 1 (EvP.ev (Q0m (Q0n (Q0b 0) hW T.j3x.cls T.j3F (Q8e p u ws)) (Q0s T.j2P (Q0a (Q0n (Q0b 0) hW T.j3x.cls T.j3D (Z0E p u ws)) Q0d) (Z6j (Or.inr rfl))) (Q2Z (CMul.ok (Or.inl ⟨by omega,by omega⟩)))) ?_) Q1J.nd)
  refine Q0c (Q0O 2 (EvP.ev (Q0m (Q0n (Q0b 0) hW T.j3x.cls T.j3z (Q5J p u ws)) (Q0m (Q0n (Q0b 0) hW T.j3x.cls T.j3G (Q8g p u ws)) (Q0n (Q0b 0) hW T.j3x.cls T.j3F (Q8e p u ws)) Z1j) (Q2Z (CMul.ok (Or.inl ⟨by omega,by omega⟩)))) ?_) Q1J.nd)
  refine Q0c (Q1V (Q0x T.j2N (Q0a (Q0J (λ w : Int => .int (w * (p.m * (p.pa - p.sh)) + p.sh * ws.sum)) ["one"] ["kept","dealt"] [2,1] (Q2z (Q0n (Q0b 0) hW T.j3x.cls T.j3D (Z0E p u ws)) wB) (by rw [sizeLine_eq]; omega) (by exact λ q hq s H fp => ⟨[some _],rfl,(Q0q 0 (show List.Nodup (["one","kept","dealt"] : List Str) by decide +kernel)),⟨_,rfl,(Q0m (Q0m (Q0b 0) (Q0b 1) (Q2Z (CMul.ok (Or.inr ⟨by omega,by omega⟩)))) (Q0b 2) Q1X)⟩⟩)) Q0d) (Q0N (by first | exact Or.inr rfl | exact Or.inl (Or.inl rfl) | exact Or.inl (Or.inr (Or.inl rfl)) | exact Or.inl (Or.inr (Or.inr ⟨_,rfl,by first | assumption | rfl⟩))))) (Q0b 0) hW T.j3x.cls T.j3D (by show 8 < 1000; decide) ?_)
  have e1 : (ws.map λ w : Int => D.int (w * (p.m * (p.pa - p.sh)) + p.sh * ws.sum)) = (Q4X p ws).map D.int := by
   unfold Q4X
   rw [List.map_map]
   rfl
  rw [e1,Q9B]
  have hW2 : (O.set jj (some (MO.ins CK3 (shiF p (Q4X p ws) u))))[jj]? = some (some (.ins CK3 (shiF p (Q4X p ws) u))) := Q1h hW
  refine Q0c (Q1V (Q0m (Q0m (Q0n (Q0b 0) hW2 T.j3x.cls T.j3E (Z1L p u _)) (Q0n (Q0b 0) hW2 T.j3x.cls T.j3z (Q5J p u _)) (Q2Z (CMul.ok (Or.inr ⟨by omega,by omega⟩)))) (Q0n (Q0b 0) hW2 T.j3x.cls T.j3G (Q8g p u _)) (Q2Z (CMul.ok (Or.inr ⟨by omega,by omega⟩)))) (Q0b 0) hW2 T.j3x.cls T.j3E (by show 8 < 1000; decide) ?_)
  rw [List.set_set,Q7N]
  exact Q0p hR
theorem Q6y (Fn : Fun K "hear" "Weigher.hear" Q2k f fd)  (j0b : Q0j P w K mg base 5 "check_turn" (Q0i Q0S)) (j1j : Q0e P w K mg base CK5 7 "weigh" (Q3t CK5 CK3)) : FnOk P w K mg base CX0 8 f fd ["self","said","so"] (toSp K (Q0K CK5 CK3 false)) := by
 refine okF (k := 7) Fn Q5Z (λ ds O R h => ?_) (λ cdv A outer s H E ds O R hr h => ?_)
 ·obtain ⟨_,_,_,_,_,_,_,rfl,_⟩ := h; rfl
 ·obtain ⟨jj,n,p,u,so,said,ws,rfl,hW,hp,hn,hwo,hl,hs,hso,hR⟩ := h
  have hW' : O[jj]? = some (some (.ins CK5 (Q1q p.m p.sc p.t p.b ws u))) := hW
  refine Q0c (Q0y (EvP.ev (Q0h j0b (hr.mono wE) (Q0a (Q0n (Q0b 0) hW' T.j3n.cls T.j3p (Z0F ..)) (Q0a (Q0n (Q0b 0) hW' T.j3n.cls T.j3q (Q8i ..)) (Q0a (Q0b 1) (Q0a (Q0b 2) Q0d)))) ⟨_,_,_,_,rfl,by assumption,by assumption,rfl⟩) ?_))
  exact Q0c (Q0y (Q1e j1j (hr.mono wE) (Q0b 0) hW' (Y0p _ _ _ _ _ _ wD) (Q0a (Q0b 1) (Q0a (Q0b 2) Q0d)) ⟨jj,n,false,p,u,so,said,ws,rfl,hW,hp,hn,hwo,hl,hs,hso,Q0p hR⟩))
theorem Q6A (Fn : Fun K "hear" "Shifter.hear" Q2m f fd)  (j0b : Q0j P w K mg base 5 "check_turn" (Q0i Q0S)) (j1k : Q0e P w K mg base CK3 7 "weigh" (Q3t CK5 CK3)) (j1l : Q0e P w K mg base CK3 1 "deal" (Q8t CK3)) : FnOk P w K mg base CX0 8 f fd ["self","said","so"] (toSp K (Q0K CK5 CK3 true)) := by
 refine okF (k := 7) Fn Q6d (λ ds O R h => ?_) (λ cdv A outer s H E ds O R hr h => ?_)
 ·obtain ⟨_,_,_,_,_,_,_,rfl,_⟩ := h; rfl
 ·obtain ⟨jj,n,p,u,so,said,ws,rfl,hW0,hp0,hn,hwo,hl,hs,hso,hR⟩ := h
  have hW : SAt CK3 O jj p ws u := hW0
  have hp := hp0.so
  refine Q0c (Q0y (EvP.ev (Q0h j0b (hr.mono wE) (Q0a (Q0n (Q0b 0) hW T.j3x.cls T.j3z (Q5J p u ws)) (Q0a (Q0n (Q0b 0) hW T.j3x.cls T.j3A (Q8f p u ws)) (Q0a (Q0b 1) (Q0a (Q0b 2) Q0d)))) ⟨_,_,_,_,rfl,by assumption,by assumption,rfl⟩) ?_))
  refine Q0c (Q0y (Q1e j1k (hr.mono wE) (Q0b 0) hW (Z8F p u ws wD) (Q0a (Q0b 1) (Q0a (Q0b 2) Q0d)) ⟨jj,n,true,p,u,so,said,ws,rfl,hW0,hp0,hn,hwo,hl,hs,hso,?_⟩))
  have hW2 : SAt CK3 (O.set jj (some (.ins CK3 (shiF p (Q2s p.t p.b p.sc (ab (midA said ws - so)) so said ws) (u * tS p.t p.b p.sc (ab (midA said ws - so))))))) jj p (Q2s p.t p.b p.sc (ab (midA said ws - so)) so said ws) (u * tS p.t p.b p.sc (ab (midA said ws - so))) := Q1h hW
  have hs1 := hs.1
  have h24 := hs.2.1
  have hnl := Q3q (t := p.t) (b := p.b) (sc := p.sc) (dd := ab (midA said ws - so)) (so := so) (show ws.length = said.length by omega)
  refine Q0c (Q0y (Q1m j1l (hr.mono wE) (Q0b 0) hW2 (Z8F p _ _ wD) ⟨jj,p,_,_,rfl,hW2,hp,by omega,?_⟩))
  rw [List.set_set]
  exact Q0p hR
theorem Q6z (Fn : Fun K "anew" "Weigher.anew" Q2l f fd)  (j0J : Q0R P w K mg base CK5 6 "Weigher" (Q2B CK5 CK3)) : FnOk P w K mg base CX0 9 f fd ["self"] (toSp K (Q0T CK5 CK3 false)) := by
 refine okF (k := 8) Fn Q6a (λ ds O R h => ?_) (λ cdv A outer s H E ds O R hr h => ?_)
 ·obtain ⟨_,_,_,_,rfl,_⟩ := h; rfl
 ·obtain ⟨jj,p,u,ws,rfl,hW,hp,hR⟩ := h
  have hW' : O[jj]? = some (some (.ins CK5 (Q1q p.m p.sc p.t p.b ws u))) := hW
  refine Q0c (Q0v (Q1s j0J (hr.mono wE) (Q0a (Q0n (Q0b 0) hW' T.j3n.cls T.j3p (Z0F ..)) (Q0a (Q0n (Q0b 0) hW' T.j3n.cls T.j3q (Q8i ..)) (Q0a (Q0n (Q0b 0) hW' T.j3n.cls T.j3r (Z8h ..)) (Q0a (Q0n (Q0b 0) hW' T.j3n.cls T.j3s (Q9v ..)) Q0d)))) ⟨O.length,false,p,rfl,st0,hp,rfl,?_⟩))
  rw [ss0]
  exact hR
theorem Q6C (Fn : Fun K "anew" "Shifter.anew" Q2o f fd)  (j0K : Q0R P w K mg base CK3 7 "Shifter" (Q5P CK3)) : FnOk P w K mg base CX0 9 f fd ["self"] (toSp K (Q0T CK5 CK3 true)) := by
 refine okF (k := 8) Fn Q6e (λ ds O R h => ?_) (λ cdv A outer s H E ds O R hr h => ?_)
 ·obtain ⟨_,_,_,_,rfl,_⟩ := h; rfl
 ·obtain ⟨jj,p,u,ws,rfl,hW0,hp0,hR⟩ := h
  have hW : SAt CK3 O jj p ws u := hW0
  have hp := hp0.so
  refine Q0c (Q0v (Q1s j0K (hr.mono wE) (Q0a (Q0n (Q0b 0) hW T.j3x.cls T.j3z (Q5J p u ws)) (Q0a (Q0n (Q0b 0) hW T.j3x.cls T.j3A (Q8f p u ws)) (Q0a (Q0n (Q0b 0) hW T.j3x.cls T.j3B (Z8d p u ws)) (Q0a (Q0n (Q0b 0) hW T.j3x.cls T.j3C (Q9t p u ws)) (Q0a (Q0n (Q0b 0) hW T.j3x.cls T.j3F (Q8e p u ws)) (Q0a (Q0n (Q0b 0) hW T.j3x.cls T.j3G (Q8g p u ws)) Q0d)))))) ⟨O.length,p,rfl,st0,hp,rfl,?_⟩))
  rw [ss0]
  exact hR
theorem Q3E (Fn : FunD K "__init__" "Follower.__init__" Q0C f fd [.none])  (j1m : Q0j P w K mg base 4 "push_of" (Q0i Q8n)) (j0o : Z0w P w K mg base "Hand" 5 "__init__" (Q1t (λ C => C = CK1 \/ C = CK5 \/ C = CK3 \/ C = CK2 \/ C = CK4 \/ C = CK0))) : FnOk P w K mg base CX0 6 f fd ["self","many","scale","push"] (toSp K (Q5R CK0)) := by
 refine okFD (k := 5) Fn Q3C (λ ds O R h => ?_) (λ cdv A outer s H E ds O R hr h => ?_)
 ·obtain ⟨_,_,_,_,rfl,_⟩ := h; rfl
 ·obtain ⟨q,m,s,po,rfl,hq,hm,hs,hp,hR⟩ := h
  refine Q0c (Q0y (Q4v j0o (hr.mono wE) (Q0a (Q0b 0) (Q0a (Q0b 1) (Q0a (Q0b 2) Q0d))) ⟨q,m,s,CK0,rfl,.inr (.inr (.inr (.inr (.inr rfl)))),hq,hm,hs,?_⟩))
  refine Q0c (Q1V (Q0h j1m (hr.mono wE) (Q0a (Q0b 1) (Q0a (Q0b 3) Q0d)) ⟨m,po,rfl,hm,hp,rfl⟩) (Q0b 0) (Q1h hq) T.j3R.cls T.j3V (by show 2 < 1000; decide) ?_)
  rw [List.set_set,show Q1v m s = g2 m s from rfl,Y0I]
  have q3 := Q1h (y := some (.ins CK0 (g3 m s (.tup ((poL m po).map D.int))))) hq
  refine Q0c (Q1V (Q0n (Q0b 0) q3 T.j3R.cls T.j3V (Z9K _ _ _)) (Q0b 0) q3 T.j3R.cls T.j3W (by show 3 < 1000; decide) ?_)
  rw [List.set_set,Y0H]
  exact Q0p hR
theorem Q6F (Fn : Fun K "say" "Follower.say" Q2r f fd)  (j0q : Q0j P w K mg base 4 "check_said" (Q0i Q1H)) (j0F : Q0j P w K mg base 1 "awake_in" (Q0i Q8u)) (j1n : Q0j P w K mg base 1 "first_least" (Q0i Z0S)) : FnOk P w K mg base CX0 5 f fd ["self","said"] (toSp K (Q4e CK0)) := by
 refine okF (k := 4) Fn Q3i (λ ds O R h => ?_) (λ cdv A outer s H E ds O R hr h => ?_)
 ·obtain ⟨_,_,_,_,_,_,rfl,_⟩ := h; rfl
 ·obtain ⟨q,m,s,ps,sc,said,rfl,hq,hm,hs,hl,hR⟩ := h
  have hs1 := hs.1
  have h24 : said.length <= 24 := by have := hs.2.1; omega
  have hal := Z6n said
  refine Q0c (Q0y (EvP.ev (Q0h j0q (hr.mono wE) (Q0a (Q0n (Q0b 0) hq T.j3R.cls T.j3T (Q8Y m s ps sc)) (Q0a (Q0n (Q0b 0) hq T.j3R.cls T.j3U (Q5F m s ps sc)) (Q0a (Q0b 1) Q0d))) ⟨_,_,_,rfl,by assumption,rfl⟩) ?_))
  refine Q0c (Q0O 2 (EvP.ev (Q0h j0F (hr.mono wE) (Q0a (Q0b 1) Q0d) ⟨_,rfl,by assumption,rfl⟩) ?_) Q3i.nd)
  refine Q0c (x_if (Q0I (Q0s T.j2M (Q0a (Q0b 2) Q0d) (Q4z (by first | exact Or.inr rfl | exact Or.inl (Or.inl rfl) | exact Or.inl (Or.inr (Or.inl rfl)) | exact Or.inl (Or.inr (Or.inr ⟨_,rfl,by first | assumption | rfl⟩))))) Q0g Q0M) (λ hk => ?_) (λ hk => Q0p ?_))
  ·have hk := of_decide_eq_true hk
   rw [List.length_map] at hk
   rw [Z4I (List.length_eq_zero_iff.mp wF)] at hR
   exact Q0c (Q0v (EvP.ev Q0g hR))
  ·have hk := of_decide_eq_false hk
   rw [List.length_map] at hk
   obtain ⟨k,_,hf⟩ := Z5E sc (ax said) (Y1H said) (λ z => hk (by rw [z]; rfl))
   rw [Z4H hf] at hR
   have hb : ∀ k ∈ ax said,k < sc.length := λ k hk => by have := Z6m hk; omega
   exact Q0c (Q0v (EvP.ev (Q1p (Q0b 1) (Q0h j1n (hr.mono wE) (Q0a (Q0n (Q0b 0) hq T.j3R.cls T.j3W (Q8a m s ps sc)) (Q0a (Q0b 2) Q0d)) ⟨sc,ax said,k,rfl,by omega,hb,hf,rfl⟩) (Y1J hf.1)) hR))
theorem Q5n (Fn : Fun K "hear" "Follower.hear" Q1O f fd)  (j0b : Q0j P w K mg base 5 "check_turn" (Q0i Q0S)) (j0a : Q0j P w K mg base 1 "charge" (Q0i Q1D)) : FnOk P w K mg base CX0 6 f fd ["self","said","so"] (toSp K (Q2E CK0)) := by
 refine okF (k := 5) Fn Q5i (λ ds O R h => ?_) (λ cdv A outer s H E ds O R hr h => ?_)
 ·obtain ⟨_,_,_,_,_,_,_,rfl,_⟩ := h; rfl
 ·obtain ⟨jj,m,s,so,ps,sc,said,rfl,hO,hm,hs,hso,hl,hR⟩ := h
  have hs1 := hs.1
  have hzl : (sc.zip said).length <= 63 := by rw [List.length_zip]; omega
  refine Q0c (Q0y (EvP.ev (Q0h j0b (hr.mono wE) (Q0a (Q0n (Q0b 0) hO T.j3R.cls T.j3T (Q8Y m s ps sc)) (Q0a (Q0n (Q0b 0) hO T.j3R.cls T.j3U (Q5F m s ps sc)) (Q0a (Q0b 1) (Q0a (Q0b 2) Q0d)))) ⟨_,_,_,_,rfl,by assumption,by assumption,rfl⟩) ?_))
  refine Q0c (Q1V (Q0x T.j2N (Q0a (Q0J (λ p : Int × Option Int => .int (p.1 + chg p.2 so)) ["score","what"] ["so"] [2] (ei_Z (Q6P (Q0n (Q0b 0) hO T.j3R.cls T.j3W (Q8a m s ps sc)) (Q0b 1) wB wB T.j2Q)) (by rw [sizeLine_eq]; omega) (by exact λ q hq s H fp => ⟨[some _,some _],rfl,(Q3b (Q0B (Q0q 0 (show List.Nodup (["score","what","so"] : List Str) by decide +kernel)) (Q0B (Q0q 1 (show List.Nodup (["score","what","so"] : List Str) by decide +kernel)) Q1G))),⟨_,rfl,(Q0m (Q0b 0) (Q0h j0a (hr.mono wE) (Q0a (Q0b 1) (Q0a (Q0b 2) Q0d)) ⟨_,_,rfl,rfl⟩) Q1X)⟩⟩)) Q0d) (Q0N (by first | exact Or.inr rfl | exact Or.inl (Or.inl rfl) | exact Or.inl (Or.inr (Or.inl rfl)) | exact Or.inl (Or.inr (Or.inr ⟨_,rfl,by first | assumption | rfl⟩))))) (Q0b 0) hO T.j3R.cls T.j3W (by show 4 < 1000; decide) ?_)
  have e1 : ((sc.zip said).map λ p : Int × Option Int => D.int (p.1 + chg p.2 so)) = (Z3u said so sc).map D.int := by
   unfold Z3u
   rw [List.map_map]
   rfl
  rw [e1,fput]
  exact Q0p hR
theorem Q5o (Fn : Fun K "anew" "Follower.anew" Q1P f fd)  (j0L : Q0R P w K mg base CK0 6 "Follower" (Q5R CK0)) : FnOk P w K mg base CX0 8 f fd ["self"] (toSp K (Q3e CK0)) := by
 refine okF (k := 7) Fn Q5j (λ ds O R h => ?_) (λ cdv A outer s H E ds O R hr h => ?_)
 ·obtain ⟨_,_,_,_,_,rfl,_⟩ := h; rfl
 ·obtain ⟨q,m,s,ps,sc,rfl,hq,hm,hs,hp,hR⟩ := h
  refine Q0c (Q0v (Q1s j0L (hr.mono wE) (Q0a (Q0n (Q0b 0) hq T.j3R.cls T.j3T (Q8Y m s ps sc)) (Q0a (Q0n (Q0b 0) hq T.j3R.cls T.j3U (Q5F m s ps sc)) (Q0a (Q0n (Q0b 0) hq T.j3R.cls T.j3V (Z9M m s ps sc)) Q0d))) ⟨O.length,m,s,some ps,rfl,st0,hm,hs,hp,rfl,?_⟩))
  rw [ss0]
  exact hR
theorem Q9W (Fn : Fun K "are_alike" "are_alike" Q3O f fd) (hm : mg "are_alike" = some (.ref f)) (hb : Q0A K fd ["hands"] []) : Q0j P w K mg base 1 "are_alike" (Q8v ⟨CK1,CK5,CK3,CK2,CK4,CK0⟩) := by
 refine okD (k := 0) Fn Q9I hm hb (λ ds O R h => ?_) (λ cdv A outer s H E ds O R hr h => ?_)
 ·obtain ⟨_,_,_,_,rfl,_⟩ := h; rfl
 ·obtain ⟨j,m,s,pv,rfl,hP,hl,hR⟩ := h
  have hz : pv.length <= sizeLine := by rw [sizeLine_eq]; omega
  refine Q0c (x_if (EvT.cast (k' := false) (EvW.t (Z3E (Q2x (Q2R (Q0s T.j2T (Q0a (Q0b 0) (Q0a (Q2Q T.j2N) Q0d)) (Q1T rfl)))) (λ hbb => (Q8b (Q0I (Q0s T.j2M (Q0a (Q0b 0) Q0d) (Q4z (by first | exact Or.inr rfl | exact Or.inl (Or.inl rfl) | exact Or.inl (Or.inr (Or.inl rfl)) | exact Or.inl (Or.inr (Or.inr ⟨_,rfl,by first | assumption | rfl⟩))))) Q0g Q0M))))) (by show (false || decide _) = false; rw [List.length_map,decide_eq_false wF]; rfl)) (λ hk => by cases hk) (λ _ => Q0p ?_))
  have ea : (pv.map λ _ => true).all id = true := by rw [List.all_map]; exact List.all_eq_true.mpr λ _ _ => rfl
  refine Q0c (x_if (EvT.cast (k' := false) (Q2x (Q2R (Q0s T.j2W (Q0a (Q0J (λ _ : Nat × Hn => .bl true) ["hand"] [] [] (Q2z (Q0b 0) wB) hz (by exact λ q hq s H fp => ⟨[some _],rfl,(Q0q 0 (show List.Nodup (["hand"] : List Str) by decide +kernel)),⟨_,rfl,(Z8z (C := ⟨CK1,CK5,CK3,CK2,CK4,CK0⟩)  T.j2T (Q0b 0) (hP q hq).1 T.j3h T.j3n T.j3x T.j3J T.j3i T.j3l T.j3v T.j3H T.j3P T.j3R T.j3X T.j3Z T.j4g)⟩⟩)) Q0d) (Y0d (bs := pv.map λ _ => true) (Or.inl (Or.inl (by rw [List.map_map]; rfl))))))) (by rw [ea]; rfl)) (λ hk => by cases hk) (λ _ => Q0p ?_))
  obtain ⟨x0,h0⟩ : ∃ x,pv[0]? = some x := ⟨_,List.getElem?_eq_getElem wF⟩
  have hx0 := hP x0 (List.mem_of_getElem? h0)
  have hat : atI (pv.map λ x => D.ptr x.1) 0 = some (.ptr x0.1) := Q2S (j := 0) (by rw [List.getElem?_map,h0]; rfl)
  obtain ⟨n0,ok0⟩ := hx0.2.1
  refine Q0c (Q0v (EvP.ev (Q0s T.j2W (Q0a (Q0J (λ _ : Nat × Hn => .bl (decide (((m : Nat) : Int) = (m : Nat)) && decide (s = s))) ["hand"] ["hands"] [0] (Q2z (Q0b 0) wB) hz (by exact λ q hq s H fp => ⟨[some _],rfl,(Q0q 0 (show List.Nodup (["hand","hands"] : List Str) by decide +kernel)),⟨_,rfl,(Q4x (Q5d (Q3A (C := ⟨CK1,CK5,CK3,CK2,CK4,CK0⟩) T.j3h.cls T.j3n.cls T.j3x.cls T.j3J.cls T.j3j T.j3p T.j3z T.j3L T.j3R.cls T.j3T T.j3Z.cls T.j4b (Q0b 0) (hP q hq).1 (hP q hq).2.1.choose_spec) (Q3A (C := ⟨CK1,CK5,CK3,CK2,CK4,CK0⟩) T.j3h.cls T.j3n.cls T.j3x.cls T.j3J.cls T.j3j T.j3p T.j3z T.j3L T.j3R.cls T.j3T T.j3Z.cls T.j4b (Q1p (Q0b 1) Q0g (hat)) hx0.1 ok0) Q0M) (λ hbb => (Q5c (Q5d (Q1S (C := ⟨CK1,CK5,CK3,CK2,CK4,CK0⟩) T.j3h.cls T.j3n.cls T.j3x.cls T.j3J.cls T.j3k T.j3q T.j3A T.j3M T.j3R.cls T.j3U T.j3Z.cls T.j4c (Q0b 0) (hP q hq).1 (hP q hq).2.1.choose_spec) (Q1S (C := ⟨CK1,CK5,CK3,CK2,CK4,CK0⟩) T.j3h.cls T.j3n.cls T.j3x.cls T.j3J.cls T.j3k T.j3q T.j3A T.j3M T.j3R.cls T.j3U T.j3Z.cls T.j4c (Q1p (Q0b 1) Q0g (hat)) hx0.1 ok0) Q0M))))⟩⟩)) Q0d) (Y0d (bs := pv.map λ _ => true) (Or.inl (Or.inl (by rw [List.map_map,decide_eq_true rfl,decide_eq_true rfl]; rfl))))) ?_))
  rw [ea]
  exact hR
theorem Z3r (Fn : Fun K "is_head" "is_head" Q6n f fd) (hm : mg "is_head" = some (.ref f)) (hb : Q0A K fd ["hands","head"] []) : Q0j P w K mg base 1 "is_head" (Q5O ⟨CK1,CK5,CK3,CK2,CK4,CK0⟩) := by
 refine okD (k := 0) Fn Z2Z hm hb (λ ds O R h => ?_) (λ cdv A outer s H E ds O R hr h => ?_)
 ·obtain ⟨_,_,_,_,_,_,rfl,_⟩ := h; rfl
 ·obtain ⟨j,m,s,pv,hp,hd,rfl,hP,hD,hl,hR⟩ := h
  obtain ⟨x0,h0⟩ : ∃ x,pv[0]? = some x := ⟨_,List.getElem?_eq_getElem wF⟩
  have hx0 := hP x0 (List.mem_of_getElem? h0)
  have hat : atI (pv.map λ x => D.ptr x.1) 0 = some (.ptr x0.1) := Q2S (j := 0) (by rw [List.getElem?_map,h0]; rfl)
  obtain ⟨n0,ok0⟩ := hx0.2.1
  have hd0 := hD (hp,hd) (List.mem_singleton.mpr rfl)
  obtain ⟨n1,ok1⟩ := hd0.2.1
  refine Q0c (Q0v (EvP.ev (Q4x (Z8z (C := ⟨CK1,CK5,CK3,CK2,CK4,CK0⟩)  T.j2T (Q0b 1) hd0.1 T.j3h T.j3n T.j3x T.j3J T.j3i T.j3l T.j3v T.j3H T.j3P T.j3R T.j3X T.j3Z T.j4g) (λ hbb => (Q4x (Q5d (Q3A (C := ⟨CK1,CK5,CK3,CK2,CK4,CK0⟩) T.j3h.cls T.j3n.cls T.j3x.cls T.j3J.cls T.j3j T.j3p T.j3z T.j3L T.j3R.cls T.j3T T.j3Z.cls T.j4b (Q0b 1) hd0.1 ok1) (Q0s T.j2M (Q0a (Q0b 0) Q0d) (Q4z (by first | exact Or.inr rfl | exact Or.inl (Or.inl rfl) | exact Or.inl (Or.inr (Or.inl rfl)) | exact Or.inl (Or.inr (Or.inr ⟨_,rfl,by first | assumption | rfl⟩))))) Q0M) (λ hbb => (Q5c (Q5d (Q1S (C := ⟨CK1,CK5,CK3,CK2,CK4,CK0⟩) T.j3h.cls T.j3n.cls T.j3x.cls T.j3J.cls T.j3k T.j3q T.j3A T.j3M T.j3R.cls T.j3U T.j3Z.cls T.j4c (Q0b 1) hd0.1 ok1) (Q1S (C := ⟨CK1,CK5,CK3,CK2,CK4,CK0⟩) T.j3h.cls T.j3n.cls T.j3x.cls T.j3J.cls T.j3k T.j3q T.j3A T.j3M T.j3R.cls T.j3U T.j3Z.cls T.j4c (Q1p (Q0b 0) Q0g (hat)) hx0.1 ok0) Q0M)))))) ?_))
  rw [List.length_map,decide_eq_true rfl,decide_eq_true rfl]
  exact hR
theorem Q8M (Fn : Fun K "check_tier" "check_tier" Q3k f fd) (hm : mg "check_tier" = some (.ref f)) (hb : Q0A K fd ["hands","head"] []) (j1o : Q0j P w K mg base 1 "are_alike" (Q8v ⟨CK1,CK5,CK3,CK2,CK4,CK0⟩)) (j1p : Q0j P w K mg base 1 "is_head" (Q5O ⟨CK1,CK5,CK3,CK2,CK4,CK0⟩)) : Q0j P w K mg base 2 "check_tier" (Z0O ⟨CK1,CK5,CK3,CK2,CK4,CK0⟩) := by
 refine okD (k := 1) Fn Q8y hm hb (λ ds O R h => ?_) (λ cdv A outer s H E ds O R hr h => ?_)
 ·obtain ⟨_,_,_,_,_,_,rfl,_⟩ := h; rfl
 ·obtain ⟨j,m,s,pv,hp,hd,rfl,hP,hD,hm,hs,hl,hR⟩ := h
  exact Q0c (x_if (EvT.cast (k' := false) (EvW.t (Z3E (Q2x (Q2R (Ev.evp (Q0H j1o (hr.mono wE) (Q0a (Q0b 0) Q0d) ⟨j,m,s,pv,rfl,hP,hl,rfl,rfl⟩)))) (λ hbb => (Q8b (Q2x (Q2R (Ev.evp (Q0H j1p (hr.mono wE) (Q0a (Q0b 0) (Q0a (Q0b 1) Q0d)) ⟨j,m,s,pv,hp,hd,rfl,hP,hD,hl,rfl,rfl⟩)))))))) rfl) (λ hk => by cases hk) (λ _ => Q0p (Q0p hR)))
theorem Q3D (Fn : Fun K "hand_charges" "Tier.hand_charges" Q1c f fd)  : FnOk P w K mg base CX0 1 f fd ["self"] (toSp K (Z6V ⟨CK1,CK5,CK3,CK2,CK4,CK0⟩)) := by
 refine okF (k := 0) Fn Q3B (λ ds O R h => ?_) (λ cdv A outer s H E ds O R hr h => ?_)
 ·obtain ⟨_,_,_,_,_,_,rfl,_⟩ := h; rfl
 ·obtain ⟨q,m,s,hs,hd,ch,rfl,hT,hR⟩ := h
  exact Q0c (Q0v (EvP.ev (Q0n (Q0b 0) hT.to.1 T.j3Z.cls T.j4f (Q7K _ _ _ _ _)) hR))
theorem Q4q (Fn : Fun K "__init__" "Tier.__init__" Q1j f fd) : FnOk P w K mg base CX0 10 f fd ["self","hands","head"] (toSp K (Q1g ⟨CK1,CK5,CK3,CK2,CK4,CK0⟩ 0)) := okF (k := 9) Fn Q2V (λ ds O R h => (Z1T h).elim) (λ cdv A outer s H E ds O R hr h => (Z1T h).elim)
theorem Q1z {j : Nat} (Fn : Fun K "__init__" "Tier.__init__" Q1j f fd)  (j0Q : Q0j P w K mg base 2 "check_tier" (Z0O ⟨CK1,CK5,CK3,CK2,CK4,CK0⟩)) (j0o : Z0w P w K mg base "Hand" 5 "__init__" (Q1t (λ C => C = CK1 \/ C = CK5 \/ C = CK3 \/ C = CK2 \/ C = CK4 \/ C = CK0))) (j0r : Q0e P w K mg base CK1 7 "anew" (Q3d CK1)) (j0s : Q0e P w K mg base CK5 9 "anew" (Q0T CK5 CK3 false)) (j0t : Q0e P w K mg base CK3 9 "anew" (Q0T CK5 CK3 true)) (j0u : Q0e P w K mg base CK2 8 "anew" (Q3c CK2)) (j0v : Q0e P w K mg base CK0 8 "anew" (Q3e CK0)) (j0R : Q0e P w K mg base CK4 (11 + 8 * j + 1) "anew" (Q1b ⟨CK1,CK5,CK3,CK2,CK4,CK0⟩ j)) : FnOk P w K mg base CX0 (17 + 8 * j + 1) f fd ["self","hands","head"] (toSp K (Q1g ⟨CK1,CK5,CK3,CK2,CK4,CK0⟩ (j + 1))) := by
 refine okF (k := 17 + 8 * j) Fn Q2V (λ ds O R h => ?_) (λ cdv A outer s H E ds O R hr h => ?_)
 ·obtain ⟨_,_,_,_,_,_,_,rfl,_⟩ := h; rfl
 ·obtain ⟨q,m,s,pv,hp,hd,O0,rfl,rfl,rfl,hP,hD,hm,hs,hl,hR⟩ := h
  have hz : pv.length <= sizeLine := by rw [sizeLine_eq]; omega
  have hmI : (1 : Int) <= (m : Nat) /\ ((m : Nat) : Int) <= 24 := ⟨by omega,by omega⟩
  refine Q0c (Q0y (EvP.ev (Ev.evp (Q0H j0Q (hr.mono wF) (Q0a (Q0b 1) (Q0a (Q0b 2) Q0d)) ⟨j + 1,m,s,pv,hp,hd,rfl,hP.app,hD.app,hm,hs,hl,rfl,rfl⟩)) ?_))
  obtain ⟨x0,h0⟩ : ∃ x,pv[0]? = some x := ⟨_,List.getElem?_eq_getElem wF⟩
  have hx0 := hP.app (Y := [some (MO.ins CK4 [])]) x0 (List.mem_of_getElem? h0)
  have hat : atI (pv.map λ x => D.ptr x.1) 0 = some (.ptr x0.1) := Q2S (j := 0) (by rw [List.getElem?_map,h0]; rfl)
  obtain ⟨n0,ok0⟩ := hx0.2.1
  refine Q0c (Q0y (Q4v j0o (hr.mono wF) (Q0a (Q0b 0) (Q0a (Q3A (C := ⟨CK1,CK5,CK3,CK2,CK4,CK0⟩) T.j3h.cls T.j3n.cls T.j3x.cls T.j3J.cls T.j3j T.j3p T.j3z T.j3L T.j3R.cls T.j3T T.j3Z.cls T.j4b (Q1p (Q0b 1) Q0g (hat)) hx0.1 ok0) (Q0a (Q1S (C := ⟨CK1,CK5,CK3,CK2,CK4,CK0⟩) T.j3h.cls T.j3n.cls T.j3x.cls T.j3J.cls T.j3k T.j3q T.j3A T.j3M T.j3R.cls T.j3U T.j3Z.cls T.j4c (Q1p (Q0b 1) Q0g (hat)) hx0.1 ok0) Q0d))) ⟨O0.length,(m : Nat),s,CK4,rfl,.inr (.inr (.inr (.inr (.inl rfl)))),st0,hmI,hs,?_⟩))
  rw [ss0]
  have sub : ∀ Z,PnAt ⟨CK1,CK5,CK3,CK2,CK4,CK0⟩ (O0 ++ [some (MO.ins CK4 (Q1v (m : Nat) s))] ++ Z) m s (j + 1) pv := λ Z => hP.app.app
  obtain ⟨zs,hzs⟩ : ∃ zs : List Hn,zs = Q0Z (pv.map λ x => x.2) m := ⟨_,rfl⟩
  have zl : zs.length = pv.length := by rw [hzs,Q1r,List.length_map]
  have zat : ∀ (i : Nat) (x : Nat × Hn),pv[i]? = some x -> zs[i]? = some (Q0D x.2 m) := λ i x hx => by rw [hzs,Q4A,List.getElem?_map,List.getElem?_map,hx]; rfl
  refine Q0c (Z8e (q := O0.length) (C := CK4) (fs := Q1v (m : Nat) s) (Z3G T.j2N (Q1a (Z5I (λ i => .ptr (O0.length + 1 + Q0t (zs.take i))) (λ i => O0 ++ [some (MO.ins CK4 (Q1v (m : Nat) s))] ++ Q1d ⟨CK1,CK5,CK3,CK2,CK4,CK0⟩ (zs.take i) (O0.length + 1) m s) (by rw [List.take_zero]; simp only [Q1d,List.append_nil]) ["hand"] [] [] (Q2z (Q0b 1) wB) hz ?turn (EvPs.as Q0d ⟨_,Q0N (Or.inl (Or.inl rfl)),(Q0b 0),Z2l,?_⟩)))) T.j3Z.cls T.j4d (by show 2 < 1000; decide))
  case turn =>
   intro i x hx s2 H2 fp
   have hi := (List.getElem?_eq_some_iff.mp hx).1
   have hxx := sub (Q1d ⟨CK1,CK5,CK3,CK2,CK4,CK0⟩ (zs.take i) (O0.length + 1) m s) x (List.mem_of_getElem? hx)
   obtain ⟨n1,ok1⟩ := hxx.2.1
   have el : (O0 ++ [some (MO.ins CK4 (Q1v (m : Nat) s))] ++ Q1d ⟨CK1,CK5,CK3,CK2,CK4,CK0⟩ (zs.take i) (O0.length + 1) m s).length = O0.length + 1 + Q0t (zs.take i) := by rw [List.length_append,List.length_append,Q2v]; rfl
   refine ⟨[some (.ptr x.1)],rfl,Q0q 0 (show List.Nodup (["hand"] : List Str) by decide +kernel),Q9b (C := ⟨CK1,CK5,CK3,CK2,CK4,CK0⟩) j0r j0s j0t j0u (hr.mono wF) (hr.mono wF) (hr.mono wF) j0v (hr.mono wF) j0R (hr.mono wF) (Q0b 0) hxx.1 ok1 (Nat.le_of_lt_succ hxx.2.2) hm hs ⟨?_,?_⟩⟩
   ·show D.ptr _ = D.ptr _
    rw [el]
   ·show _ = O0 ++ _ ++ Q1d ⟨CK1,CK5,CK3,CK2,CK4,CK0⟩ (zs.take (i + 1)) (O0.length + 1) m s
    rw [Z7x ⟨CK1,CK5,CK3,CK2,CK4,CK0⟩ (zat i x hx),el,<- List.append_assoc]
  rw [Z1l,Z4Q,<- zl,List.take_of_length_le (Nat.le_refl _)]
  rw [show ((List.range zs.length).map λ i => D.ptr (O0.length + 1 + Q0t (zs.take i))) = (offN zs (O0.length + 1)).map D.ptr by rw [Q9Z,List.map_map]; rfl]
  generalize hZ : Q1d ⟨CK1,CK5,CK3,CK2,CK4,CK0⟩ zs (O0.length + 1) m s = Z
  have hZl : Z.length = Q0t zs := by rw [<- hZ,Q2v]
  have hd0 := hD (hp,hd) (List.mem_singleton.mpr rfl)
  obtain ⟨n2,ok2⟩ := hd0.2.1
  have hq2 : ∀ (y : Option MO) (Y : Sto),NAt ⟨CK1,CK5,CK3,CK2,CK4,CK0⟩ (O0 ++ [y] ++ Y) hd hp pv.length s := λ y Y => hd0.1.ap.ap
  refine Q0c (Z8e (q := O0.length) (C := CK4) (fs := tieH (m : Nat) s (.tup ((offN zs (O0.length + 1)).map D.ptr))) (Q9b (C := ⟨CK1,CK5,CK3,CK2,CK4,CK0⟩) j0r j0s j0t j0u (hr.mono wF) (hr.mono wF) (hr.mono wF) j0v (hr.mono wF) j0R (hr.mono wF) (Q0b 2) (hq2 _ _) ok2 (Nat.le_of_lt_succ hd0.2.2) hl hs ⟨(Q0b 0),?_,?_⟩) T.j3Z.cls T.j4e (by show 3 < 1000; decide))
  ·exact Z2G Z2l
  rw [List.append_assoc (O0 ++ _) Z,Z1l,Z7f,show (O0 ++ [some (MO.ins CK4 (tieH (m : Nat) s (.tup ((offN zs (O0.length + 1)).map D.ptr))))] ++ Z).length = O0.length + 1 + Q0t zs by rw [List.length_append,List.length_append,hZl]; rfl]
  refine Q0c (Q1V (Q0m (Q2X (Q0a Q0g Q0d)) (Q0s T.j2M (Q0a (Q0b 1) Q0d) (Q4z (by first | exact Or.inr rfl | exact Or.inl (Or.inl rfl) | exact Or.inl (Or.inr (Or.inl rfl)) | exact Or.inl (Or.inr (Or.inr ⟨_,rfl,by first | assumption | rfl⟩))))) (Q7T (by rw [List.length_map]; omega) (by rw [List.length_map]; omega) (by simp) (by rw [sizeLine_eq,List.length_map,Int.toNat_natCast]; show 1 * _ <= _; omega))) (Q0b 0) Z2l T.j3Z.cls T.j4f (by show 4 < 1000; decide) ?_)
  rw [Z1l,List.length_map,Int.toNat_natCast,Z8H,Q9Q]
  refine Q0p ?_
  have e : newN ⟨CK1,CK5,CK3,CK2,CK4,CK0⟩ (pv.map (·.2)) hd O0.length m s = [some (MO.ins CK4 (tieN (m : Nat) s (offN zs (O0.length + 1)) (O0.length + 1 + Q0t zs) (List.replicate pv.length 0)))] ++ (Z ++ layN ⟨CK1,CK5,CK3,CK2,CK4,CK0⟩ (Q0D hd pv.length) (O0.length + 1 + Q0t zs) pv.length s) := by
   unfold newN
   simp only [Q0D,layN]
   rw [<- hzs,zl,List.length_map,hZ]
   rfl
  rw [e,<- List.append_assoc] at hR
  exact hR
theorem Q8R (Fn : Fun K "ask" "Tier.ask" Q3y f fd) : FnOk P w K mg base CX0 7 f fd ["self","said"] (toSp K (Q2T ⟨CK1,CK5,CK3,CK2,CK4,CK0⟩ 0)) := okF (k := 6) Fn Q6c (λ ds O R h => (Z4v h).elim) (λ cdv A outer s H E ds O R hr h => (Z4v h).elim)
theorem Q3T {j : Nat} (Fn : Fun K "ask" "Tier.ask" Q3y f fd)  (j0f : Q0e P w K mg base CK1 6 "say" (Q0E CK1 CK5 CK3 CK2)) (j0c : Q0e P w K mg base CK5 6 "say" (Q0E CK1 CK5 CK3 CK2)) (j0d : Q0e P w K mg base CK3 6 "say" (Q0E CK1 CK5 CK3 CK2)) (j0g : Q0e P w K mg base CK2 6 "say" (Q0E CK1 CK5 CK3 CK2)) (j0h : Q0e P w K mg base CK0 5 "say" (Q4e CK0)) (j0M : Q0e P w K mg base CK4 (8 + 8 * j + 1) "say" (Q1B ⟨CK1,CK5,CK3,CK2,CK4,CK0⟩ j)) : FnOk P w K mg base CX0 (14 + 8 * j + 1) f fd ["self","said"] (toSp K (Q2T ⟨CK1,CK5,CK3,CK2,CK4,CK0⟩ (j + 1))) := by
 refine okF (k := 14 + 8 * j) Fn Q6c (λ ds O R h => ?_) (λ cdv A outer s H E ds O R hr h => ?_)
 ·obtain ⟨_,_,_,_,_,_,_,_,rfl,_⟩ := h; rfl
 ·obtain ⟨q0,n,m,s,hs,hd,ch,said,rfl,hT,hk,hj,hm,h0,hsd,hR⟩ := h
  have hl := hk.to.2.2.1
  have hz : (List.range hs.length).length <= sizeLine := by rw [sizeLine_eq,List.length_range]; omega
  have hv : ∀ i ∈ List.range hs.length,NAt ⟨CK1,CK5,CK3,CK2,CK4,CK0⟩ O (hs.getD i (.p .h)) (q0 + 1 + Q0t (hs.take i)) m s /\ NOk n (hs.getD i (.p .h)) m s /\ depN (hs.getD i (.p .h)) <= j := λ i hi => by
   have hi := List.mem_range.mp hi
   have e : hs[i]? = some (hs.getD i (.p .h)) := by rw [List.getD_eq_getElem?_getD,List.getElem?_eq_getElem hi]; rfl
   exact ⟨(Q7d _ _).mp hT.to.2.1 i _ e,(Q4E _).mp hk.to.1 _ (List.mem_of_getElem? e),(Q8c hj).1 _ (List.mem_of_getElem? e)⟩
  refine Q0c (Q0v (EvP.ev (Q0x T.j2N (Q0a (Q0J (λ i : Nat => .int (sayN (hs.getD i (.p .h)) m said)) ["hand"] ["said"] [1] (Q2z (Q0n (Q0b 0) hT.to.1 T.j3Z.cls T.j4d (Q5M _ _ _ _ _ _)) wB) hz (by exact λ q hq s H fp => ⟨[some _],rfl,(Q0q 0 (show List.Nodup (["hand","said"] : List Str) by decide +kernel)),⟨_,rfl,(Z1q (C := ⟨CK1,CK5,CK3,CK2,CK4,CK0⟩) j0f j0c j0d j0g (hr.mono wF) j0h (hr.mono wF) j0M (hr.mono wF) (Q0b 0) (hv q hq).1 (hv q hq).2.1 (hv q hq).2.2 hm h0 hsd (Q0a (Q0b 1) Q0d))⟩⟩)) Q0d) (Q0N (by first | exact Or.inr rfl | exact Or.inl (Or.inl rfl) | exact Or.inl (Or.inr (Or.inl rfl)) | exact Or.inl (Or.inr (Or.inr ⟨_,rfl,by first | assumption | rfl⟩))))) ?_))
  have e : ((List.range hs.length).map λ i : Nat => D.int (sayN (hs.getD i (.p .h)) m said)) = (Q1K hs m said).map D.int := by
   rw [Q5A,List.map_map]
   refine Eq.trans ?_ (congrArg (List.map (D.int ∘ λ x => sayN x m said)) (Q4P hs (.p .h)))
   rw [List.map_map]
   rfl
  rw [e]
  exact hR
theorem Q8Q (Fn : Fun K "say" "Tier.say" Q3x f fd) : FnOk P w K mg base CX0 9 f fd ["self","said"] (toSp K (Q1B ⟨CK1,CK5,CK3,CK2,CK4,CK0⟩ 0)) := okF (k := 8) Fn Q6b (λ ds O R h => (Z4p h).elim) (λ cdv A outer s H E ds O R hr h => (Z4p h).elim)
theorem Q3S {j : Nat} (Fn : Fun K "say" "Tier.say" Q3x f fd)  (j0q : Q0j P w K mg base 4 "check_said" (Q0i Q1H)) (j1q : Q0e P w K mg base CK4 (14 + 8 * j + 1) "ask" (Q2T ⟨CK1,CK5,CK3,CK2,CK4,CK0⟩ (j + 1))) (j0f : Q0e P w K mg base CK1 6 "say" (Q0E CK1 CK5 CK3 CK2)) (j0c : Q0e P w K mg base CK5 6 "say" (Q0E CK1 CK5 CK3 CK2)) (j0d : Q0e P w K mg base CK3 6 "say" (Q0E CK1 CK5 CK3 CK2)) (j0g : Q0e P w K mg base CK2 6 "say" (Q0E CK1 CK5 CK3 CK2)) (j0h : Q0e P w K mg base CK0 5 "say" (Q4e CK0)) (j0M : Q0e P w K mg base CK4 (8 + 8 * j + 1) "say" (Q1B ⟨CK1,CK5,CK3,CK2,CK4,CK0⟩ j)) : FnOk P w K mg base CX0 (16 + 8 * j + 1) f fd ["self","said"] (toSp K (Q1B ⟨CK1,CK5,CK3,CK2,CK4,CK0⟩ (j + 1))) := by
 refine okF (k := 16 + 8 * j) Fn Q6b (λ ds O R h => ?_) (λ cdv A outer s H E ds O R hr h => ?_)
 ·obtain ⟨_,_,_,_,_,_,_,_,rfl,_⟩ := h; rfl
 ·obtain ⟨q,n,m,s,hs,hd,ch,said,rfl,hT,hk,hj,hm,h0,hsd,hR⟩ := h
  refine Q0c (Q0y (EvP.ev (Q0h j0q (hr.mono wF) (Q0a (Q0n (Q0b 0) hT.to.1 T.j3Z.cls T.j4b (Z0I _ _ _ _ _)) (Q0a (Q0n (Q0b 0) hT.to.1 T.j3Z.cls T.j4c (Q8k _ _ _ _ _)) (Q0a (Q0b 1) Q0d))) ⟨_,_,_,rfl,by assumption,rfl⟩) ?_))
  have hl := hk.to.2.2.1
  have hak := Q4l hs m s said hk.to.1 hsd h0 hl.2
  refine Q0c (Q0v (EvP.ev (Z1q (C := ⟨CK1,CK5,CK3,CK2,CK4,CK0⟩) j0f j0c j0d j0g (hr.mono wF) j0h (hr.mono wF) j0M (hr.mono wF) (Q0n (Q0b 0) hT.to.1 T.j3Z.cls T.j4e (Z0J _ _ _ _ _)) hT.to.2.2 hk.to.2.1 (Q8c hj).2 hl h0 hak (Q0a (EvP.cast (Ev.evp (Q1e j1q (hr.mono wF) (Q0b 0) hT.to.1 (Z2S _ _ _ _ _ wD) (Q0a (Q0b 1) Q0d) ⟨q,n,m,s,hs,hd,ch,said,rfl,hT,hk,hj,hm,h0,hsd,rfl,rfl⟩)) (congrArg D.tup (Z6r _).symm)) Q0d)) ?_))
  rw [show sayN hd hs.length (asS (Q1K hs m said)) = sayN (.t hs hd ch) m said by simp only [sayN]]
  exact hR
theorem Q7s (Fn : Fun K "hear" "Tier.hear" Q2M f fd) : FnOk P w K mg base CX0 10 f fd ["self","said","so"] (toSp K (Q0X ⟨CK1,CK5,CK3,CK2,CK4,CK0⟩ 0)) := okF (k := 9) Fn Q2c (λ ds O R h => (Z1U h).elim) (λ cdv A outer s H E ds O R hr h => (Z1U h).elim)
theorem Q3o {j : Nat} (Fn : Fun K "hear" "Tier.hear" Q2M f fd)  (j0b : Q0j P w K mg base 5 "check_turn" (Q0i Q0S)) (j0a : Q0j P w K mg base 1 "charge" (Q0i Q1D)) (j1q : Q0e P w K mg base CK4 (14 + 8 * j + 1) "ask" (Q2T ⟨CK1,CK5,CK3,CK2,CK4,CK0⟩ (j + 1))) (j0j : Q0e P w K mg base CK1 6 "hear" (Q2D CK1)) (j0k : Q0e P w K mg base CK5 8 "hear" (Q0K CK5 CK3 false)) (j0l : Q0e P w K mg base CK3 8 "hear" (Q0K CK5 CK3 true)) (j0m : Q0e P w K mg base CK2 6 "hear" (Q2C CK2)) (j0n : Q0e P w K mg base CK0 6 "hear" (Q2E CK0)) (j0A : Q0e P w K mg base CK4 (9 + 8 * j + 1) "hear" (Q0X ⟨CK1,CK5,CK3,CK2,CK4,CK0⟩ j)) : FnOk P w K mg base CX0 (17 + 8 * j + 1) f fd ["self","said","so"] (toSp K (Q0X ⟨CK1,CK5,CK3,CK2,CK4,CK0⟩ (j + 1))) := by
 refine okF (k := 17 + 8 * j) Fn Q2c (λ ds O R h => ?_) (λ cdv A outer s H E ds O R hr h => ?_)
 ·obtain ⟨_,_,_,_,_,_,_,_,_,rfl,_⟩ := h; rfl
 ·obtain ⟨q0,n,m,s,so,hs,hd,ch,said,rfl,hT,hk,hj,hn,hm,hsd,hso,hR⟩ := h
  have h0 : 0 <= s := by omega
  have hl := hk.to.2.2.1
  have hak := Q4l hs m s said hk.to.1 hsd h0 hl.2
  refine Q0c (Q0y (EvP.ev (Q0h j0b (hr.mono wF) (Q0a (Q0n (Q0b 0) hT.to.1 T.j3Z.cls T.j4b (Z0I _ _ _ _ _)) (Q0a (Q0n (Q0b 0) hT.to.1 T.j3Z.cls T.j4c (Q8k _ _ _ _ _)) (Q0a (Q0b 1) (Q0a (Q0b 2) Q0d)))) ⟨_,_,_,_,rfl,by assumption,by assumption,rfl⟩) ?_))
  refine Q0c (Q0O 3 (EvP.ev (Ev.evp (Q1e j1q (hr.mono wF) (Q0b 0) hT.to.1 (Z2S _ _ _ _ _ wD) (Q0a (Q0b 1) Q0d) ⟨q0,n,m,s,hs,hd,ch,said,rfl,hT,hk,hj,hm,h0,hsd,rfl,rfl⟩)) ?_) Q2c.nd)
  have esz : sizN (.t hs hd ch) = 1 + Q0t hs + sizN hd := by simp only [sizN]
  rw [esz] at hR
  refine Q0c (Q0y (Q5G (C := ⟨CK1,CK5,CK3,CK2,CK4,CK0⟩) j0j j0k j0l j0m (hr.mono wF) (hr.mono wF) (hr.mono wF) j0n (hr.mono wF) j0A (hr.mono wF) (Q0n (Q0b 0) hT.to.1 T.j3Z.cls T.j4e (Z0J _ _ _ _ _)) hT.to.2.2 hk.to.2.1 (Q8c hj).2 hn hl hak hso (Q0a (EvP.cast (Q0b 3) (congrArg D.tup (Z6r _).symm)) (Q0a (Q0b 2) Q0d)) λ O1 c1 i2 => ?_))
  have b1 : BlX q0 (1 + Q0t hs + sizN hd) O O1 := (BlX.rf _ _ _).in c1 wF wF
  have hps := Q5V hd
  have i1 : O1[q0]? = some (some (.ins CK4 (tieN (m : Nat) s (offN hs (q0 + 1)) (q0 + 1 + Q0t hs) ch))) := by rw [c1.o q0 wF]; exact hT.to.1
  have i3 : ∀ k v,hs[k]? = some v -> NAt ⟨CK1,CK5,CK3,CK2,CK4,CK0⟩ O1 v (q0 + 1 + Q0t (hs.take k)) m s := λ k v hv => ((Q7d _ _).mp hT.to.2.1 k v hv).own λ a h1 h2 => c1.o a (by have := Z4C hs (k + 1); rw [Q5y hv] at this; omega)
  have hasl : (Q1K hs m said).length = hs.length := Q4t ..
  refine Q0c (Q5f (Q2z (Q0n (Q0b 0) i1 T.j3Z.cls T.j4d (Q5M _ _ _ _ _ _)) wB) (λ i ρ O' => (∃ v : Option D,ρ = [some (.ptr q0),some (.tup (said.map od)),some (.int so),some (.tup ((Q1K hs m said).map D.int)),v]) /\ BlX q0 (1 + Q0t hs + sizN hd) O O' /\ O'[q0]? = some (some (.ins CK4 (tieN (m : Nat) s (offN hs (q0 + 1)) (q0 + 1 + Q0t hs) ch))) /\ NAt ⟨CK1,CK5,CK3,CK2,CK4,CK0⟩ O' (Q1n hd hs.length (asS (Q1K hs m said)) so) (q0 + 1 + Q0t hs) hs.length s /\ ∀ k v,hs[k]? = some v -> NAt ⟨CK1,CK5,CK3,CK2,CK4,CK0⟩ O' (if k < i then Q1n v m said so else v) (q0 + 1 + Q0t (hs.take k)) m s) ⟨⟨_,rfl⟩,b1,i1,i2,λ k v hv => by rw [if_neg (Nat.not_lt_zero _)]; exact i3 k v hv⟩ ?_ ?_)
  ·clear i1 i2 i3 b1 c1
   rintro i z ρ O' hz ⟨⟨v4,rfl⟩,bk,j1,j2,j3⟩
   rw [List.getElem?_map] at hz
   obtain ⟨i',hi',rfl⟩ := Option.map_eq_some_iff.mp hz
   have hil : i < hs.length := by have := (List.getElem?_eq_some_iff.mp hi').1; rw [List.length_range] at this; exact this
   rw [List.getElem?_range hil] at hi'
   cases hi'
   obtain ⟨v,hv⟩ : ∃ v,hs[i]? = some v := ⟨_,List.getElem?_eq_getElem hil⟩
   have jv := j3 i v hv
   rw [if_neg (Nat.lt_irrefl _)] at jv
   have sv := Z4C hs (i + 1)
   rw [Q5y hv] at sv
   refine ⟨_,Q0q 4 Q2c.nd,?_⟩
   refine Q0c (Q0y (Q5G (C := ⟨CK1,CK5,CK3,CK2,CK4,CK0⟩) j0j j0k j0l j0m (hr.mono wF) (hr.mono wF) (hr.mono wF) j0n (hr.mono wF) j0A (hr.mono wF) (Q0b 4) jv ((Q4E _).mp hk.to.1 v (List.mem_of_getElem? hv)) ((Q8c hj).1 v (List.mem_of_getElem? hv)) hn hm hsd hso (Q0a (Q0b 1) (Q0a (Q0b 2) Q0d)) λ O2 c2 d2 => ?_))
   refine Q0p ⟨⟨_,rfl⟩,bk.in c2 wF wF,by rw [c2.o q0 wF]; exact j1,j2.own λ a h1 h2 => c2.o a wF,λ k w hw => ?_⟩
   by_cases hki : k = i
   ·subst hki
    rw [hv] at hw
    cases hw
    rw [if_pos (Nat.lt_succ_self _)]
    exact d2
   ·have e : (if k < i + 1 then Q1n w m said so else w) = if k < i then Q1n w m said so else w := by
     by_cases h1 : k < i
     ·rw [if_pos h1,if_pos wF]
     ·rw [if_neg h1,if_neg wF]
    rw [e]
    have ew : sizN (if k < i then Q1n w m said so else w) = sizN w := by split; exact Q3f ..; rfl
    refine (j3 k w hw).own λ a h1 h2 => c2.o a ?_
    rw [ew] at h2
    by_cases h3 : k < i
    ·have := Z1Y hs (show k + 1 <= i by omega)
     rw [Q5y hw] at this
     omega
    ·have := Z1Y hs (show i + 1 <= k by omega)
     rw [Q5y hv] at this
     omega
  ·clear i1 i2 i3 b1 c1
   rintro ρ O' ⟨⟨v4,rfl⟩,bk,j1,j2,j3⟩
   rw [List.length_map,List.length_range] at j3
   have hzl : (ch.zip (Q1K hs m said)).length <= 63 := by rw [List.length_zip,hasl]; omega
   refine Q0c (Q1V (Q0x T.j2N (Q0a (Q0J (λ x : Int × Int => .int (x.1 + ab (x.2 - so))) ["charged","saying"] ["so"] [2] (ei_Z (Q6P (Q0n (Q0b 0) j1 T.j3Z.cls T.j4f (Q7K _ _ _ _ _)) (Q0b 3) wB wB T.j2Q)) (by rw [sizeLine_eq]; omega) (by exact λ q hq s H fp => ⟨[some _,some _],rfl,(Q3b (Q0B (Q0q 0 (show List.Nodup (["charged","saying","so"] : List Str) by decide +kernel)) (Q0B (Q0q 1 (show List.Nodup (["charged","saying","so"] : List Str) by decide +kernel)) Q1G))),⟨_,rfl,(Q0m (Q0b 0) (Q0h j0a (hr.mono wF) (Q0a (Q0b 1) (Q0a (Q0b 2) Q0d)) ⟨some q.2,so,rfl,rfl⟩) Q1X)⟩⟩)) Q0d) (Q0N (by first | exact Or.inr rfl | exact Or.inl (Or.inl rfl) | exact Or.inl (Or.inr (Or.inl rfl)) | exact Or.inl (Or.inr (Or.inr ⟨_,rfl,by first | assumption | rfl⟩))))) (Q0b 0) j1 T.j3Z.cls T.j4f (by show 5 < 1000; decide) ?_)
   have e1 : ((ch.zip (Q1K hs m said)).map λ x : Int × Int => D.int (x.1 + ab (x.2 - so))) = ((ch.zip (Q1K hs m said)).map λ x => x.1 + ab (x.2 - so)).map D.int := by
    rw [List.map_map]
    rfl
   rw [e1,Q8j]
   have own : ∀ (x : Hn) (p r : Nat) (Y : Option MO),q0 < p -> NAt ⟨CK1,CK5,CK3,CK2,CK4,CK0⟩ O' x p r s -> NAt ⟨CK1,CK5,CK3,CK2,CK4,CK0⟩ (O'.set q0 Y) x p r s := λ x p r Y hp h => h.own λ a h1 h2 => List.getElem?_set_ne wF
   refine Q0p (hR _ ⟨(List.length_set ..).trans bk.l,λ a ha => by rw [List.getElem?_set_ne wF]; exact bk.o a ha⟩ ?_)
   rw [show Q1n (.t hs hd ch) m said so = .t (Q1o hs m said so) (Q1n hd hs.length (asS (Q1K hs m said)) so) ((ch.zip (Q1K hs m said)).map λ x => x.1 + ab (x.2 - so)) by simp only [Q1n]]
   have eo : ∀ p,offN (Q1o hs m said so) p = offN hs p := λ p => Z0a _ _ p (by rw [Q2w,List.map_map]; exact List.map_congr_left λ x _ => Q3f x m said so)
   refine NAt.ti ⟨?_,(Q7d _ _).mpr λ i x hx => ?_,?_⟩
   ·rw [eo,Q2t]; exact Q1h j1
   ·rw [Q2w,List.getElem?_map] at hx
    obtain ⟨w,hw,rfl⟩ := Option.map_eq_some_iff.mp hx
    have hi := (List.getElem?_eq_some_iff.mp hw).1
    have := j3 i w hw
    rw [if_pos hi] at this
    rw [Q2w,<- List.map_take,<- Q2w,Q2t]
    exact own _ _ _ _ wF this
   ·rw [Q2t,Q4U]; exact own _ _ _ _ wF j2
theorem Q7t (Fn : Fun K "anew" "Tier.anew" Q2N f fd) : FnOk P w K mg base CX0 12 f fd ["self"] (toSp K (Q1b ⟨CK1,CK5,CK3,CK2,CK4,CK0⟩ 0)) := okF (k := 11) Fn Q4Z (λ ds O R h => (Z1V h).elim) (λ cdv A outer s H E ds O R hr h => (Z1V h).elim)
theorem Q3p {j : Nat} (Fn : Fun K "anew" "Tier.anew" Q2N f fd)  (j0y : Q0R P w K mg base CK4 (17 + 8 * j + 1) "Tier" (Q1g ⟨CK1,CK5,CK3,CK2,CK4,CK0⟩ (j + 1))) : FnOk P w K mg base CX0 (19 + 8 * j + 1) f fd ["self"] (toSp K (Q1b ⟨CK1,CK5,CK3,CK2,CK4,CK0⟩ (j + 1))) := by
 refine okF (k := 19 + 8 * j) Fn Q4Z (λ ds O R h => ?_) (λ cdv A outer s H E ds O R hr h => ?_)
 ·obtain ⟨_,_,_,_,_,_,_,rfl,_⟩ := h; rfl
 ·obtain ⟨q,n,m,s,hs,hd,ch,rfl,hT,hk,hj,hm,hs1,hR⟩ := h
  have hl := hk.to.2.2.1
  have hpl : ((List.range hs.length).map λ i => (q + 1 + Q0t (hs.take i),hs.getD i (Hn.p .h))).length = hs.length := by rw [List.length_map,List.length_range]
  have hp2 : ((List.range hs.length).map λ i => (q + 1 + Q0t (hs.take i),hs.getD i (Hn.p .h))).map (·.2) = hs := by rw [List.map_map]; exact Q4P hs (.p .h)
  have hp1 : ((List.range hs.length).map λ i => (q + 1 + Q0t (hs.take i),hs.getD i (Hn.p .h))).map (λ x => D.ptr x.1) = (List.range hs.length).map λ i => D.ptr (q + 1 + Q0t (hs.take i)) := by rw [List.map_map]; rfl
  have hPv : PnAt ⟨CK1,CK5,CK3,CK2,CK4,CK0⟩ O m s (j + 1) ((List.range hs.length).map λ i => (q + 1 + Q0t (hs.take i),hs.getD i (Hn.p .h))) := λ x hx => by
   obtain ⟨i,hi,rfl⟩ := List.mem_map.mp hx
   have hi := List.mem_range.mp hi
   have e : hs[i]? = some (hs.getD i (.p .h)) := by rw [List.getD_eq_getElem?_getD,List.getElem?_eq_getElem hi]; rfl
   exact ⟨(Q7d _ _).mp hT.to.2.1 i _ e,⟨n,(Q4E _).mp hk.to.1 _ (List.mem_of_getElem? e)⟩,Nat.lt_succ_of_le ((Q8c hj).1 _ (List.mem_of_getElem? e))⟩
  generalize ((List.range hs.length).map λ i => (q + 1 + Q0t (hs.take i),hs.getD i (Hn.p .h))) = pv at hpl hp2 hp1 hPv
  refine Q0c (Q0v (Q1s j0y (hr.mono wF) (Q0a (Q0n (Q0b 0) hT.to.1 T.j3Z.cls T.j4d (Q5M _ _ _ _ _ _)) (Q0a (Q0n (Q0b 0) hT.to.1 T.j3Z.cls T.j4e (Z0J _ _ _ _ _)) Q0d)) ⟨O.length,m,s,pv,q + 1 + Q0t hs,hd,O,by rw [hp1],rfl,rfl,hPv,λ x hx => ?_,hm,hs1,by rw [hpl]; exact hl,rfl,?_⟩))
  ·rw [List.mem_singleton.mp hx,hpl]; exact ⟨hT.to.2.2,⟨n,hk.to.2.1⟩,Nat.lt_succ_of_le (Q8c hj).2⟩
  ·rw [hp2]; exact hR
theorem Q8P (Fn : Fun K "charges_of" "charges_of" Q3n f fd) (hm : mg "charges_of" = some (.ref f)) (hb : Q0A K fd ["adviser","turns"] []) (j0a : Q0j P w K mg base 1 "charge" (Q0i Q1D)) : Q0j P w K mg base 2 "charges_of" (Q0i spOf) := by
 refine okD (k := 1) Fn Q8A hm hb (λ ds O R h => ?_) (λ cdv A outer s H E ds O R hr h => ?_)
 ·obtain ⟨_,⟨_,_,_,rfl,_⟩,_⟩ := h; rfl
 ·obtain ⟨d,⟨j,m,ts,rfl,⟨hl,hlen⟩,hj,rfl⟩,hR⟩ := h
  have hz : ∀ t ∈ ts,atI (t.1.map od) (0 + (j : Int)) = some (od (sat t j)) := λ t ht => at_od (by rw [hlen t ht]; exact hj)
  refine Q0c (Q0v (EvP.ev (Q0J (λ q => .int (Z3J j q)) ["said","so"] ["adviser"] [0] (Q2z (Q0b 1) wB) (by rw [sizeLine_eq]; omega) (by exact λ q hq s H fp => ⟨[some _,some _],rfl,(Q3b (Q0B (Q0q 0 (show List.Nodup (["said","so","adviser"] : List Str) by decide +kernel)) (Q0B (Q0q 1 (show List.Nodup (["said","so","adviser"] : List Str) by decide +kernel)) Q1G))),⟨_,rfl,(Q0h j0a (hr.mono wE) (Q0a (Q1p (Q0b 0) (Q0b 2) (hz q hq)) (Q0a (Q0b 1) Q0d)) ⟨_,_,rfl,rfl⟩)⟩⟩)) ?_))
  rw [List.map_map] at hR
  exact hR
theorem Z3t (Fn : Fun K "charges" "charges" Q6p f fd) (hm : mg "charges" = some (.ref f)) (hb : Q0A K fd ["many","turns"] []) (j1r : Q0j P w K mg base 2 "charges_of" (Q0i spOf)) : Q0j P w K mg base 4 "charges" (Q0i Q5T) := by
 refine okD (k := 3) Fn Z3b hm hb (λ ds O R h => ?_) (λ cdv A outer s H E ds O R hr h => ?_)
 ·obtain ⟨_,⟨_,_,rfl,_⟩,_⟩ := h; rfl
 ·obtain ⟨d,⟨m,ts,rfl,hm,hL,rfl⟩,hR⟩ := h
  refine Q0c (Q0v (EvP.ev (Q0x T.j2N (Q0a (Q0J (λ q => .int ((ts.map (Z3J q)).sum)) ["adviser"] ["turns"] [1] (Q2y (Q0b 0) T.j2S wC wC) (by rw [List.length_range,sizeLine_eq]; omega) (by exact λ q hq s H fp => ⟨[some _],rfl,(Q0q 0 (show List.Nodup (["adviser","turns"] : List Str) by decide +kernel)),⟨_,rfl,(Q0s T.j2P (Q0a (Q0h j1r (hr.mono wE) (Q0a (Q0b 0) (Q0a (Q0b 1) Q0d)) ⟨_,m,_,rfl,hL,List.mem_range.mp hq,rfl⟩) Q0d) (Z6j (by first | exact Or.inr rfl | exact Or.inl (Or.inl rfl) | exact Or.inl (Or.inr (Or.inl rfl)) | exact Or.inl (Or.inr (Or.inr ⟨_,rfl,by first | assumption | rfl⟩)))))⟩⟩)) Q0d) (Q0N (by first | exact Or.inr rfl | exact Or.inl (Or.inl rfl) | exact Or.inl (Or.inr (Or.inl rfl)) | exact Or.inl (Or.inr (Or.inr ⟨_,rfl,by first | assumption | rfl⟩))))) ?_))
  unfold Z6Q at hR
  rw [List.map_map] at hR
  have e : (λ q => D.int ((ts.map (Z3J q)).sum)) = (D.int ∘ λ k => sm (Z3J k) ts) := by
   funext q
   show D.int _ = D.int _
   rw [Q4h]
  rw [e]
  exact hR
theorem Y1c (Fn : Fun K "ran" "ran" Z8Y f fd) (hm : mg "ran" = some (.ref f)) (hb : Q0A K fd ["hand","turns"] []) (j0N : Q0j P w K mg base 5 "check_turns" (Q0i Q2a)) (j0r : Q0e P w K mg base CK1 7 "anew" (Q3d CK1)) (j0f : Q0e P w K mg base CK1 6 "say" (Q0E CK1 CK5 CK3 CK2)) (j0j : Q0e P w K mg base CK1 6 "hear" (Q2D CK1)) (j0s : Q0e P w K mg base CK5 9 "anew" (Q0T CK5 CK3 false)) (j0c : Q0e P w K mg base CK5 6 "say" (Q0E CK1 CK5 CK3 CK2)) (j0k : Q0e P w K mg base CK5 8 "hear" (Q0K CK5 CK3 false)) (j0t : Q0e P w K mg base CK3 9 "anew" (Q0T CK5 CK3 true)) (j0d : Q0e P w K mg base CK3 6 "say" (Q0E CK1 CK5 CK3 CK2)) (j0l : Q0e P w K mg base CK3 8 "hear" (Q0K CK5 CK3 true)) (j0u : Q0e P w K mg base CK2 8 "anew" (Q3c CK2)) (j0g : Q0e P w K mg base CK2 6 "say" (Q0E CK1 CK5 CK3 CK2)) (j0m : Q0e P w K mg base CK2 6 "hear" (Q2C CK2)) (j0R : Q0e P w K mg base CK4 36 "anew" (Q1b ⟨CK1,CK5,CK3,CK2,CK4,CK0⟩ 3)) (j0M : Q0e P w K mg base CK4 33 "say" (Q1B ⟨CK1,CK5,CK3,CK2,CK4,CK0⟩ 3)) (j0A : Q0e P w K mg base CK4 34 "hear" (Q0X ⟨CK1,CK5,CK3,CK2,CK4,CK0⟩ 3)) (j0v : Q0e P w K mg base CK0 8 "anew" (Q3e CK0)) (j0h : Q0e P w K mg base CK0 5 "say" (Q4e CK0)) (j0n : Q0e P w K mg base CK0 6 "hear" (Q2E CK0)) : Q0j P w K mg base 37 "ran" (Z1S ⟨CK1,CK5,CK3,CK2,CK4,CK0⟩ 3) := by
 refine okD (k := 36) Fn Q9F hm hb (λ ds O R h => ?_) (λ cdv A outer s H E ds O R hr h => ?_)
 ·obtain ⟨_,_,_,_,_,_,rfl,_⟩ := h; rfl
 ·obtain ⟨q0,n,m,s,x,ts,rfl,hW,hok,hj,hm,hs,hts,htl,hR⟩ := h
  have hev := Z2x hok hm.2 hts
  have h0 : 0 <= s := by omega
  refine Q4F ?_
  refine Q0c (Q0y (EvP.ev (Q0h j0N (hr.mono wE) (Q0a (Q3A (C := ⟨CK1,CK5,CK3,CK2,CK4,CK0⟩) T.j3h.cls T.j3n.cls T.j3x.cls T.j3J.cls T.j3j T.j3p T.j3z T.j3L T.j3R.cls T.j3T T.j3Z.cls T.j4b (Q0b 0) hW hok) (Q0a (Q1S (C := ⟨CK1,CK5,CK3,CK2,CK4,CK0⟩) T.j3h.cls T.j3n.cls T.j3x.cls T.j3J.cls T.j3k T.j3q T.j3A T.j3M T.j3R.cls T.j3U T.j3Z.cls T.j4c (Q0b 0) hW hok) (Q0a (Q0b 1) Q0d))) ⟨m,s,ts,rfl,hm.2,hts,rfl⟩) ?_))
  refine Q0c (Q4a (Q9b (C := ⟨CK1,CK5,CK3,CK2,CK4,CK0⟩) j0r j0s j0t j0u (hr.mono wE) (hr.mono wE) (hr.mono wE) j0v (hr.mono wE) j0R (hr.mono wE) (Q0b 0) hW hok hj hm hs ⟨_,Q0q 2 Q9F.nd,?_⟩))
  refine Q0c (Q0O 3 (Q4W Q0d ?_) Q9F.nd)
  have k1 : Kp O.length O (O ++ layN ⟨CK1,CK5,CK3,CK2,CK4,CK0⟩ (Q0D x m) O.length m s ++ [some (MO.lst [])]) := by rw [List.append_assoc]; exact Kp.app _ (Nat.le_refl _)
  have a1 : NAt ⟨CK1,CK5,CK3,CK2,CK4,CK0⟩ (O ++ layN ⟨CK1,CK5,CK3,CK2,CK4,CK0⟩ (Q0D x m) O.length m s ++ [some (MO.lst [])]) (evN m x ts 0) O.length m s := Q6K ⟨CK1,CK5,CK3,CK2,CK4,CK0⟩ (Q0D x m) O _ m s
  have l1 : (O ++ layN ⟨CK1,CK5,CK3,CK2,CK4,CK0⟩ (Q0D x m) O.length m s).length = O.length + sizN x := by rw [List.length_append,Q5D,Q4i]
  have b1 : (O ++ layN ⟨CK1,CK5,CK3,CK2,CK4,CK0⟩ (Q0D x m) O.length m s ++ [some (MO.lst [])])[O.length + sizN x]? = some (some (MO.lst (((List.range 0).map (Q0U m x ts)).map D.int))) := by rw [<- l1]; exact st0
  rw [l1]
  generalize O ++ layN ⟨CK1,CK5,CK3,CK2,CK4,CK0⟩ (Q0D x m) O.length m s ++ [some (MO.lst [])] = O1 at k1 a1 b1 ⊢
  refine Q0c (Q5f (Q2z (Q0b 1) wB) (λ i ρ O' => ∃ (v1 v2 : Option D),ρ = [some (.ptr q0),some (.tup (ts.map tD)),some (.ptr O.length),some (.ptr (O.length + sizN x)),v1,v2] /\ Kp O.length O O' /\ NAt ⟨CK1,CK5,CK3,CK2,CK4,CK0⟩ O' (evN m x ts i) O.length m s /\ O'[O.length + sizN x]? = some (some (MO.lst (((List.range i).map (Q0U m x ts)).map D.int)))) ⟨_,_,rfl,k1,a1,b1⟩ ?_ ?_)
  ·clear k1 a1 b1 l1
   rintro i z ρ O' hx ⟨v1,v2,rfl,kp,hA,hL⟩
   rw [List.getElem?_map] at hx
   obtain ⟨tn,hq,rfl⟩ := Option.map_eq_some_iff.mp hx
   have hi := (List.getElem?_eq_some_iff.mp hq).1
   have hok1 := hts tn (List.mem_of_getElem? hq)
   have he := hev i wF
   have hz := Z4B (m := m) (x := x) (ts := ts) i wF
   have hdp := Z1t (m := m) (x := x) (ts := ts) i wF
   have hsay : Q0U m x ts i = sayN (evN m x ts i) m tn.1 := by unfold Q0U; rw [Q7L hq]
   rw [Q2e hq,List.range_succ,List.map_append,List.map_append,List.map_cons,List.map_nil,hsay]
   generalize evN m x ts i = y at he hA hz hdp
   generalize hLg : (List.range i).map (Q0U m x ts) = L at hL
   have hLl : L.length = i := by rw [<- hLg,List.length_map,List.length_range]
   refine ⟨_,Q3b (Q0B (Q0q 4 Q9F.nd) (Q0B (Q0q 5 Q9F.nd) Q1G)),?_⟩
   refine Q0c (Q4b (Q0b 3) hL (Z1q (C := ⟨CK1,CK5,CK3,CK2,CK4,CK0⟩) j0f j0c j0d j0g (hr.mono wE) j0h (hr.mono wE) j0M (hr.mono wE) (Q0b 2) hA he wF hm h0 (hok1.said hm.2) (Q0a (Q0b 4) Q0d)) (by rw [sizeLine_eq,List.length_map]; omega) ?_)
   have hA2 : NAt ⟨CK1,CK5,CK3,CK2,CK4,CK0⟩ (O'.set (O.length + sizN x) (some (MO.lst (L.map D.int ++ [.int (sayN y m tn.1)])))) y O.length m s := hA.own λ j _ h2 => List.getElem?_set_ne wF
   have hL2 : (O'.set (O.length + sizN x) (some (MO.lst (L.map D.int ++ [.int (sayN y m tn.1)]))))[O.length + sizN x]? = some (some (MO.lst (L.map D.int ++ [.int (sayN y m tn.1)]))) := Q1h hL
   have kp2 : Kp O.length O (O'.set (O.length + sizN x) (some (MO.lst (L.map D.int ++ [.int (sayN y m tn.1)])))) := ⟨by rw [List.length_set]; exact kp.l,λ j hj => by rw [List.getElem?_set_ne wF]; exact kp.o j hj⟩
   generalize O'.set (O.length + sizN x) (some (MO.lst (L.map D.int ++ [.int (sayN y m tn.1)]))) = O2 at hA2 hL2 kp2 ⊢
   refine Q0c (Q0y (Q5G (C := ⟨CK1,CK5,CK3,CK2,CK4,CK0⟩) j0j j0k j0l j0m (hr.mono wE) (hr.mono wE) (hr.mono wE) j0n (hr.mono wE) j0A (hr.mono wE) (Q0b 2) hA2 he wF wF hm (hok1.said hm.2) hok1.2.2 (Q0a (Q0b 4) (Q0a (Q0b 5) Q0d)) λ O3 c3 hA3 => ?_))
   exact Q0p ⟨_,_,rfl,kp2.tr (Kp.bl c3 (Nat.le_refl _)),hA3,by rw [c3.o _ (.inr wF)]; exact hL2⟩
  ·rintro ρ O' ⟨v1,v2,rfl,kp,hA,hL⟩
   rw [List.length_map] at hL
   generalize (List.range ts.length).map (Q0U m x ts) = L at hR hL
   refine Q0c (Q0v (EvP.ev (Q0x T.j2N (Q0a (Q0b 3) Q0d) (Q0N (by first | exact Or.inr rfl | exact Or.inl (Or.inl rfl) | exact Or.inl (Or.inr (Or.inl rfl)) | exact Or.inl (Or.inr (Or.inr ⟨_,rfl,by first | assumption | rfl⟩))))) ?_))
   exact ⟨kp.up,Z0c _,hR⟩
theorem Z7s (Fn : Fun K "paper" "paper" Z1c f fd) (hm : mg "paper" = some (.ref f)) (hb : Q0A K fd ["weigher","turns"] []) (j0N : Q0j P w K mg base 5 "check_turns" (Q0i Q2a)) (j0a : Q0j P w K mg base 1 "charge" (Q0i Q1D)) (j0r : Q0e P w K mg base CK1 7 "anew" (Q3d CK1)) (j0f : Q0e P w K mg base CK1 6 "say" (Q0E CK1 CK5 CK3 CK2)) (j0j : Q0e P w K mg base CK1 6 "hear" (Q2D CK1)) (j0s : Q0e P w K mg base CK5 9 "anew" (Q0T CK5 CK3 false)) (j0c : Q0e P w K mg base CK5 6 "say" (Q0E CK1 CK5 CK3 CK2)) (j0k : Q0e P w K mg base CK5 8 "hear" (Q0K CK5 CK3 false)) (j0t : Q0e P w K mg base CK3 9 "anew" (Q0T CK5 CK3 true)) (j0d : Q0e P w K mg base CK3 6 "say" (Q0E CK1 CK5 CK3 CK2)) (j0l : Q0e P w K mg base CK3 8 "hear" (Q0K CK5 CK3 true)) (j0u : Q0e P w K mg base CK2 8 "anew" (Q3c CK2)) (j0g : Q0e P w K mg base CK2 6 "say" (Q0E CK1 CK5 CK3 CK2)) (j0m : Q0e P w K mg base CK2 6 "hear" (Q2C CK2)) (j0R : Q0e P w K mg base CK4 36 "anew" (Q1b ⟨CK1,CK5,CK3,CK2,CK4,CK0⟩ 3)) (j0M : Q0e P w K mg base CK4 33 "say" (Q1B ⟨CK1,CK5,CK3,CK2,CK4,CK0⟩ 3)) (j0A : Q0e P w K mg base CK4 34 "hear" (Q0X ⟨CK1,CK5,CK3,CK2,CK4,CK0⟩ 3)) (j0v : Q0e P w K mg base CK0 8 "anew" (Q3e CK0)) (j0h : Q0e P w K mg base CK0 5 "say" (Q4e CK0)) (j0n : Q0e P w K mg base CK0 6 "hear" (Q2E CK0)) (j1s : Q0e P w K mg base CK5 1 "total" (Q3u CK5 CK3)) (j1t : Q0e P w K mg base CK3 1 "total" (Q3u CK5 CK3)) : Q0j P w K mg base 37 "paper" (Q8o ⟨CK1,CK5,CK3,CK2,CK4,CK0⟩) := by
 refine okD (k := 36) Fn Q3v hm hb (λ ds O R h => ?_) (λ cdv A outer s H E ds O R hr h => ?_)
 ·obtain ⟨_,_,_,_,_,_,_,_,_,rfl,_⟩ := h; rfl
 ·obtain ⟨q0,n,m,s,sf,p,ws,u,ts,rfl,hW,hok,hm,hs,hts,htl,hR⟩ := h
  refine Q4F ?_
  refine Q0c (Q0y (EvP.ev (Q0h j0N (hr.mono wE) (Q0a (Q3A (C := ⟨CK1,CK5,CK3,CK2,CK4,CK0⟩) T.j3h.cls T.j3n.cls T.j3x.cls T.j3J.cls T.j3j T.j3p T.j3z T.j3L T.j3R.cls T.j3T T.j3Z.cls T.j4b (Q0b 0) hW hok) (Q0a (Q1S (C := ⟨CK1,CK5,CK3,CK2,CK4,CK0⟩) T.j3h.cls T.j3n.cls T.j3x.cls T.j3J.cls T.j3k T.j3q T.j3A T.j3M T.j3R.cls T.j3U T.j3Z.cls T.j4c (Q0b 0) hW hok) (Q0a (Q0b 1) Q0d))) ⟨m,s,ts,rfl,hm.2,hts,rfl⟩) ?_))
  refine Q0c (Q4a (Z2w j0r j0s j0t j0u (hr.mono wE) (hr.mono wE) (hr.mono wE) j0v (hr.mono wE) (Q0b 0) hW.pl hok.pl hm hs ⟨_,Q0q 2 Q3v.nd,?_⟩))
  refine Q0c (Q0O 3 (Q4W Q0d ?_) Q3v.nd)
  have eL : ∀ Y : Option MO,(O ++ [Y]).length = O.length + 1 := λ Y => by rw [List.length_append]; rfl
  rw [eL,List.append_assoc]
  have hok := hok.pl
  have hp := hok.1
  have hpm : p.m = (m : Nat) := hok.2.1
  have hps : p.sc = s := hok.2.2.1
  refine Q0c (Q5f (Q2z (Q0b 1) wB) (λ i ρ O' => ∃ (v1 v2 v3 : Option D) (w1 : List Int) (u1 : Int) (rows : List (List Int)),ρ = [some (.ptr q0),some (.tup (ts.map tD)),some (.ptr O.length),some (.ptr (O.length + 1)),v1,v2,v3] /\ O' = O ++ [some (Cs.o ⟨CK1,CK5,CK3,CK2,CK4,CK0⟩ (m : Nat) s (.v sf p w1 u1)),some (MO.lst (rows.map rowD))] /\ HvOk i m s (.v sf p w1 u1) /\ w1.sum <= u1 * p.m /\ rows.length = i /\ ∀ r ∈ rows,∃ a b x y : Int,r = [a,b,x,y] /\ x <= y * (m : Nat)) ⟨_,_,_,List.replicate m 1,1,[],rfl,rfl,hok.anew,by rw [hpm,Z4j]; omega,rfl,λ r hr => absurd hr List.not_mem_nil⟩ ?_ ?_)
  ·rintro i z ρ O' hx ⟨v1,v2,v3,w1,u1,rows,rfl,rfl,he,hsum,hrl,hrows⟩
   rw [List.getElem?_map] at hx
   obtain ⟨tn,hq,rfl⟩ := Option.map_eq_some_iff.mp hx
   have hi := (List.getElem?_eq_some_iff.mp hq).1
   have hto := hts tn (List.mem_of_getElem? hq)
   have hsd := hto.said hm.2
   have hso := hto.2.2
   have hA : (O ++ [some (Cs.o ⟨CK1,CK5,CK3,CK2,CK4,CK0⟩ (m : Nat) s (.v sf p w1 u1)),some (MO.lst (rows.map rowD))])[O.length]? = some (some (Cs.o ⟨CK1,CK5,CK3,CK2,CK4,CK0⟩ (m : Nat) s (.v sf p w1 u1))) := st0
   refine ⟨_,Q3b (Q0B (Q0q 4 Q3v.nd) (Q0B (Q0q 5 Q3v.nd) Q1G)),?_⟩
   refine Q0c (Q0O 6 (EvP.ev (Z5H j0f j0c j0d j0g (hr.mono wE) j0h (hr.mono wE) (Q0b 2) hA he hm hsd (Q0a (Q0b 4) Q0d)) ?_) Q3v.nd)
   refine Q0c (Q0y (Z2u j0j j0k j0l j0m (hr.mono wE) (hr.mono wE) (hr.mono wE) j0n (hr.mono wE) (Q0b 2) hA he wF hm hsd hso (Q0a (Q0b 4) (Q0a (Q0b 5) Q0d)) ?_))
   rw [ss0]
   have he2 := he.hear hsd hso
   have hw0 : Wok w1 := λ w hw => (he.2.2.2.1.w w hw).1
   have hwl : w1.length = tn.1.length := by rw [hto.1]; exact he.2.2.2.2
   have hs2 := Y0x (so := tn.2) (said := tn.1) hp (by rw [hpm,hps]; exact hsd) (by rw [hps]; exact hso) hw0 hwl hsum
   show Exs _ _ (O ++ some (Cs.o ⟨CK1,CK5,CK3,CK2,CK4,CK0⟩ (m : Nat) s (.v sf p (hrW sf p tn.1 tn.2 w1) (hrU sf p tn.1 tn.2 w1 u1))) :: _) _ _
   have he2 : HvOk (i + 1) m s (.v sf p (hrW sf p tn.1 tn.2 w1) (hrU sf p tn.1 tn.2 w1 u1)) := he2
   show Exs _ [_,_,_,_,_,_,some (.int (midA tn.1 w1))] _ _ _
   generalize midA tn.1 w1 = sy
   generalize hrW sf p tn.1 tn.2 w1 = w2 at he2 hs2 ⊢
   generalize hrU sf p tn.1 tn.2 w1 u1 = u2 at he2 hs2 ⊢
   have hA2 : VAt CK5 CK3 (O ++ [some (Cs.o ⟨CK1,CK5,CK3,CK2,CK4,CK0⟩ (m : Nat) s (.v sf p w2 u2)),some (MO.lst (rows.map rowD))]) O.length sf p w2 u2 := st0
   have hwl2 : w2.length = m := he2.2.2.2.2
   refine Q0c (Q4b (Q0b 3) st1 (Q0m (Q2X (Q0a (Q0b 6) (Q0a (Q0h j0a (hr.mono wE) (Q0a (Q0b 6) (Q0a (Q0b 5) Q0d)) ⟨some sy,tn.2,rfl,rfl⟩) Q0d))) (Ev.evp (Q1m (mv j1s j1t sf) (hr.mono wE) (Q0b 2) hA2 (Z2O _ _ _ _ wD wD) ⟨O.length,sf,p,u2,w2,rfl,hA2,by omega,rfl,rfl⟩)) (Z8s (List.cons_ne_nil _ _) (by rw [sizeLine_eq]; show 2 + 2 <= _; omega))) (by rw [sizeLine_eq,List.length_map]; omega) ?_)
   rw [ss1]
   refine Q0p ⟨_,_,_,w2,u2,rows ++ [[sy,ab (sy - tn.2),w2.sum,u2]],rfl,by rw [List.map_append]; rfl,he2,hs2,by rw [List.length_append,hrl]; rfl,λ r hr => ?_⟩
   rcases List.mem_append.mp hr with hr | hr
   ·exact hrows r hr
   ·rw [List.mem_singleton.mp hr]; exact ⟨_,_,_,_,rfl,by rw [<- hpm]; exact hs2⟩
  ·rintro ρ O' ⟨v1,v2,v3,w1,u1,rows,rfl,rfl,he,hsum,hrl,hrows⟩
   rw [List.length_map] at hrl
   have q1 : (O ++ [some (Cs.o ⟨CK1,CK5,CK3,CK2,CK4,CK0⟩ (m : Nat) s (.v sf p w1 u1)),some (MO.lst (rows.map rowD))])[O.length + 1]? = some (some (.lst (rows.map rowD))) := st1
   refine Q0c (Q0v (EvP.ev (Q0x T.j2N (Q0a (Q0b 3) Q0d) (Q0N (by first | exact Or.inr rfl | exact Or.inl (Or.inl rfl) | exact Or.inl (Or.inr (Or.inl rfl)) | exact Or.inl (Or.inr (Or.inr ⟨_,rfl,by first | assumption | rfl⟩))))) ?_))
   exact ⟨⟨_,rfl⟩,Q4s Z9a _,hR rows hrows wF⟩
theorem Q9U (Fn : Fun K "_law_cell_at" "_law_cell_at" Q3M f fd) (hm : mg "_law_cell_at" = some (.ref f)) (hb : Q0A K fd ["_law_script","_law_k"] []) : Q0j P w K mg base 1 "_law_cell_at" (Q0i Z4t) := by
 refine okD (k := 0) Fn Q9H hm hb (λ ds O R h => ?_) (λ cdv A outer s H E ds O R hr h => ?_)
 ·obtain ⟨_,⟨_,_,rfl,_⟩,_⟩ := h; rfl
 ·obtain ⟨d,⟨ns,k,rfl,hk0,rfl⟩,hR⟩ := h
  refine Q0c (x_if (Q0I (Q0b 1) (Q0s T.j2M (Q0a (Q0b 0) Q0d) (Q4z (by first | exact Or.inr rfl | exact Or.inl (Or.inl rfl) | exact Or.inl (Or.inr (Or.inl rfl)) | exact Or.inl (Or.inr (Or.inr ⟨_,rfl,by first | assumption | rfl⟩))))) Y1B) (λ hk => ?_) (λ hk => ?_))
  ·have hk := of_decide_eq_true hk
   rw [List.length_map] at hk
   have hi : k.toNat < ns.length := by omega
   have hz : atI (ns.map D.int) k = some (.int ns[k.toNat]) := Y0f hk0 (List.getElem?_eq_getElem hi)
   refine Q0c (Q0v (EvP.ev (Z0h (Q0b 0) (by first | exact Or.inl rfl | exact Or.inr (Or.inl rfl) | exact Or.inr (Or.inr ⟨_,rfl,by first | assumption | rfl⟩)) (Q0b 1) hz) ?_))
   unfold Q0P at hR
   rw [List.getElem?_eq_getElem hi] at hR
   exact hR
  ·have hk := of_decide_eq_false hk
   rw [List.length_map] at hk
   refine Q0p ?_
   refine Q0c (Q0v (EvP.ev Q0g ?_))
   unfold Q0P at hR
   rw [List.getElem?_eq_none wF] at hR
   exact hR
theorem Z5c (Fn : Fun K "_law_next" "_law_next" Q8E f fd) (hm : mg "_law_next" = some (.ref f)) (hb : Q0A K fd ["_law_x"] []) : Q0j P w K mg base 1 "_law_next" (Q0i Q5N) := by
 refine okD (k := 0) Fn Z4E hm hb (λ ds O R h => ?_) (λ cdv A outer s H E ds O R hr h => ?_)
 ·obtain ⟨_,⟨_,rfl,_⟩,_⟩ := h; rfl
 ·obtain ⟨d,⟨x,rfl,hx,rfl⟩,hR⟩ := h
  have m1 : IntMulOk x x := mulP (m := 40) (n := 40) hx.1 wF hx.1 wF
  have m2 : IntMulOk 48271 x := mulP (m := 20) (n := 40) wE wE hx.1 wF
  exact Q0c (Q0v (EvP.ev (Q0m (Q0m (Q0m (Q0m (Q0b 0) (Q0b 0) (Q2Z m1)) (Q0m Q0g (Q0b 0) (Q2Z m2)) Q1X) Q0g Q1X) Q0g (Q1Q wC)) hR))
theorem Z5b (Fn : Fun K "_law_seed" "_law_seed" Q8D f fd) (hm : mg "_law_seed" = some (.ref f)) (hb : Q0A K fd ["_law_script","_law_k"] []) (j1u : Q0j P w K mg base 1 "_law_cell_at" (Q0i Z4t)) (j0i : Q0j P w K mg base 1 "_law_next" (Q0i Q5N)) : Q0j P w K mg base 2 "_law_seed" (Q0i Q8m) := by
 refine okD (k := 1) Fn Q9G hm hb (λ ds O R h => ?_) (λ cdv A outer s H E ds O R hr h => ?_)
 ·obtain ⟨_,⟨_,_,rfl,_⟩,_⟩ := h; rfl
 ·obtain ⟨d,⟨ns,k,rfl,hk,rfl⟩,hR⟩ := h
  have m1 : IntMulOk 69621 k := mulP (m := 20) (n := 40) wE wE hk.1 wF
  have m2 : IntMulOk (69621 * k) k := mulP (m := 40) (n := 40) wF wF hk.1 wF
  refine Q0c (Q0O 2 (EvP.ev (Q0m (Q0m (Q0m (Q0m (Q0h j1u (hr.mono wE) (Q0a (Q0b 0) (Q0a (Q0b 1) Q0d)) ⟨_,_,rfl,hk.1,rfl⟩) Q0g (Q1Q wC)) (Q0m (Q0m Q0g (Q0b 1) (Q2Z m1)) (Q0b 1) (Q2Z m2)) Q1X) Q0g Q1X) Q0g (Q1Q wC)) ?_) Q9G.nd)
  unfold Q1W at hR
  generalize Q0P ns k = c at hR
  have h1 : 0 <= (c % 2147483647 + 69621 * k * k + 5) % 2147483647 /\ (c % 2147483647 + 69621 * k * k + 5) % 2147483647 < 3000000000 := by omega
  have h2 : 0 <= nxt ((c % 2147483647 + 69621 * k * k + 5) % 2147483647) /\ nxt ((c % 2147483647 + 69621 * k * k + 5) % 2147483647) < 3000000000 := by
   have := Z0b ((c % 2147483647 + 69621 * k * k + 5) % 2147483647)
   unfold Lo at this
   omega
  exact Q0c (Q0v (EvP.ev (Q0h j0i (hr.mono wE) (Q0a (Q0h j0i (hr.mono wE) (Q0a (Q0b 2) Q0d) ⟨_,rfl,h1,rfl⟩) Q0d) ⟨_,rfl,h2,rfl⟩) hR))
theorem Z5a (Fn : Fun K "_law_turn" "_law_turn" Q8C f fd) (hm : mg "_law_turn" = some (.ref f)) (hb : Q0A K fd ["_law_x","_law_many_here","_law_scale_here","_law_sleeps"] []) (j0i : Q0j P w K mg base 1 "_law_next" (Q0i Q5N)) : Q0j P w K mg base 2 "_law_turn" (Q0i Z0N) := by
 refine okD (k := 1) Fn Q1u hm hb (λ ds O R h => ?_) (λ cdv A outer s H E ds O R hr h => ?_)
 ·obtain ⟨_,⟨_,_,_,_,rfl,_⟩,_⟩ := h; rfl
 ·obtain ⟨d,⟨x,m,s,sl,rfl,hx,hm,hs,rfl⟩,hR⟩ := h
  refine Q4F ?_
  refine Q0c (Q0O 4 (EvP.ev (Q0m (Q0m (Q0b 0) Q0g (Q4r ⟨wC,wC⟩)) (Q0m (Q0b 2) Q0g Q1X) (Q1Q wF)) ?_) Q1u.nd)
  unfold Z2R at hR
  generalize x / 7 % (s + 1) = so at hR
  refine Q0c (Q0O 5 (Q4W Q0d ?_) Q1u.nd)
  refine Q0c (Q5f (Q2y (Q0b 1) T.j2S wC wC) (λ i ρ O' => ∃ (L : List (Option Int)) (y : Int) (u v : Option D),ρ = [some (.int y),some (.int (m : Nat)),some (.int s),some (.bl sl),some (.int so),some (.ptr O.length),u,v] /\ O' = O ++ [some (.lst (L.map od))] /\ L.length = i /\ Lo y /\ runR s sl so m 0 x = L ++ runR s sl so (m - i) i y) ⟨[],x,_,_,rfl,rfl,rfl,hx,rfl⟩ ?_ ?_)
  ·rintro i z ρ O' hz ⟨L,y,u,v,rfl,rfl,hL,hy,hrun⟩
   obtain ⟨hi,rfl⟩ := Q4o hz
   have hi : i < m := by omega
   refine ⟨_,Q0q 6 Q1u.nd,?_⟩
   have hy' : 0 <= y + (0 + ((i : Nat) : Int)) /\ y + (0 + ((i : Nat) : Int)) < 3000000000 := by have := hy.1; have := hy.2; omega
   refine Q0c (Q0O 0 (EvP.ev (Q0h j0i (hr.mono wE) (Q0a (Q0m (Q0b 0) (Q0b 6) Q1X) Q0d) ⟨_,rfl,hy',rfl⟩) ?_) Q1u.nd)
   rw [show m - i = (m - (i + 1)) + 1 by omega] at hrun
   have hrun : runR s sl so m 0 x = L ++ (Q9w s sl so (i : Int) (nxt (y + (i : Int))) :: runR s sl so (m - (i + 1)) (i + 1) (nxt (y + (i : Int)))) := hrun
   rw [show y + (0 + ((i : Nat) : Int)) = y + ((i : Nat) : Int) by omega]
   have hlo := Z0b (y + ((i : Nat) : Int))
   generalize nxt (y + ((i : Nat) : Int)) = n at hrun hlo
   refine Q0c (Q0O 7 (EvP.ev (Q0m (Q0m (Q0b 0) Q0g (Q4r ⟨wC,wC⟩)) (Q0m (Q0b 2) Q0g Q1X) (Q1Q wF)) ?_) Q1u.nd)
   refine Z3W (λ ρ' O2 => ρ' = [some (.int n),some (.int (m : Nat)),some (.int s),some (.bl sl),some (.int so),some (.ptr O.length),some (.int (0 + (i : Nat))),some (.int (if 1 < n / 3 % ((i : Int) % 7 + 3) then so else n / 16 % (s + 1)))] /\ O2 = O ++ [some (.lst (L.map od))]) (x_if (Q0I (Q0m (Q0m (Q0b 0) Q0g (Q4r ⟨wC,wC⟩)) (Q0m (Q0m (Q0b 6) Q0g (Q1Q wC)) Q0g Q1X) (Q1Q wF)) Q0g Z0n) (λ hk => ?_) (λ hk => ?_)) ?_
   ·have hk := of_decide_eq_true hk
    rw [Int.zero_add] at hk
    refine Q0c (Q0O 7 (EvP.ev (Q0b 4) ?_) Q1u.nd)
    exact Q0p ⟨by rw [if_pos hk]; rfl,rfl⟩
   ·have hk := of_decide_eq_false hk
    rw [Int.zero_add] at hk
    exact Q0p ⟨by rw [if_neg hk]; rfl,rfl⟩
   rintro _ _ ⟨rfl,rfl⟩
   have hw : Q9w s sl so (i : Int) n = if (sl && decide (n % 4 = 0)) = true then none else some (if 1 < n / 3 % ((i : Int) % 7 + 3) then so else n / 16 % (s + 1)) := rfl
   generalize (if 1 < n / 3 % ((i : Int) % 7 + 3) then so else n / 16 % (s + 1)) = z at hw
   refine Z3W (λ ρ' O2 => ρ' = [some (.int n),some (.int (m : Nat)),some (.int s),some (.bl sl),some (.int so),some (.ptr O.length),some (.int (0 + (i : Nat))),some (od (Q9w s sl so (i : Int) n))] /\ O2 = O ++ [some (.lst (L.map od))]) (x_if (EvW.t (Y1s (Q2R (Q0b 3)) (λ hbb => (Z9R (Q0I (Q0m (Q0b 0) Q0g (Q1Q wC)) Q0g Q0M))))) (λ hk => ?_) (λ hk => ?_)) ?_
   ·refine Q0c (Q0O 7 (EvP.ev Q4w ?_) Q1u.nd)
    exact Q0p ⟨by rw [hw,if_pos hk]; rfl,rfl⟩
   ·exact Q0p ⟨by rw [hw,if_neg (by rw [hk]; exact Bool.false_ne_true)]; rfl,rfl⟩
   rintro _ _ ⟨rfl,rfl⟩
   refine Q0c (Q4b (Q0b 5) st0 (Q0b 7) (by rw [sizeLine_eq,List.length_map]; omega) ?_)
   rw [ss0]
   exact Q0p ⟨L ++ [Q9w s sl so (i : Int) n],_,_,_,rfl,by rw [List.map_append]; rfl,by rw [List.length_append,hL]; rfl,hlo,by rw [hrun,List.append_assoc]; rfl⟩
  ·rintro ρ O' ⟨L,y,u,v,rfl,rfl,hL,hy,hrun⟩
   rw [Q0W,Int.toNat_natCast,Nat.sub_self] at hrun
   have e : runR s sl so m 0 x = L := by rw [hrun]; exact List.append_nil _
   rw [e] at hR
   have q0 : (O ++ [some (MO.lst (L.map od))])[O.length]? = some (some (.lst (L.map od))) := st0
   refine Q0c (Q0v (EvP.ev (Q2X (Q0a (Q0x T.j2N (Q0a (Q0b 5) Q0d) (Q0N (by first | exact Or.inr rfl | exact Or.inl (Or.inl rfl) | exact Or.inl (Or.inr (Or.inl rfl)) | exact Or.inl (Or.inr (Or.inr ⟨_,rfl,by first | assumption | rfl⟩))))) (Q0a (Q0b 4) Q0d))) ?_))
   exact ⟨⟨_,rfl⟩,Z8N (L,so),hR⟩
theorem Z3l (Fn : Fun K "_law_turns" "_law_turns" Q6h f fd) (hm : mg "_law_turns" = some (.ref f)) (hb : Q0A K fd ["_law_script","_law_start","_law_many_here","_law_scale_here","_law_sleeps"] []) (j0x : Q0j P w K mg base 2 "_law_seed" (Q0i Q8m)) (j1v : Q0j P w K mg base 2 "_law_turn" (Q0i Z0N)) : Q0j P w K mg base 3 "_law_turns" (Q0i Q8l) := by
 refine okD (k := 2) Fn Q2u hm hb (λ ds O R h => ?_) (λ cdv A outer s H E ds O R hr h => ?_)
 ·obtain ⟨_,⟨_,_,_,_,_,rfl,_⟩,_⟩ := h; rfl
 ·obtain ⟨d,⟨ns,st,m,s,sl,rfl,hl,hst,hm,hs,rfl⟩,hR⟩ := h
  refine Q4F ?_
  have hm8 : atI [D.int 60,D.int 8] (if decide ((8 : Int) < (m : Nat)) then 1 else 0) = some (.int (Q7w m)) := by
   unfold Q7w
   by_cases h : 8 < m
   ·rw [if_pos h,decide_eq_true wF]; rfl
   ·rw [if_neg h,decide_eq_false wF]; rfl
  refine Q0c (Q0O 5 (EvP.ev (Z0h (Z2t (Q0a Q0g (Q0a Q0g Q0d))) (by first | exact Or.inl rfl | exact Or.inr (Or.inl rfl) | exact Or.inr (Or.inr ⟨_,rfl,by first | assumption | rfl⟩)) (Q0x T.j2U (Q0a (Q5d (Q0b 2) Q0g Z0n) Q0d) Y1F) hm8) ?_) Q2u.nd)
  have hst2 : 0 <= st /\ st <= 1000 := by omega
  refine Q0c (Q0O 6 (EvP.ev (Z0h (Z2t (Q0a Q0g (Q0a Q0g (Q0a Q0g (Q0a Q0g (Q0a Q0g (Q0a Q0g (Q0a Q0g (Q0a Q0g Q0d))))))))) (by first | exact Or.inl rfl | exact Or.inr (Or.inl rfl) | exact Or.inr (Or.inr ⟨_,rfl,by first | assumption | rfl⟩)) (Q0m (Q0h j0x (hr.mono wE) (Q0a (Q0b 0) (Q0a (Q0b 1) Q0d)) ⟨_,_,rfl,by first | assumption | omega,rfl⟩) Q0g (Q1Q wC)) (Z9P (Q1W (Q0P ns st) st))) ?_) Q2u.nd)
  refine Q0c (Q0O 7 (Q4W Q0d ?_) Q2u.nd)
  have he1 := Z9W ns st m
  have he2 := Z9X (ns := ns) (st := st) (m := m)
  have hE : endR ns st m = (if st + Q7w m < (if st + fewR (Q1W (Q0P ns st) st) > (((ns.map D.int).length : Nat) : Int) then st + fewR (Q1W (Q0P ns st) st) else (((ns.map D.int).length : Nat) : Int)) then st + Q7w m else (if st + fewR (Q1W (Q0P ns st) st) > (((ns.map D.int).length : Nat) : Int) then st + fewR (Q1W (Q0P ns st) st) else (((ns.map D.int).length : Nat) : Int))) := by rw [List.length_map]; rfl
  unfold Q7J at hR
  refine Q0c (Q5f (xs := Q4p st (endR ns st m - st).toNat) (by rw [hE]; exact (Z5O (Q0b 1) (Q0s T.j3a (Q0a (Q0s T.j3b (Q0a (Q0s T.j2M (Q0a (Q0b 0) Q0d) (Q4z (by first | exact Or.inr rfl | exact Or.inl (Or.inl rfl) | exact Or.inl (Or.inr (Or.inl rfl)) | exact Or.inl (Or.inr (Or.inr ⟨_,rfl,by first | assumption | rfl⟩))))) (Q0a (Q0m (Q0b 1) (Q0b 6) Q1X) Q0d)) c_max) (Q0a (Q0m (Q0b 1) (Q0b 5) Q1X) Q0d)) c_min) T.j2S wF wF (by rw [<- hE]; omega) (by rw [<- hE]; omega))) (λ i ρ O' => ∃ v : Option D,ρ = [some (.scr (ns.map D.int)),some (.int st),some (.int (m : Nat)),some (.int s),some (.bl sl),some (.int (Q7w m)),some (.int (fewR (Q1W (Q0P ns st) st))),some (.ptr O.length),v] /\ O' = O ++ [some (.lst (((List.range i).map λ j : Nat => Z2R m s sl (Q1W (Q0P ns (st + (j : Int))) (st + (j : Int)))).map tD))]) ⟨_,rfl,rfl⟩ ?_ ?_)
  ·rintro i z ρ O' hz ⟨v,rfl,rfl⟩
   obtain ⟨hi,rfl⟩ := Q4o hz
   refine ⟨_,Q0q 8 Q2u.nd,?_⟩
   have hlo := Z0V (Q0P ns (st + (i : Int))) (st + (i : Int))
   refine Q0c (Q4b (Q0b 7) st0 (Q0h j1v (hr.mono wE) (Q0a (Q0h j0x (hr.mono wE) (Q0a (Q0b 0) (Q0a (Q0b 8) Q0d)) ⟨_,_,rfl,⟨by omega,by omega⟩,rfl⟩) (Q0a (Q0b 2) (Q0a (Q0b 3) (Q0a (Q0b 4) Q0d)))) ⟨_,_,_,_,rfl,by assumption,by assumption,by assumption,rfl⟩) (by rw [sizeLine_eq,List.length_map,List.length_map,List.length_range]; omega) ?_)
   rw [ss0]
   refine Q0p ⟨_,rfl,?_⟩
   rw [List.range_succ,List.map_append,List.map_append]
   rfl
  ·rintro ρ O' ⟨v,rfl,rfl⟩
   rw [Q0W]
   generalize (List.range (endR ns st m - st).toNat).map (λ j : Nat => Z2R m s sl (Q1W (Q0P ns (st + (j : Int))) (st + (j : Int)))) = L at hR
   have q0 : (O ++ [some (MO.lst (L.map tD))])[O.length]? = some (some (.lst (L.map tD))) := st0
   refine Q0c (Q0v (EvP.ev (Q0x T.j2N (Q0a (Q0b 7) Q0d) (Q0N (by first | exact Or.inr rfl | exact Or.inl (Or.inl rfl) | exact Or.inl (Or.inr (Or.inl rfl)) | exact Or.inl (Or.inr (Or.inr ⟨_,rfl,by first | assumption | rfl⟩))))) ?_))
   exact ⟨⟨_,rfl⟩,Q4s Z8N _,hR⟩
theorem Z5d (Fn : Fun K "_law_many" "_law_many" Q8F f fd) (hm : mg "_law_many" = some (.ref f)) (hb : Q0A K fd ["_law_x"] []) : Q0j P w K mg base 1 "_law_many" (Z3f preX Z1d) := by
 refine okD (k := 0) Fn Z4F hm hb (λ ds O R h => ?_) (λ cdv A outer s H E ds O R hr h => ?_)
 ·obtain ⟨⟨_,rfl⟩,_⟩ := h; rfl
 ·obtain ⟨⟨c,rfl⟩,hR⟩ := h
  have hnat : ∀ i : Int,0 <= i -> ∃ m : Nat,i = (m : Int) := λ i h => Int.eq_ofNat_of_zero_le h
  refine Q0c (x_if (Q0I (Q0m (Q0b 0) Q0g (Q1Q wC)) Q0g Q0M) (λ hk => ?_) (λ hk => Q0p ?_))
  ·obtain ⟨m,hm⟩ := hnat (24 - c / 8 % 17) wF
   exact Q0c (Q0v (EvP.ev (Q0m Q0g (Q0m (Q0m (Q0b 0) Q0g (Q4r ⟨wC,wC⟩)) Q0g (Q1Q wC)) Z1j) (hR _ ⟨m,by rw [hm],by omega,by omega⟩)))
  ·obtain ⟨m,hm⟩ := hnat (1 + c / 8 % 7) wF
   exact Q0c (Q0v (EvP.ev (Q0m Q0g (Q0m (Q0m (Q0b 0) Q0g (Q4r ⟨wC,wC⟩)) Q0g (Q1Q wC)) Q1X) (hR _ ⟨m,by rw [hm],by omega,by omega⟩)))
theorem Z3m (Fn : Fun K "_law_scale" "_law_scale" Q6i f fd) (hm : mg "_law_scale" = some (.ref f)) (hb : Q0A K fd ["_law_x"] []) : Q0j P w K mg base 1 "_law_scale" (Z3f preX Q6r) := by
 refine okD (k := 0) Fn Z2W hm hb (λ ds O R h => ?_) (λ cdv A outer s H E ds O R hr h => ?_)
 ·obtain ⟨⟨_,rfl⟩,_⟩ := h; rfl
 ·obtain ⟨⟨c,rfl⟩,hR⟩ := h
  refine Q0c (Q0v (EvP.ev (Z0h (Z2t (Q0a Q0g (Q0a (Q0m Q0g (Q0m (Q0m (Q0b 0) Q0g (Q4r ⟨wC,wC⟩)) Q0g (Q1Q wC)) Q1X) Q0d))) (by first | exact Or.inl rfl | exact Or.inr (Or.inl rfl) | exact Or.inr (Or.inr ⟨_,rfl,by first | assumption | rfl⟩)) (Q0m (Q0b 0) Q0g (Q1Q wC)) (twosR wF)) (hR _ ⟨_,rfl,?_⟩)))
  split <;> omega
theorem Z5e (Fn : Fun K "_law_hand" "_law_hand" Q8G f fd) (hm : mg "_law_hand" = some (.ref f)) (hb : Q0A K fd ["_law_many_here","_law_scale_here","_law_x"] []) (j0H : Q0R P w K mg base CK1 5 "Hand" (Q1t (λ C => C = CK1 \/ C = CK5 \/ C = CK3 \/ C = CK2 \/ C = CK4 \/ C = CK0))) (j0J : Q0R P w K mg base CK5 6 "Weigher" (Q2B CK5 CK3)) (j0K : Q0R P w K mg base CK3 7 "Shifter" (Q5P CK3)) (j0I : Q0R P w K mg base CK2 6 "Rounder" (Q5Q CK2)) (j0L : Q0R P w K mg base CK0 6 "Follower" (Q5R CK0)) : Q0j P w K mg base 13 "_law_hand" (Q4g ⟨CK1,CK5,CK3,CK2,CK4,CK0⟩) := by
 refine okD (k := 12) Fn Q4j hm hb (λ ds O R h => ?_) (λ cdv A outer s H E ds O R hr h => ?_)
 ·obtain ⟨_,_,_,rfl,_⟩ := h; rfl
 ·obtain ⟨m,s,x,rfl,hm,hs,hR⟩ := h
  have hmI : (1 : Int) <= (m : Nat) /\ ((m : Nat) : Int) <= 24 := ⟨by omega,by omega⟩
  refine Q0c (Q0O 3 (EvP.ev (Q0m Q0g (Q0m (Q0m (Q0b 2) Q0g (Q4r ⟨wC,wC⟩)) Q0g (Q1Q wC)) Q1X) ?_) Q4j.nd)
  have hb : 2 <= 2 + x / 8 % 9 /\ 2 + x / 8 % 9 <= 10 := by omega
  generalize 2 + x / 8 % 9 = b at hb
  refine Q0c (Q0O 4 (EvP.ev (Q0m (Q0m (Q0b 2) Q0g (Q4r ⟨wC,wC⟩)) (Q0b 3) (Q1Q wF)) ?_) Q4j.nd)
  have ht0 := Int.emod_nonneg (x / 80) (show b ≠ 0 by omega)
  have ht1 := Int.emod_lt_of_pos (x / 80) (show 0 < b by omega)
  generalize x / 80 % b = t at ht0 ht1
  refine Q0c (Q0O 5 (EvP.ev (Q0m (Q0b 2) Q0g (Q1Q wC)) ?_) Q4j.nd)
  have hf : Frac s t b := ⟨hs.1,hs.2,ht0,ht1,by omega⟩
  have hV : ∀ (sf : Bool) (sh : Int),1 <= sh /\ sh <= 5 -> VOk sf ⟨(m : Nat),s,t,b,sh,7⟩ := λ sf sh h => ⟨hf,hmI.1,hmI.2,λ _ => ⟨h.1,by show sh < 7; omega,by show (7 : Int) <= 100; decide⟩⟩
  by_cases h0 : x % 5 = 0
  ·refine Q0c (x_if (EvT.cast (k' := true) (Q0I (Q0b 5) Q0g Q0M) (decide_eq_true h0)) (λ _ => ?_) (λ hk => by cases hk))
   refine Q0c (Q0v (Q1s j0J (hr.mono wE) (Q0a (Q0b 0) (Q0a (Q0b 1) (Q0a (Q0b 4) (Q0a (Q0b 3) Q0d)))) ⟨O.length,false,⟨(m : Nat),s,t,b,1,7⟩,rfl,st0,hV false 1 wE,rfl,?_⟩))
   rw [ss0]
   exact hR (.v false ⟨(m : Nat),s,t,b,1,7⟩ (List.replicate m 1) 1) ⟨hV false 1 wE,rfl,rfl,Q5K m,List.length_replicate⟩
  refine Q0c (x_if (EvT.cast (k' := false) (Q0I (Q0b 5) Q0g Q0M) (decide_eq_false h0)) (λ hk => by cases hk) (λ _ => Q0p ?_))
  by_cases h1 : x % 5 = 1
  ·refine Q0c (x_if (EvT.cast (k' := true) (Q0I (Q0b 5) Q0g Q0M) (decide_eq_true h1)) (λ _ => ?_) (λ hk => by cases hk))
   have hps : Q6V (m : Nat) ((List.range m).map λ k : Nat => x / (0 + (k : Int) + 3) % 4) := ⟨by rw [List.length_map,List.length_range],λ p hp => by
    obtain ⟨k,_,rfl⟩ := List.mem_map.mp hp
    have : (4 : Int) <= 10 ^ (60 : Int).toNat - 1 := by decide +kernel
    omega⟩
   refine Q0c (Q0v (Q1s j0L (hr.mono wE) (Q0a (Q0b 0) (Q0a (Q0b 1) (Q0a (EvP.cast (Q0x T.j2N (Q0a (Q0J (λ k : Nat => .int (x / (0 + (k : Int) + 3) % 4)) ["_law_k"] ["_law_x"] [2] (Q2y (Q0b 0) T.j2S wC wC) (by rw [sizeLine_eq,List.length_range,Int.toNat_natCast]; omega) (by exact λ q hq s H fp => ⟨[some _],rfl,(Q0q 0 (show List.Nodup (["_law_k","_law_x"] : List Str) by decide +kernel)),⟨_,rfl,(Q0m (Q0m (Q0b 1) (Q0m (Q0b 0) Q0g Q1X) (Q4r ⟨by have := List.mem_range.mp hq; omega,by have := List.mem_range.mp hq; omega⟩)) Q0g (Q1Q wC))⟩⟩)) Q0d) (Q0N (by first | exact Or.inr rfl | exact Or.inl (Or.inl rfl) | exact Or.inl (Or.inr (Or.inl rfl)) | exact Or.inl (Or.inr (Or.inr ⟨_,rfl,by first | assumption | rfl⟩))))) (show D.tup _ = poD (some ((List.range m).map λ k : Nat => x / (0 + (k : Int) + 3) % 4)) by rw [Int.toNat_natCast]; show _ = D.tup _; rw [List.map_map]; rfl)) Q0d))) ⟨O.length,(m : Nat),s,some _,rfl,st0,hmI,hs,hps,rfl,?_⟩))
   rw [ss0]
   exact hR (.f _ _) ⟨hps,by show ((List.range m).map _).length = m; rw [List.length_map,List.length_range]⟩
  refine Q0c (x_if (EvT.cast (k' := false) (Q0I (Q0b 5) Q0g Q0M) (decide_eq_false h1)) (λ hk => by cases hk) (λ _ => Q0p ?_))
  by_cases h2 : x % 5 = 2
  ·refine Q0c (x_if (EvT.cast (k' := true) (Q0I (Q0b 5) Q0g Q0M) (decide_eq_true h2)) (λ _ => ?_) (λ hk => by cases hk))
   refine Q0c (Q0v (Q1s j0I (hr.mono wE) (Q0a (Q0b 0) (Q0a (Q0b 1) Q0d)) ⟨O.length,(m : Nat),s,rfl,st0,hmI,hs,rfl,?_⟩))
   rw [ss0]
   exact hR (.r (List.replicate m true) 0) List.length_replicate
  refine Q0c (x_if (EvT.cast (k' := false) (Q0I (Q0b 5) Q0g Q0M) (decide_eq_false h2)) (λ hk => by cases hk) (λ _ => Q0p ?_))
  by_cases h3 : x % 5 = 3
  ·refine Q0c (x_if (EvT.cast (k' := true) (Q0I (Q0b 5) Q0g Q0M) (decide_eq_true h3)) (λ _ => ?_) (λ hk => by cases hk))
   have hsh : 1 <= 1 + x / 1000 % 5 /\ 1 + x / 1000 % 5 <= 5 := by omega
   refine Q0c (Q0v (Q1s j0K (hr.mono wE) (Q0a (Q0b 0) (Q0a (Q0b 1) (Q0a (Q0b 4) (Q0a (Q0b 3) (Q0a (Q0m Q0g (Q0m (Q0m (Q0b 2) Q0g (Q4r ⟨wC,wC⟩)) Q0g (Q1Q wC)) Q1X) (Q0a Q0g Q0d)))))) ⟨O.length,⟨(m : Nat),s,t,b,1 + x / 1000 % 5,7⟩,rfl,st0,(hV true _ hsh).so,rfl,?_⟩))
   rw [ss0]
   exact hR (.v true ⟨(m : Nat),s,t,b,1 + x / 1000 % 5,7⟩ (List.replicate m 1) 1) ⟨hV true _ hsh,rfl,rfl,Q5K m,List.length_replicate⟩
  refine Q0c (x_if (EvT.cast (k' := false) (Q0I (Q0b 5) Q0g Q0M) (decide_eq_false h3)) (λ hk => by cases hk) (λ _ => Q0p ?_))
  refine Q0c (Q0v (Q1s j0H (hr.mono wE) (Q0a (Q0b 0) (Q0a (Q0b 1) Q0d)) ⟨O.length,(m : Nat),s,CK1,rfl,.inl rfl,st0,hmI,hs,rfl,?_⟩))
  rw [ss0]
  exact hR .h trivial
theorem Z3o (Fn : Fun K "_law_hands" "_law_hands" Q6k f fd) (hm : mg "_law_hands" = some (.ref f)) (hb : Q0A K fd ["_law_many_here","_law_scale_here","_law_x"] []) (j0i : Q0j P w K mg base 1 "_law_next" (Q0i Q5N)) (j0w : Q0j P w K mg base 13 "_law_hand" (Q4g ⟨CK1,CK5,CK3,CK2,CK4,CK0⟩)) : Q0j P w K mg base 14 "_law_hands" (Q5x ⟨CK1,CK5,CK3,CK2,CK4,CK0⟩) := by
 refine okD (k := 13) Fn Q3w hm hb (λ ds O R h => ?_) (λ cdv A outer s H E ds O R hr h => ?_)
 ·obtain ⟨_,_,_,rfl,_⟩ := h; rfl
 ·obtain ⟨m,s,x,rfl,hx,hm,hs,hR⟩ := h
  obtain ⟨n,hn,hn1,hn2⟩ := size4 x
  refine Q0c (Q0O 3 (Q4W Q0d ?_) Q3w.nd)
  refine Q0c (Q5f (Q2y (Z0h (Z2t (Q0a Q0g (Q0a Q0g (Q0a Q0g (Q0a Q0g Q0d))))) (by first | exact Or.inl rfl | exact Or.inr (Or.inl rfl) | exact Or.inr (Or.inr ⟨_,rfl,by first | assumption | rfl⟩)) (Q0m (Q0b 2) Q0g (Q1Q wC)) hn) T.j2S wF wF) (λ i ρ O' => ∃ (pv : List (Nat × Hv)) (y : Int) (v4 : Option D),ρ = [some (.int (m : Nat)),some (.int s),some (.int y),some (.ptr O.length),v4] /\ (∃ Y,O' = O ++ some (MO.lst (pv.map λ z => D.ptr z.1)) :: Y) /\ PvA0 ⟨CK1,CK5,CK3,CK2,CK4,CK0⟩ O' m s pv /\ pv.length = i /\ Lo y) ⟨[],x,_,rfl,⟨[],rfl⟩,(λ z hz => absurd hz List.not_mem_nil),rfl,hx⟩ ?_ ?_)
  ·rintro i z ρ O' hz ⟨pv,y,v4,rfl,⟨Y,rfl⟩,hP,hpl,hy⟩
   obtain ⟨hi,rfl⟩ := Q4o hz
   have hi : i < n := by omega
   refine ⟨_,Q0q 4 Q3w.nd,?_⟩
   have hy' : 0 <= y + (0 + ((i : Nat) : Int)) /\ y + (0 + ((i : Nat) : Int)) < 3000000000 := by have := hy.1; have := hy.2; omega
   refine Q0c (Q0O 2 (EvP.ev (Q0h j0i (hr.mono wE) (Q0a (Q0m (Q0b 2) (Q0b 4) Q1X) Q0d) ⟨_,rfl,hy',rfl⟩) ?_) Q3w.nd)
   have hlo := Z0b (y + (0 + ((i : Nat) : Int)))
   generalize nxt (y + (0 + ((i : Nat) : Int))) = w at hlo
   refine Q0c (Z3X (Q0b 3) (Q0H j0w (hr.mono wE) (Q0a (Q0b 0) (Q0a (Q0b 1) (Q0a (Q0b 2) Q0d))) ⟨m,s,w,rfl,hm,hs,λ v hv => ⟨Z2G st0,?_⟩⟩) st0 (by rw [sizeLine_eq,List.length_map]; omega))
   have hq : ∀ (l : List D) (q : Nat),q ≠ O.length -> ((O ++ some (MO.lst (pv.map λ z => D.ptr z.1)) :: Y ++ [some (Cs.o ⟨CK1,CK5,CK3,CK2,CK4,CK0⟩ (m : Nat) s v)]).set O.length (some (MO.lst l)))[q]? = (O ++ some (MO.lst (pv.map λ z => D.ptr z.1)) :: Y ++ [some (Cs.o ⟨CK1,CK5,CK3,CK2,CK4,CK0⟩ (m : Nat) s v)])[q]? := λ l q h => List.getElem?_set_ne (Ne.symm h)
   have hLq : (O ++ some (MO.lst (pv.map λ z => D.ptr z.1)) :: Y)[O.length]? = some (some (MO.lst (pv.map λ z => D.ptr z.1))) := st0
   refine Q0p ⟨pv ++ [((O ++ some (MO.lst (pv.map λ z => D.ptr z.1)) :: Y).length,v)],w,_,rfl,⟨Y ++ [some (Cs.o ⟨CK1,CK5,CK3,CK2,CK4,CK0⟩ (m : Nat) s v)],?_⟩,λ z hz => ?_,by rw [List.length_append,hpl]; rfl,hlo⟩
   ·rw [List.append_assoc,List.cons_append,ss0,List.map_append]; rfl
   ·rcases List.mem_append.mp hz with h | h
    ·have hz1 := hP z h
     have hne : z.1 ≠ O.length := λ e => by
      rw [e,hLq] at hz1
      have := Option.some.inj (Option.some.inj hz1.1)
      revert this
      cases z.2 <;> intro h <;> cases h
     rw [hq _ _ hne]
     exact ⟨Z2G hz1.1,hz1.2⟩
    ·rw [List.mem_singleton.mp h]
     rw [hq _ _ (by rw [List.length_append]; show O.length + (_ + 1) ≠ _; omega)]
     exact ⟨st0,hv⟩
  ·rintro ρ O' ⟨pv,y,v4,rfl,⟨Y,rfl⟩,hP,hpl,hy⟩
   rw [Q0W,Int.toNat_natCast] at hpl
   have q0 : (O ++ some (MO.lst (pv.map λ z => D.ptr z.1)) :: Y)[O.length]? = some (some (MO.lst (pv.map λ z => D.ptr z.1))) := st0
   refine Q0c (Q0v (EvP.ev (Q0x T.j2N (Q0a (Q0b 3) Q0d) (Q0N (by first | exact Or.inr rfl | exact Or.inl (Or.inl rfl) | exact Or.inl (Or.inr (Or.inl rfl)) | exact Or.inl (Or.inr (Or.inr ⟨_,rfl,by first | assumption | rfl⟩))))) ?_))
   exact hR _ pv ⟨_,rfl⟩ hP ⟨by omega,by omega⟩
theorem Q7m (Fn : Fun K "_law_with_tier" "_law_with_tier" Q2G f fd) (hm : mg "_law_with_tier" = some (.ref f)) (hb : Q0A K fd ["_law_hands_here","_law_many_here","_law_scale_here","_law_x"] []) (j0i : Q0j P w K mg base 1 "_law_next" (Q0i Q5N)) (j0w : Q0j P w K mg base 13 "_law_hand" (Q4g ⟨CK1,CK5,CK3,CK2,CK4,CK0⟩)) (j0O : Q0j P w K mg base 14 "_law_hands" (Q5x ⟨CK1,CK5,CK3,CK2,CK4,CK0⟩)) (j0y : Q0R P w K mg base CK4 34 "Tier" (Q1g ⟨CK1,CK5,CK3,CK2,CK4,CK0⟩ 3)) : Q0j P w K mg base 36 "_law_with_tier" (Z4o ⟨CK1,CK5,CK3,CK2,CK4,CK0⟩) := by
 refine okD (k := 35) Fn Q3H hm hb (λ ds O R h => ?_) (λ cdv A outer s H E ds O R hr h => ?_)
 ·obtain ⟨_,_,_,_,rfl,_⟩ := h; rfl
 ·obtain ⟨m,s,x,pv,rfl,hx,hP,hl,hm,hs,hR⟩ := h
  have h3x : 0 <= x /\ x < 3000000000 := by have := hx.1; have := hx.2; omega
  by_cases hk : x % 3 > 0
  ·refine Q0c (x_if (EvT.cast (k' := true) (Q0I (Q0m (Q0b 3) Q0g (Q1Q wC)) Q0g Z0n) (decide_eq_true hk)) (λ _ => ?_) (λ hk => by cases hk))
   exact Q0c (Q0v (EvP.ev (Q0b 0) (hR O pv ⟨[],(List.append_nil _).symm⟩ hP hl)))
  refine Q0c (x_if (EvT.cast (k' := false) (Q0I (Q0m (Q0b 3) Q0g (Q1Q wC)) Q0g Z0n) (decide_eq_false hk)) (λ hk => by cases hk) (λ _ => Q0p ?_))
  refine Q0c (Q4a (Q0H j0O (hr.mono wE) (Q0a (Q0b 1) (Q0a (Q0b 2) (Q0a (Q0h j0i (hr.mono wE) (Q0a (Q0b 3) Q0d) ⟨_,rfl,h3x,rfl⟩) Q0d))) ⟨m,s,nxt x,rfl,Z0b x,hm,hs,λ O2 pv2 u2 hP2 hl2 => ⟨_,Q0q 4 Q3H.nd,?_⟩⟩))
  have hP0 : PnAt ⟨CK1,CK5,CK3,CK2,CK4,CK0⟩ O2 m s 2 pv := by
   obtain ⟨Y,rfl⟩ := u2
   exact hP.app
  refine Q0c (Q0v (Z9T (Z1p (Q0b 0) (Z1r Q0g) Z1s) (Z5F (Q1a (Z2s j0y (hr.mono wE) (Q1a (EvP.ev (Q0b 4) (Q1a (Q0H j0w (hr.mono wE) (Q0a (Q0s T.j2M (Q0a (Q0b 4) Q0d) (Q4z (by first | exact Or.inr rfl | exact Or.inl (Or.inl rfl) | exact Or.inl (Or.inr (Or.inl rfl)) | exact Or.inl (Or.inr (Or.inr ⟨_,rfl,by first | assumption | rfl⟩))))) (Q0a (Q0b 2) (Q0a (Q0m (Q0b 3) Q0g (Q4r ⟨wC,wC⟩)) Q0d))) ⟨pv2.length,s,_,by rw [List.length_map],by omega,hs,λ v hv => EvPs.as Q0d ?_⟩)))))))))
  have hv3 : (O2 ++ [some (Cs.o ⟨CK1,CK5,CK3,CK2,CK4,CK0⟩ (pv2.length : Nat) s v)])[O2.length]? = some (some (Cs.o ⟨CK1,CK5,CK3,CK2,CK4,CK0⟩ (pv2.length : Nat) s v)) := st0
  have hP3 := hP2.app (Y := [some (Cs.o ⟨CK1,CK5,CK3,CK2,CK4,CK0⟩ (pv2.length : Nat) s v)])
  have hP03 := hP0.app (Y := [some (Cs.o ⟨CK1,CK5,CK3,CK2,CK4,CK0⟩ (pv2.length : Nat) s v)])
  have u3 := Q4d (Z := [some (Cs.o ⟨CK1,CK5,CK3,CK2,CK4,CK0⟩ (pv2.length : Nat) s v)]) u2
  generalize O2 ++ [some (Cs.o ⟨CK1,CK5,CK3,CK2,CK4,CK0⟩ (pv2.length : Nat) s v)] = O3 at hv3 hP3 hP03 u3 ⊢
  have hp1 := Z8l hP3
  rw [pv_p]
  have hl3 : (pv2.map λ z => (z.1,Hn.p z.2)).length = pv2.length := List.length_map ..
  rw [<- hl3] at hv hv3 hl2
  generalize (pv2.map λ z => (z.1,Hn.p z.2)) = pw at hp1 hv hv3 hl2 ⊢
  refine ⟨O3.length,m,s,pw,O2.length,.p v,O3,rfl,rfl,rfl,hp1.up wE,λ z hz => ?_,hm,hs,by omega,rfl,EvPs.as Q0d ⟨Nat.le_of_ble_eq_true rfl,_,Z9u ?_,?_⟩⟩
  ·rw [List.mem_singleton.mp hz]; exact ⟨NAt.pi hv3,⟨0,by simpa only [NOk] using hv⟩,by simp only [depN]; decide⟩
  ·have := Z5V pv (some 1) none
   rw [sizeLine_eq,List.length_map]
   show (cutA pv (some 1) none).length + 1 <= _
   omega
  have hn := Z1O hp1 hv wF
  have ha := Q6K ⟨CK1,CK5,CK3,CK2,CK4,CK0⟩ (Q0D (.t (pw.map (·.2)) (.p v) []) m) O3 [] m s
  rw [List.append_nil] at ha
  rw [show ((cutA pv (some 1) none).map pnP ++ [D.ptr O3.length]) = (cutA pv (some 1) none ++ [(O3.length,Q0D (.t (pw.map (·.2)) (.p v) []) m)]).map pnP by rw [List.map_append]; rfl]
  refine hR _ _ (Q4d u3) (λ z hz => ?_) ?_
  ·rcases List.mem_append.mp hz with hz | hz
   ·exact hP03.app z (Q9f hz)
   ·rw [List.mem_singleton.mp hz]; exact ⟨ha,⟨0,hn.1⟩,Nat.lt_succ_of_le hn.2⟩
  ·rw [List.length_append,show cutA pv (some 1) none = pv.drop 1 from Z5W pv 1,List.length_drop,List.length_singleton]; omega
theorem Q9V (Fn : Fun K "_law_between" "_law_between" Q3N f fd) (hm : mg "_law_between" = some (.ref f)) (hb : Q0A K fd ["_law_hands_here","_law_turns_here"] []) (j0B : Q0j P w K mg base 37 "ran" (Z1S ⟨CK1,CK5,CK3,CK2,CK4,CK0⟩ 3)) : Q0j P w K mg base 38 "_law_between" (Z4u ⟨CK1,CK5,CK3,CK2,CK4,CK0⟩) := by
 refine okD (k := 37) Fn Q2b hm hb (λ ds O R h => ?_) (λ cdv A outer s H E ds O R hr h => ?_)
 ·obtain ⟨_,_,_,_,_,rfl,_⟩ := h; rfl
 ·obtain ⟨n,m,sc,pv,ts,rfl,hP,hl,hm,hs,hts,htl,hR⟩ := h
  have hv := hP.ok
  have hsz : pv.length <= sizeLine := by rw [sizeLine_eq]; omega
  refine Q4F ?_
  refine Q0c (Y0l 2 (λ z : Nat × Hn => .tup (((List.range ts.length).map (Q0U m z.2 ts)).map D.int)) ["_law_hand_here"] ["_law_turns_here"] [1] (Q2z (Q0b 0) wB) hsz (by exact λ q hq s H fp => ⟨[some _],rfl,(Q0q 0 (show List.Nodup (["_law_hand_here","_law_turns_here"] : List Str) by decide +kernel)),⟨_,rfl,(Ev.evp (Q0H j0B (hr.mono wE) (Q0a (Q0b 0) (Q0a (Q0b 1) Q0d)) ⟨q.1,(hv q hq).2.1.choose,m,sc,q.2,ts,rfl,(hv q hq).1,(hv q hq).2.1.choose_spec,Nat.le_succ_of_le (hv q hq).2.2,hm,hs,hts,htl,rfl,rfl⟩))⟩⟩) ?_ Q2b.nd)
  refine Q0c (Q0O 3 (Q4W Q0d ?_) Q2b.nd)
  refine Q0c (Q5f (Q2y (Q0s T.j2M (Q0a (Q0b 1) Q0d) (Q4z (by first | exact Or.inr rfl | exact Or.inl (Or.inl rfl) | exact Or.inl (Or.inr (Or.inl rfl)) | exact Or.inl (Or.inr (Or.inr ⟨_,rfl,by first | assumption | rfl⟩))))) T.j2S wF (by rw [List.length_map]; omega)) (λ i ρ O' => ∃ v4 : Option D,ρ = [some (.tup (pv.map pnP)),some (.tup (ts.map tD)),some (.lst (pv.map λ z => .tup (((List.range ts.length).map (Q0U m z.2 ts)).map D.int))),some (.ptr O.length),v4] /\ O' = O ++ [some (MO.lst (((tbN m (pv.map (·.2)) ts).take i).map tD))]) ⟨_,rfl,by rw [List.take_zero]; rfl⟩ ?_ ?_)
  ·rintro i z ρ O' hz ⟨v4,rfl,rfl⟩
   obtain ⟨hi,rfl⟩ := Q4o hz
   rw [List.length_map] at hi
   have hi : i < ts.length := by omega
   have hat : atI (ts.map tD) (0 + ((i : Nat) : Int)) = some (tD (tnX ts i)) := by rw [Int.zero_add]; exact Q2S (by rw [List.getElem?_map,List.getElem?_eq_getElem hi,Q7L (List.getElem?_eq_getElem hi)]; rfl)
   have hat2 : ∀ z : Nat × Hn,atI (((List.range ts.length).map (Q0U m z.2 ts)).map D.int) (0 + ((i : Nat) : Int)) = some (.int (Q0U m z.2 ts i)) := λ z => by rw [Int.zero_add]; exact Q2S (by rw [List.getElem?_map,List.getElem?_map,List.getElem?_range hi]; rfl)
   have hrow : ((tbN m (pv.map (·.2)) ts).take (i + 1)).map tD = ((tbN m (pv.map (·.2)) ts).take i).map tD ++ [.tup [.tup (pv.map λ z => .int (Q0U m z.2 ts i)),.int (tnX ts i).2]] := by
    rw [List.take_add_one,Z4h hi,List.map_append]
    show _ ++ [D.tup [.tup ((asS ((pv.map (·.2)).map λ v => Q0U m v ts i)).map od),.int (tnX ts i).2]] = _
    rw [Z6r,List.map_map,List.map_map]
    rfl
   have hll : (((tbN m (pv.map (·.2)) ts).take i).map tD).length <= 63 := by rw [List.length_map,List.length_take,Z0L]; omega
   rw [hrow]
   generalize ((tbN m (pv.map (·.2)) ts).take i).map tD = L at hll
   refine ⟨_,Q0q 4 Q2b.nd,?_⟩
   refine Q0c (Q4b (Q0b 3) st0 (Q2X (Q0a (Q0x T.j2N (Q0a (Q0J (λ z : Nat × Hn => .int (Q0U m z.2 ts i)) ["_law_row"] ["_law_k"] [4] (Q2z (Q0b 2) wB) hsz (by exact λ q hq s H fp => ⟨[some _],rfl,(Q0q 0 (show List.Nodup (["_law_row","_law_k"] : List Str) by decide +kernel)),⟨_,rfl,(Q1p (Q0b 0) (Q0b 1) (hat2 q))⟩⟩)) Q0d) (Q0N (by first | exact Or.inr rfl | exact Or.inl (Or.inl rfl) | exact Or.inl (Or.inr (Or.inl rfl)) | exact Or.inl (Or.inr (Or.inr ⟨_,rfl,by first | assumption | rfl⟩))))) (Q0a (Q1p (Q1p (Q0b 1) (Q0b 4) (hat)) Q0g rfl) Q0d))) (by rw [sizeLine_eq]; omega) ?_)
   rw [ss0]
   exact Q0p ⟨_,rfl,rfl⟩
  ·rintro ρ O' ⟨v4,rfl,rfl⟩
   rw [Q0W,Int.toNat_natCast,List.length_map,List.take_of_length_le (by rw [Z0L]; exact Nat.le_refl _)]
   have q1 : (O ++ [some (MO.lst ((tbN m (pv.map (·.2)) ts).map tD))])[O.length]? = some (some (MO.lst ((tbN m (pv.map (·.2)) ts).map tD))) := st0
   refine Q0c (Q0v (EvP.ev (Q0x T.j2N (Q0a (Q0b 3) Q0d) (Q0N (by first | exact Or.inr rfl | exact Or.inl (Or.inl rfl) | exact Or.inl (Or.inr (Or.inl rfl)) | exact Or.inl (Or.inr (Or.inr ⟨_,rfl,by first | assumption | rfl⟩))))) ?_))
   exact ⟨⟨_,rfl⟩,Q4s Z8N _,hR⟩
theorem Z3n (Fn : Fun K "_law_right" "_law_right" Q6j f fd) (hm : mg "_law_right" = some (.ref f)) (hb : Q0A K fd ["_law_hands_here","_law_head","_law_turns_here"] []) (j0y : Q0R P w K mg base CK4 34 "Tier" (Q1g ⟨CK1,CK5,CK3,CK2,CK4,CK0⟩ 3)) (j1w : Q0j P w K mg base 38 "_law_between" (Z4u ⟨CK1,CK5,CK3,CK2,CK4,CK0⟩)) (j0B : Q0j P w K mg base 37 "ran" (Z1S ⟨CK1,CK5,CK3,CK2,CK4,CK0⟩ 3)) (j1x : Q0j P w K mg base 37 "paper" (Q8o ⟨CK1,CK5,CK3,CK2,CK4,CK0⟩)) (j1y : Q0j P w K mg base 4 "charges" (Q0i Q5T)) (j1z : Q0e P w K mg base CK4 1 "hand_charges" (Z6V ⟨CK1,CK5,CK3,CK2,CK4,CK0⟩)) (j0j : Q0e P w K mg base CK1 6 "hear" (Q2D CK1)) (j0k : Q0e P w K mg base CK5 8 "hear" (Q0K CK5 CK3 false)) (j0l : Q0e P w K mg base CK3 8 "hear" (Q0K CK5 CK3 true)) (j0m : Q0e P w K mg base CK2 6 "hear" (Q2C CK2)) (j0A : Q0e P w K mg base CK4 34 "hear" (Q0X ⟨CK1,CK5,CK3,CK2,CK4,CK0⟩ 3)) (j0n : Q0e P w K mg base CK0 6 "hear" (Q2E CK0)) : Q0j P w K mg base 39 "_law_right" (Z0R ⟨CK1,CK5,CK3,CK2,CK4,CK0⟩) := by
 refine okD (k := 38) Fn Q1E hm hb (λ ds O R h => ?_) (λ cdv A outer s H E ds O R hr h => ?_)
 ·obtain ⟨_,_,_,_,_,_,rfl,_⟩ := h; rfl
 ·obtain ⟨m,s,pv,hp,v,ts,rfl,hP,hh,hv,hl,hm,hs,hts,htl,hR⟩ := h
  refine Q0c (Q4a (Q1s j0y (hr.mono wE) (Q0a (Q0b 0) (Q0a (Q0b 1) Q0d)) ⟨O.length,m,s,pv,hp,.p v,O,rfl,rfl,rfl,hP,λ z hz => ?_,hm,hs,hl,rfl,_,Q0q 3 Q1E.nd,?_⟩))
  ·rw [List.mem_singleton.mp hz]; exact ⟨hh,⟨0,by simpa only [NOk] using hv⟩,by simp only [depN]; decide⟩
  have hn := Z1O hP hv hl
  have ha := Q6K ⟨CK1,CK5,CK3,CK2,CK4,CK0⟩ (Q0D (.t (pv.map (·.2)) (.p v) []) m) O [] m s
  rw [List.append_nil] at ha
  have hP1 : PnAt ⟨CK1,CK5,CK3,CK2,CK4,CK0⟩ (O ++ newN ⟨CK1,CK5,CK3,CK2,CK4,CK0⟩ (pv.map (·.2)) (.p v) O.length m s) m s 3 pv := hP.app
  have hh1 : NAt ⟨CK1,CK5,CK3,CK2,CK4,CK0⟩ (O ++ newN ⟨CK1,CK5,CK3,CK2,CK4,CK0⟩ (pv.map (·.2)) (.p v) O.length m s) (.p v) hp pv.length s := hh.ap
  have ha1 : NAt ⟨CK1,CK5,CK3,CK2,CK4,CK0⟩ (O ++ newN ⟨CK1,CK5,CK3,CK2,CK4,CK0⟩ (pv.map (·.2)) (.p v) O.length m s) (Q0D (.t (pv.map (·.2)) (.p v) []) m) O.length m s := ha
  have kp : Kp O.length O (O ++ newN ⟨CK1,CK5,CK3,CK2,CK4,CK0⟩ (pv.map (·.2)) (.p v) O.length m s) := Kp.app _ (Nat.le_refl _)
  generalize O ++ newN ⟨CK1,CK5,CK3,CK2,CK4,CK0⟩ (pv.map (·.2)) (.p v) O.length m s = O1 at hP1 hh1 ha1 kp ⊢
  clear ha
  have hl2 : (pv.map (·.2)).length = pv.length := List.length_map ..
  have htb : ∀ t ∈ tbN m (pv.map (·.2)) ts,TnOk pv.length s t := by
   have := Y0t (n := 0) (m := m) (s := s) (hs := pv.map (·.2)) (ts := ts) (λ y hy => by
    obtain ⟨z,hz,rfl⟩ := List.mem_map.mp hy
    exact (hP z hz).2.1) (by rw [hl2]; exact hl.2) hm.2 wF hts
   rw [hl2] at this; exact this
  have htbl : (tbN m (pv.map (·.2)) ts).length = ts.length := Z0L ..
  refine Q0c (Q0O 4 (EvP.ev (Ev.evp (Q0H j1w (hr.mono wE) (Q0a (Q0b 0) (Q0a (Q0b 2) Q0d)) ⟨0,m,s,pv,ts,rfl,hP1,hl.2,hm,hs,hts,by omega,rfl,rfl⟩)) ?_) Q1E.nd)
  have hkv : NOk 0 (.p v) pv.length s := by simpa only [NOk] using hv
  have esay : (List.range (tbN m (pv.map (·.2)) ts).length).map (Q0U pv.length (.p v) (tbN m (pv.map (·.2)) ts)) = (List.range ts.length).map (Q0U m (Q0D (.t (pv.map (·.2)) (.p v) []) m) ts) := by
   rw [htbl]
   refine List.map_congr_left λ k hk => ?_
   rw [Z3d,Z3c (List.mem_range.mp hk),hl2]
  refine Q0c (x_if (EvT.cast (k' := false) (Q0I (Ev.evp (Q0H j0B (hr.mono wE) (Q0a (Q0b 3) (Q0a (Q0b 2) Q0d)) ⟨O.length,0,m,s,_,ts,rfl,ha1,hn.1,hn.2,hm,hs,hts,by omega,rfl,rfl⟩)) (EvP.cast (Ev.evp (Q0H j0B (hr.mono wE) (Q0a (Q0b 1) (Q0a (Q0b 4) Q0d)) ⟨hp,0,pv.length,s,.p v,_,rfl,hh1,hkv,by simp only [depN]; omega,hl,hs,htb,by omega,rfl,rfl⟩)) (congrArg (λ l : List Int => D.tup (l.map D.int)) esay)) (Z5Y hr (Or.inl rfl) (Or.inl rfl) (plT _) (plT _) (Nat.le_trans (Nat.min_le_left _ _) (Z5P _)))) (by rw [Z0i]; rfl)) (λ hk => by cases hk) (λ _ => Q0p ?_))
  clear esay
  have hev := Z2x hn.1 hm.2 hts
  refine Q0c (Q5f (Q2z (Q0b 2) wB) (λ i ρ O' => ∃ v5 v6 : Option D,ρ = [some (.tup (pv.map pnP)),some (.ptr hp),some (.tup (ts.map tD)),some (.ptr O.length),some (.tup ((tbN m (pv.map (·.2)) ts).map tD)),v5,v6,none] /\ Kp O.length O1 O' /\ NAt ⟨CK1,CK5,CK3,CK2,CK4,CK0⟩ O' (evN m (Q0D (.t (pv.map (·.2)) (.p v) []) m) ts i) O.length m s) ⟨_,_,rfl,Kp.rf _ _,by show NAt _ _ (Q0D (Q0D _ m) m) _ _ _; rw [Q9j]; exact ha1⟩ ?_ ?_)
  ·rintro i z ρ O' hx ⟨v5,v6,rfl,kp2,hA⟩
   rw [List.getElem?_map] at hx
   obtain ⟨tn,hq,rfl⟩ := Option.map_eq_some_iff.mp hx
   have hi := (List.getElem?_eq_some_iff.mp hq).1
   have hok1 := hts tn (List.mem_of_getElem? hq)
   have he := hev i wF
   have hdp := Z1t (m := m) (x := Q0D (.t (pv.map (·.2)) (.p v) []) m) (ts := ts) i wF
   have hd3 := hn.2
   rw [Q2e hq]
   refine ⟨_,Q3b (Q0B (Q0q 5 Q1E.nd) (Q0B (Q0q 6 Q1E.nd) Q1G)),?_⟩
   refine Q0c (Q0y (Q5G (C := ⟨CK1,CK5,CK3,CK2,CK4,CK0⟩) j0j j0k j0l j0m (hr.mono wE) (hr.mono wE) (hr.mono wE) j0n (hr.mono wE) j0A (hr.mono wE) (Q0b 3) hA he wF wF hm (hok1.said hm.2) hok1.2.2 (Q0a (Q0b 5) (Q0a (Q0b 6) Q0d)) λ O3 c3 hA3 => ?_))
   exact Q0p ⟨_,_,rfl,kp2.tr (Kp.bl c3 (Nat.le_refl _)),hA3⟩
  rintro ρ O2 ⟨v5,v6,rfl,kp2,hA⟩
  rw [List.length_map,Z2y,Q8Z _ (Nat.le_refl _)] at hA
  have hsum := Z8O m (pv.map (·.2)) ts
  rw [hl2] at hsum
  have hh2 : NAt ⟨CK1,CK5,CK3,CK2,CK4,CK0⟩ O2 (.p v) hp pv.length s := hh1.own λ j h1 h2 => kp2.o j (by have := NAt.le _ _ _ _ hh; omega)
  have hupY : ∃ Y,O2 = O ++ Y := (kp.tr kp2).up
  have hlen : (((pv.map pnP).length : Nat) : Int) = (pv.length : Nat) := by rw [List.length_map]
  refine Q0c (x_if (EvT.cast (k' := false) (Q0I (Ev.evp (Q1m j1z (hr.mono wE) (Q0b 3) hA.to.1 (Z2S _ _ _ _ _ wD) ⟨O.length,m,s,_,_,_,rfl,hA,rfl,rfl⟩)) (EvP.cast (Q0h j1y (hr.mono wE) (Q0a (Q0s T.j2M (Q0a (Q0b 0) Q0d) (Q4z (by first | exact Or.inr rfl | exact Or.inl (Or.inl rfl) | exact Or.inl (Or.inr (Or.inl rfl)) | exact Or.inl (Or.inr (Or.inr ⟨_,rfl,by first | assumption | rfl⟩))))) (Q0a (Q0b 4) Q0d)) ⟨pv.length,_,by rw [hlen],hl.2,⟨by omega,λ t ht => (htb t ht).1⟩,rfl⟩) (congrArg (λ l : List Int => D.tup (l.map D.int)) hsum)) (Z5Y hr (Or.inl rfl) (Or.inl rfl) (plT _) (plT _) (Nat.le_trans (Nat.min_le_left _ _) (Z5P _)))) (by rw [Z0i]; rfl)) (λ hk => by cases hk) (λ _ => Q0p ?_))
  have hfin : R (.bl true) O2 := by
   obtain ⟨Y,rfl⟩ := hupY
   exact hR Y
  clear hev hA hsum
  cases v with
  | h =>
   refine Q0c (x_if (Q2R (Q3I T.j2T (Q0b 1) hh2.pl T.j3h T.j3o T.j3m)) (λ hk => by cases hk) (λ _ => Q0p ?_))
   exact Q0c (Q0v (EvP.ev Z3H hfin))
  | r ins ov =>
   refine Q0c (x_if (Q2R (Q3I T.j2T (Q0b 1) hh2.pl T.j3J T.j3o T.j3Q)) (λ hk => by cases hk) (λ _ => Q0p ?_))
   exact Q0c (Q0v (EvP.ev Z3H hfin))
  | f po sco =>
   refine Q0c (x_if (Q2R (Q3I T.j2T (Q0b 1) hh2.pl T.j3R T.j3o T.j3Y)) (λ hk => by cases hk) (λ _ => Q0p ?_))
   exact Q0c (Q0v (EvP.ev Z3H hfin))
  | v sf p ws u =>
   refine Z3W (λ ρ O' => O' = O2 /\ ∃ v7 : Option D,ρ = [some (.tup (pv.map pnP)),some (.ptr hp),some (.tup (ts.map tD)),some (.ptr O.length),some (.tup ((tbN m (pv.map (·.2)) ts).map tD)),v5,v6,v7]) ?_ ?_
   ·refine x_if (Q2R (Q3I T.j2T (Q0b 1) hh2.pl (cvT T.j3n T.j3x sf) T.j3o (kv T.j3w T.j3I sf))) (λ _ => ?_) (λ hk => by cases hk)
    refine Q0c (Z8I (Q0H j1x (hr.mono wE) (Q0a (Q0b 1) (Q0a (Q0b 4) Q0d)) ⟨hp,0,pv.length,s,sf,p,ws,u,_,rfl,hh2,hkv,hl,hs,htb,by omega,λ rows hrows hrl => ⟨_,(λ i ρ O' => O' = O2 /\ ∃ v7 : Option D,ρ = [some (.tup (pv.map pnP)),some (.ptr hp),some (.tup (ts.map tD)),some (.ptr O.length),some (.tup ((tbN m (pv.map (·.2)) ts).map tD)),v5,v6,v7]),rfl,⟨rfl,_,rfl⟩,?_,λ ρ' O' h => Q0p h⟩⟩))
    rintro i z ρ O' hz ⟨rfl,v7,rfl⟩
    rw [List.getElem?_map] at hz
    obtain ⟨r,hq,rfl⟩ := Option.map_eq_some_iff.mp hz
    obtain ⟨a,b,x,y,rfl,hxy⟩ := hrows r (List.mem_of_getElem? hq)
    refine ⟨_,Q0q 7 Q1E.nd,?_⟩
    have hle : ¬ x > (pv.length : Nat) * y := by rw [Int.mul_comm]; omega
    refine Q0c (x_if (EvT.cast (k' := false) (Q0I (Q1p (Q0b 7) Q0g rfl) (Q0m (Q0s T.j2M (Q0a (Q0b 0) Q0d) (Q4z (by first | exact Or.inr rfl | exact Or.inl (Or.inl rfl) | exact Or.inl (Or.inr (Or.inl rfl)) | exact Or.inl (Or.inr (Or.inr ⟨_,rfl,by first | assumption | rfl⟩))))) (Q1p (Q0b 7) Q0g rfl) (Q2Z (CMul.ok (Or.inl ⟨by rw [List.length_map]; omega,by rw [List.length_map]; omega⟩)))) Z0n) (by rw [hlen]; exact decide_eq_false hle)) (λ hk => by cases hk) (λ _ => Q0p (Q0p ⟨rfl,_,rfl⟩)))
   ·rintro ρ O' ⟨rfl,v7,rfl⟩
    exact Q0c (Q0v (EvP.ev Z3H hfin))
theorem Y1d (Fn : Fun K "law" "law" Z3e f fd)  (j0x : Q0j P w K mg base 2 "_law_seed" (Q0i Q8m)) (j1A : Q0j P w K mg base 1 "_law_many" (Z3f preX Z1d)) (j1B : Q0j P w K mg base 1 "_law_scale" (Z3f preX Q6r)) (j1C : Q0j P w K mg base 3 "_law_turns" (Q0i Q8l)) (j0i : Q0j P w K mg base 1 "_law_next" (Q0i Q5N)) (j0w : Q0j P w K mg base 13 "_law_hand" (Q4g ⟨CK1,CK5,CK3,CK2,CK4,CK0⟩)) (j0O : Q0j P w K mg base 14 "_law_hands" (Q5x ⟨CK1,CK5,CK3,CK2,CK4,CK0⟩)) (j1D : Q0j P w K mg base 36 "_law_with_tier" (Z4o ⟨CK1,CK5,CK3,CK2,CK4,CK0⟩)) (j0S : Q0j P w K mg base 39 "_law_right" (Z0R ⟨CK1,CK5,CK3,CK2,CK4,CK0⟩)) (j0y : Q0R P w K mg base CK4 34 "Tier" (Q1g ⟨CK1,CK5,CK3,CK2,CK4,CK0⟩ 3)) : FnOk P w K mg base CX0 40 f fd ["_law_script"] (toSp K Z4s) := by
 refine okF (k := 39) Fn Q3G (λ ds O R h => ?_) (λ cdv A outer s H E ds O R hr h => ?_)
 ·obtain ⟨_,rfl,_⟩ := h; rfl
 ·obtain ⟨ns,rfl,hl,hR⟩ := h
  refine Q4F ?_
  refine Q0c (Q0O 1 (EvP.ev (Q0h j0x (hr.mono wE) (Q0a (Q0b 0) (Q0a Q0g Q0d)) ⟨_,_,rfl,⟨by decide,by decide⟩,rfl⟩) ?_) Q3G.nd)
  generalize Q1W (Q0P ns 0) 0 = x
  refine Q0c (Q4a (Q0H j1A (hr.mono wE) (Q0a (Q0b 1) Q0d) ⟨⟨_,rfl⟩,λ d hd => ?_⟩))
  obtain ⟨m,rfl,hm1,hm2⟩ := hd
  have hm : 1 <= m /\ m <= 24 := ⟨hm1,hm2⟩
  refine ⟨_,Q0q 2 Q3G.nd,?_⟩
  refine Q0c (Q4a (Q0H j1B (hr.mono wE) (Q0a (Q0m (Q0b 1) Q0g (Q4r ⟨wC,wC⟩)) Q0d) ⟨⟨_,rfl⟩,λ d hd => ?_⟩))
  obtain ⟨s,rfl,hs1,hs2⟩ := hd
  have hs : 1 <= s /\ s <= 10 := ⟨hs1,hs2⟩
  refine ⟨_,Q0q 3 Q3G.nd,?_⟩
  refine Q0c (Q0O 4 (EvP.ev (Q0h j1C (hr.mono wE) (Q0a (Q0b 0) (Q0a Q0g (Q0a (Q0b 2) (Q0a (Q0b 3) (Q0a (Q5d (Q0m (Q0m (Q0b 1) Q0g (Q4r ⟨wC,wC⟩)) Q0g (Q1Q wC)) Q0g Q0M) Q0d))))) ⟨ns,3,m,s,_,rfl,hl,⟨by decide,by decide⟩,hm2,hs1,rfl⟩) ?_) Q3G.nd)
  have hts := Z4d (ns := ns) (st := 3) (m := m) (s := s) (sl := decide (x / 20000 % 3 = 1)) hs1
  have htl := Q9y ns 3 m s (decide (x / 20000 % 3 = 1))
  generalize Q7J ns 3 m s (decide (x / 20000 % 3 = 1)) = ts at hts htl
  refine Q0c (Q0O 5 (EvP.ev (Q0h j0x (hr.mono wE) (Q0a (Q0b 0) (Q0a Q0g Q0d)) ⟨_,_,rfl,⟨by decide,by decide⟩,rfl⟩) ?_) Q3G.nd)
  have hy : Lo (Q1W (Q0P ns 1) 1) := Z0V _ _
  generalize Q1W (Q0P ns 1) 1 = y at hy
  refine Q0c (Q0O 6 (EvP.ev (Q0h j0x (hr.mono wE) (Q0a (Q0b 0) (Q0a Q0g Q0d)) ⟨_,_,rfl,⟨by decide,by decide⟩,rfl⟩) ?_) Q3G.nd)
  have hz : Lo (Q1W (Q0P ns 2) 2) := Z0V _ _
  generalize Q1W (Q0P ns 2) 2 = z at hz
  have h3z : 0 <= z /\ z < 3000000000 := by have := hz.1; have := hz.2; omega
  refine Q0c (Q4a (Q9a j1D (hr.mono wE) (Q1a (Q0H j0O (hr.mono wE) (Q0a (Q0b 2) (Q0a (Q0b 3) (Q0a (Q0b 5) Q0d))) ⟨m,s,y,rfl,hy,hm,hs,λ O1 pv1 u1 hP1 hl1 => EvPs.as (Q0a (Q0b 2) (Q0a (Q0b 3) (Q0a (Q0b 6) Q0d))) ?_⟩))))
  refine ⟨m,s,z,pv1.map λ z => (z.1,Hn.p z.2),by rw [pv_p],hz,(Z8l hP1).up wE,by rw [List.length_map]; exact hl1,hm,hs,λ O2 pv u2 hP hl2 => ⟨_,Q0q 7 Q3G.nd,?_⟩⟩
  have u2 : ∃ Y,O2 = O ++ Y := by
   obtain ⟨Y1,rfl⟩ := u1
   obtain ⟨Y2,rfl⟩ := u2
   exact ⟨_,List.append_assoc ..⟩
  clear hP1 hl1 u1
  refine Q0c (Q4a (Q0H j0w (hr.mono wE) (Q0a (Q0s T.j2M (Q0a (Q0b 7) Q0d) (Q4z (by first | exact Or.inr rfl | exact Or.inl (Or.inl rfl) | exact Or.inl (Or.inr (Or.inl rfl)) | exact Or.inl (Or.inr (Or.inr ⟨_,rfl,by first | assumption | rfl⟩))))) (Q0a (Q0b 3) (Q0a (Q0m (Q0b 6) Q0g (Q4r ⟨wC,wC⟩)) Q0d))) ⟨pv.length,s,_,by rw [List.length_map],by omega,hs,λ v hv => ⟨_,Q0q 8 Q3G.nd,?_⟩⟩))
  have hh3 : NAt ⟨CK1,CK5,CK3,CK2,CK4,CK0⟩ (O2 ++ [some (Cs.o ⟨CK1,CK5,CK3,CK2,CK4,CK0⟩ (pv.length : Nat) s v)]) (.p v) O2.length pv.length s := NAt.pi st0
  have hP3 := hP.app (Y := [some (Cs.o ⟨CK1,CK5,CK3,CK2,CK4,CK0⟩ (pv.length : Nat) s v)])
  have u3 := Q4d (Z := [some (Cs.o ⟨CK1,CK5,CK3,CK2,CK4,CK0⟩ (pv.length : Nat) s v)]) u2
  generalize O2 ++ [some (Cs.o ⟨CK1,CK5,CK3,CK2,CK4,CK0⟩ (pv.length : Nat) s v)] = O3 at hh3 hP3 u3 ⊢
  generalize O2.length = hp at hh3 ⊢
  clear hP u2
  refine Q0c (x_ifE (R := λ k O' => k = false /\ ∃ Y,O' = O3 ++ Y) (Z9U (Y1u (Q0H j0S (hr.mono wE) (Q0a (Q0b 7) (Q0a (Q0b 8) (Q0a (Q0b 4) Q0d))) ⟨m,s,pv,hp,v,ts,rfl,hP3.up wE,hh3,hv,by omega,hm,hs,hts,htl,λ Y => ⟨true,rfl,rfl,Y,rfl⟩⟩))) ?_)
  rintro k O4 ⟨ek,Y,rfl⟩
  refine ⟨(λ z => by rw [ek] at z; cases z),λ _ => Q0p ?_⟩
  have hh4 := hh3.ap (Y := Y)
  have hP4 := hP3.app (Y := Y)
  have u4 := Q4d (Z := Y) u3
  generalize O3 ++ Y = O4 at hh4 hP4 u4 ⊢
  clear hh3 hP3 u3
  have hcl : (cutA pv none (some 1)).length = 1 := by rw [show cutA pv none (some 1) = pv.take 1 from Z5U pv 1,List.length_take]; omega
  have hn1 := Z1O hP4 hv wF
  have ha1 := Q6K ⟨CK1,CK5,CK3,CK2,CK4,CK0⟩ (Q0D (.t (pv.map (·.2)) (.p v) []) m) O4 [] m s
  rw [List.append_nil] at ha1
  have ha1 : NAt ⟨CK1,CK5,CK3,CK2,CK4,CK0⟩ (O4 ++ newN ⟨CK1,CK5,CK3,CK2,CK4,CK0⟩ (pv.map (·.2)) (.p v) O4.length m s) (Q0D (.t (pv.map (·.2)) (.p v) []) m) O4.length m s := ha1
  refine Q0c (Q4a (Z5F (Q1a (Q1s j0y (hr.mono wE) (Q0a (Q0b 7) (Q0a (Q0b 8) Q0d)) ⟨O4.length,m,s,pv,hp,.p v,O4,rfl,rfl,rfl,hP4.up wE,λ z hz => ?_,hm,hs,by omega,rfl,Q1a (Z2s j0y (hr.mono wE) (Q1a (EvP.ev (Z1p (Q0b 7) Z1s (Z1r Q0g)) (Q1a (Q0H j0w (hr.mono wE) (Q0a Q0g (Q0a (Q0b 3) (Q0a (Q0b 5) Q0d))) ⟨1,s,y,rfl,by decide,hs,λ v2 hv2 => EvPs.as Q0d ?_⟩)))))⟩))))
  ·rw [List.mem_singleton.mp hz]; exact ⟨hh4,⟨0,by simpa only [NOk] using hv⟩,by simp only [depN]; decide⟩
  have hP5 := hP4.app (Y := newN ⟨CK1,CK5,CK3,CK2,CK4,CK0⟩ (pv.map (·.2)) (.p v) O4.length m s)
  have u5 := Q4d (Z := newN ⟨CK1,CK5,CK3,CK2,CK4,CK0⟩ (pv.map (·.2)) (.p v) O4.length m s) u4
  generalize Q0D (.t (pv.map (·.2)) (.p v) []) m = t1 at hn1 ha1
  generalize O4 ++ newN ⟨CK1,CK5,CK3,CK2,CK4,CK0⟩ (pv.map (·.2)) (.p v) O4.length m s = O5 at ha1 hP5 u5 ⊢
  generalize O4.length = q1 at ha1 ⊢
  clear hP4 hh4 u4
  have hh6 : NAt ⟨CK1,CK5,CK3,CK2,CK4,CK0⟩ (O5 ++ [some (Cs.o ⟨CK1,CK5,CK3,CK2,CK4,CK0⟩ ((1 : Nat) : Int) s v2)]) (.p v2) O5.length 1 s := NAt.pi st0
  have hP6 := hP5.app (Y := [some (Cs.o ⟨CK1,CK5,CK3,CK2,CK4,CK0⟩ ((1 : Nat) : Int) s v2)])
  have ha6 := ha1.ap (Y := [some (Cs.o ⟨CK1,CK5,CK3,CK2,CK4,CK0⟩ ((1 : Nat) : Int) s v2)])
  have u6 := Q4d (Z := [some (Cs.o ⟨CK1,CK5,CK3,CK2,CK4,CK0⟩ ((1 : Nat) : Int) s v2)]) u5
  generalize O5 ++ [some (Cs.o ⟨CK1,CK5,CK3,CK2,CK4,CK0⟩ ((1 : Nat) : Int) s v2)] = O6 at hh6 hP6 ha6 u6 ⊢
  generalize O5.length = hq6 at hh6 ⊢
  clear hP5 ha1 u5
  have hPc : PnAt ⟨CK1,CK5,CK3,CK2,CK4,CK0⟩ O6 m s 2 (cutA pv none (some 1)) := λ z hz => hP6 z (Q9f hz)
  rw [<- hcl] at hh6 hv2
  refine ⟨O6.length,m,s,cutA pv none (some 1),hq6,.p v2,O6,rfl,rfl,rfl,hPc.up wE,λ z hz => ?_,hm,hs,by omega,rfl,EvPs.as Q0d ⟨Nat.le_of_ble_eq_true rfl,_,Q0q 9 Q3G.nd,?_⟩⟩
  ·rw [List.mem_singleton.mp hz]; exact ⟨hh6,⟨0,by simpa only [NOk] using hv2⟩,by simp only [depN]; decide⟩
  have hn2 := Z1O hPc hv2 wF
  have ha2 := Q6K ⟨CK1,CK5,CK3,CK2,CK4,CK0⟩ (Q0D (.t ((cutA pv none (some 1)).map (·.2)) (.p v2) []) m) O6 [] m s
  rw [List.append_nil] at ha2
  have ha2 : NAt ⟨CK1,CK5,CK3,CK2,CK4,CK0⟩ (O6 ++ newN ⟨CK1,CK5,CK3,CK2,CK4,CK0⟩ ((cutA pv none (some 1)).map (·.2)) (.p v2) O6.length m s) (Q0D (.t ((cutA pv none (some 1)).map (·.2)) (.p v2) []) m) O6.length m s := ha2
  have ha7 := ha6.ap (Y := newN ⟨CK1,CK5,CK3,CK2,CK4,CK0⟩ ((cutA pv none (some 1)).map (·.2)) (.p v2) O6.length m s)
  have u7 := Q4d (Z := newN ⟨CK1,CK5,CK3,CK2,CK4,CK0⟩ ((cutA pv none (some 1)).map (·.2)) (.p v2) O6.length m s) u6
  generalize Q0D (.t ((cutA pv none (some 1)).map (·.2)) (.p v2) []) m = t2 at hn2 ha2
  generalize O6 ++ newN ⟨CK1,CK5,CK3,CK2,CK4,CK0⟩ ((cutA pv none (some 1)).map (·.2)) (.p v2) O6.length m s = O7 at ha2 ha7 u7 ⊢
  generalize O6.length = q2 at ha2 ⊢
  have hlen6 := Z5V ts none (some 6)
  refine Q0c (Q0v (Q9a j0S (hr.mono wE) (Q1a (EvP.ev (Q0b 9) (Q1a (Q0H j0w (hr.mono wE) (Q0a Q0g (Q0a (Q0b 3) (Q0a (Q0h j0i (hr.mono wE) (Q0a (Q0b 6) Q0d) ⟨_,rfl,h3z,rfl⟩) Q0d))) ⟨2,s,_,rfl,by decide,hs,λ v3 hv3 => Q1a (EvP.ev (Z1p (Q0b 4) Z1s (Z1r Q0g)) (EvPs.as Q0d ?_))⟩))))))
  have hh8 : NAt ⟨CK1,CK5,CK3,CK2,CK4,CK0⟩ (O7 ++ [some (Cs.o ⟨CK1,CK5,CK3,CK2,CK4,CK0⟩ ((2 : Nat) : Int) s v3)]) (.p v3) O7.length 2 s := NAt.pi st0
  refine ⟨m,s,[(q1,t1),(q2,t2)],O7.length,v3,_,rfl,λ z hz => ?_,hh8,hv3,⟨by show 1 <= 2; decide,by show 2 <= 24; decide⟩,hm,hs,λ t ht => hts t (Q9f ht),by omega,λ Y => ⟨Q4d (Q4d u7),rfl,hR⟩⟩
  rcases List.mem_cons.mp hz with rfl | hz
  ·exact ⟨ha7.ap,⟨0,hn1.1⟩,Nat.lt_succ_of_le hn1.2⟩
  ·rw [List.mem_singleton.mp hz]; exact ⟨ha2.ap,⟨0,hn2.1⟩,Nat.lt_succ_of_le hn2.2⟩
end
theorem len1 {α : Type} {us : List α} (h : us.length = 1) : ∃ x0,us = [x0] := by
 match us,h with
 | [x0],_ => exact ⟨_,rfl⟩
theorem len2 {α : Type} {us : List α} (h : us.length = 2) : ∃ x0 x1,us = [x0,x1] := by
 match us,h with
 | [x0,x1],_ => exact ⟨_,_,rfl⟩
theorem len3 {α : Type} {us : List α} (h : us.length = 3) : ∃ x0 x1 x2,us = [x0,x1,x2] := by
 match us,h with
 | [x0,x1,x2],_ => exact ⟨_,_,_,rfl⟩
theorem len4 {α : Type} {us : List α} (h : us.length = 4) : ∃ x0 x1 x2 x3,us = [x0,x1,x2,x3] := by
 match us,h with
 | [x0,x1,x2,x3],_ => exact ⟨_,_,_,_,rfl⟩
theorem len5 {α : Type} {us : List α} (h : us.length = 5) : ∃ x0 x1 x2 x3 x4,us = [x0,x1,x2,x3,x4] := by
 match us,h with
 | [x0,x1,x2,x3,x4],_ => exact ⟨_,_,_,_,_,rfl⟩
theorem len7 {α : Type} {us : List α} (h : us.length = 7) : ∃ x0 x1 x2 x3 x4 x5 x6,us = [x0,x1,x2,x3,x4,x5,x6] := by
 match us,h with
 | [x0,x1,x2,x3,x4,x5,x6],_ => exact ⟨_,_,_,_,_,_,_,rfl⟩
def FD (K : PySem.W.Frag) (x : Str) (st : Stmt) (f : Addr) : Prop := PySem.W.nsIn K mainGlobals x = some (some (.ref f)) /\ ∃ fd,Fun K x x st f fd
def FM (K : PySem.W.Frag) (C : Addr) (x q : Str) (st : Stmt) (f : Addr) : Prop := PySem.W.findIn K (.ref C) x = some (some (.ref f)) /\ PySem.W.isFn K (.ref f) = true /\ ∃ fd,Fun K x q st f fd
section
variable {K : PySem.W.Frag} {C : Addr} {x q : Str} {st : Stmt} {f : Addr} {oc : Value} {od an : Option Addr} {osl : Array (Option Value)} {kV doc pm cdv ct : Value}
theorem fd_mk (a : PySem.W.nsIn K mainGlobals x = some (some (.ref f))) (l : K.lookup f = some ⟨oc,od,.func (PySem.W.fnOf x x (Q1A st) (Q0Y st) (Q0f st) .none kV doc pm an cdv ct),osl⟩) (c : PySem.W.codeIn K cdv x = true) (k : PySem.W.keepIn K (.ref f) = true) : FD K x st f := ⟨a,_,Z8w l c k⟩
theorem fm_mk (a : PySem.W.findIn K (.ref C) x = some (some (.ref f))) (i : PySem.W.isFn K (.ref f) = true) (l : K.lookup f = some ⟨oc,od,.func (PySem.W.fnOf x q (Q1A st) (Q0Y st) (Q0f st) .none kV doc pm an cdv ct),osl⟩) (c : PySem.W.codeIn K cdv q = true) (k : PySem.W.keepIn K (.ref f) = true) : FM K C x q st f := ⟨a,i,_,Z8w l c k⟩
end
def NZ (K : PySem.W.Frag) (x : Str) : Prop := PySem.W.nsIn K mainGlobals x = some none
def CB (K : PySem.W.Frag) (C : Addr) : Prop := PySem.W.plainGet K C Str.empty = true /\ PySem.W.hasDictIn K C = true /\ PySem.W.plainOver K C = true /\ PySem.W.findIn K (.ref C) "__setattr__" = some (some (.builtin "object.__setattr__")) /\ PySem.W.findIn K (.ref C) "__class__" = some (some (.builtin "object.__class__")) /\ PySem.W.mroIn K C (.type "object") = some true
theorem CB.ty {K : PySem.W.Frag} {C : Addr} (h : CB K C) (gn : PySem.W.specialIn K (.builtin "object.__class__") "__get__" = some (some (.builtin "getset_descriptor.__get__"))) (gt : PySem.W.takesIn K (.builtin "object.__class__") = some true) : Q1Z K C := ⟨⟨h.1,h.2.1,h.2.2.1,h.2.2.2.1⟩,h.2.2.2.2.1,gn,gt,h.2.2.2.2.2⟩
theorem all_mk {l : PySem.W.OpenLaw} {w : World} {K : PySem.W.Frag} {h : Heap} {mg : Str -> Option Value} {fa : Addr} (X : K.In h) (G : h.Ns mainGlobals mg) (hfa : mg "law" = some (.ref fa)) {f0 f1 f2 f3 f4 f5 f6 f7 f8 f9 f10 f11 f12 f13 f14 f15 f16 f17 f18 f19 f20 f21 f22 f23 f24 f25 f26 f27 f28 f29 f30 f31 f32 f33 f34 f35 f36 f37 f38 f39 f40 f41 f42 f44 f45 f46 f47 f48 f49 f50 f51 f52 f53 f54 f55 f56 f57 f58 f59 f60 f61 f62 f63 f64 f65 f66 f67 f68 f69 f70 f71 f72 : Addr} {f43 : Addr} {od43 an43 : Option Addr} {sl43 : Array (Option Value)} {oc43 kV43 dc43 pm43 cd43 ct43 : Value} {CK1 CK5 CK3 CK2 CK0 CK4 : Addr} {tk0 : Tok} {tk1 : Tok} {tk2 : Tok} {tk3 : Tok} {tk4 : Tok} {T43 : Addr} {cT43 : Value} {dT43 : Option Addr} {nT43 : Nat} {sT43 : Array (Option Value)}
  (aC0 : PySem.W.nsIn K mainGlobals "Hand" = some (some (.ref CK1)))
  (aC1 : PySem.W.nsIn K mainGlobals "Weigher" = some (some (.ref CK5)))
  (aC2 : PySem.W.nsIn K mainGlobals "Shifter" = some (some (.ref CK3)))
  (aC3 : PySem.W.nsIn K mainGlobals "Rounder" = some (some (.ref CK2)))
  (aC4 : PySem.W.nsIn K mainGlobals "Follower" = some (some (.ref CK0)))
  (aC5 : PySem.W.nsIn K mainGlobals "Tier" = some (some (.ref CK4)))
  (d0 : FD K "is_whole" Q4L f0)
  (d1 : FD K "counted" Q6o f1)
  (d2 : FD K "middle" Q8B f2)
  (d3 : FD K "check_within" Q2i f3)
  (d4 : FD K "check_scale" Q2L f4)
  (d5 : FD K "check_making" Q2j f5)
  (d6 : FD K "check_fraction" Q1w f6)
  (d7 : FD K "check_share" Q2K f7)
  (d8 : FD K "is_on_scale" Q2H f8)
  (d9 : FD K "is_said" Q6m f9)
  (d10 : FD K "check_said" Q3l f10)
  (d11 : FD K "power" Z1b f11)
  (d12 : FD K "charge" Q8H f12)
  (d13 : FD K "is_turn" Q6l f13)
  (d14 : FD K "check_turn" Q3j f14)
  (d15 : FD K "awake_in" Q4M f15)
  (d16 : FD K "middle_awake" Q2h f16)
  (d17 : FD K "times_awake" Q2F f17)
  (d18 : FD K "times_asleep" Q2g f18)
  (d19 : FD K "times" Z1a f19)
  (d20 : FD K "check_turns" Q2J f20)
  (d21 : FD K "check_push" Q3m f21)
  (d22 : FD K "push_of" Q6g f22)
  (d23 : FD K "first_least" Q2I f23)
  (d24 : FM K CK1 "__init__" "Hand.__init__" Q1N f24)
  (d25 : FM K CK1 "heeded" "Hand.heeded" Q2O f25)
  (d26 : FM K CK5 "heeded" "Weigher.heeded" Q1x f26)
  (d27 : FM K CK2 "heeded" "Rounder.heeded" Q1y f27)
  (d28 : FM K CK1 "say" "Hand.say" Q4N f28)
  (d29 : FM K CK1 "hear" "Hand.hear" Q3P f29)
  (d30 : FM K CK1 "anew" "Hand.anew" Q3Q f30)
  (d31 : FM K CK2 "__init__" "Rounder.__init__" Q1l f31)
  (d32 : FM K CK2 "hear" "Rounder.hear" Q2p f32)
  (d33 : FM K CK2 "anew" "Rounder.anew" Q2q f33)
  (d34 : FM K CK5 "__init__" "Weigher.__init__" Q1i f34)
  (d35 : FM K CK3 "__init__" "Shifter.__init__" Q1k f35)
  (d36 : FM K CK5 "total" "Weigher.total" Q1M f36)
  (d37 : FM K CK5 "weigh" "Weigher.weigh" Q1L f37)
  (d38 : FM K CK3 "deal" "Shifter.deal" Q2n f38)
  (d39 : FM K CK5 "hear" "Weigher.hear" Q2k f39)
  (d40 : FM K CK3 "hear" "Shifter.hear" Q2m f40)
  (d41 : FM K CK5 "anew" "Weigher.anew" Q2l f41)
  (d42 : FM K CK3 "anew" "Shifter.anew" Q2o f42)
  (a43 : PySem.W.findIn K (.ref CK0) "__init__" = some (some (.ref f43)))
  (i43 : PySem.W.isFn K (.ref f43) = true)
  (l43 : K.lookup f43 = some ⟨oc43,od43,.func (PySem.W.fnOf "__init__" "Follower.__init__" (Q1A Q0C) (Q0Y Q0C) (Q0f Q0C) (.ref T43) kV43 dc43 pm43 an43 cd43 ct43),sl43⟩)
  (t43 : K.lookup T43 = some ⟨cT43,dT43,.seq #[.none] nT43,sT43⟩)
  (c43 : PySem.W.codeIn K cd43 "Follower.__init__" = true)
  (k43 : PySem.W.keepIn K (.ref f43) = true)
  (d44 : FM K CK0 "say" "Follower.say" Q2r f44)
  (d45 : FM K CK0 "hear" "Follower.hear" Q1O f45)
  (d46 : FM K CK0 "anew" "Follower.anew" Q1P f46)
  (d47 : FD K "are_alike" Q3O f47)
  (d48 : FD K "is_head" Q6n f48)
  (d49 : FD K "check_tier" Q3k f49)
  (d50 : FM K CK4 "hand_charges" "Tier.hand_charges" Q1c f50)
  (d51 : FM K CK4 "__init__" "Tier.__init__" Q1j f51)
  (d52 : FM K CK4 "ask" "Tier.ask" Q3y f52)
  (d53 : FM K CK4 "say" "Tier.say" Q3x f53)
  (d54 : FM K CK4 "hear" "Tier.hear" Q2M f54)
  (d55 : FM K CK4 "anew" "Tier.anew" Q2N f55)
  (d56 : FD K "charges_of" Q3n f56)
  (d57 : FD K "charges" Q6p f57)
  (d58 : FD K "ran" Z8Y f58)
  (d59 : FD K "paper" Z1c f59)
  (d60 : FD K "_law_cell_at" Q3M f60)
  (d61 : FD K "_law_next" Q8E f61)
  (d62 : FD K "_law_seed" Q8D f62)
  (d63 : FD K "_law_turn" Q8C f63)
  (d64 : FD K "_law_turns" Q6h f64)
  (d65 : FD K "_law_many" Q8F f65)
  (d66 : FD K "_law_scale" Q6i f66)
  (d67 : FD K "_law_hand" Q8G f67)
  (d68 : FD K "_law_hands" Q6k f68)
  (d69 : FD K "_law_with_tier" Q2G f69)
  (d70 : FD K "_law_between" Q3N f70)
  (d71 : FD K "_law_right" Q6j f71)
  (d72 : FD K "law" Z3e f72)
  (cb0 : CB K CK1)
  (n0_many : Q0l K CK1 "many")
  (n0_scale : Q0l K CK1 "scale")
  (q0_Hand : PySem.W.kitOne K (.ref CK1) (.ref CK1) = some true)
  (q0_Weigher : PySem.W.kitOne K (.ref CK1) (.ref CK5) = some false)
  (mk0 : PySem.W.makesIn K CK1 = true)
  (kc0 : PySem.W.keepIn K (.ref CK1) = true)
  (so0___init__ : PySem.W.specialIn K (.ref CK1) "__getattribute__" = some (some (.builtin "type.__getattribute__")))
  (rd0___init__ : PySem.W.readsIn K CK1 (.type "type") = true)
  (fc0___init__ : PySem.W.findCls K (.ref CK1) (.type "type") "__init__" = some (.val (.ref f24)))
  (cb1 : CB K CK5)
  (n1_many : Q0l K CK5 "many")
  (n1_scale : Q0l K CK5 "scale")
  (n1_top : Q0l K CK5 "top")
  (n1_bottom : Q0l K CK5 "bottom")
  (n1_tops : Q0l K CK5 "tops")
  (n1_under : Q0l K CK5 "under")
  (q1_Hand : PySem.W.kitOne K (.ref CK5) (.ref CK1) = some true)
  (q1_Weigher : PySem.W.kitOne K (.ref CK5) (.ref CK5) = some true)
  (mk1 : PySem.W.makesIn K CK5 = true)
  (kc1 : PySem.W.keepIn K (.ref CK5) = true)
  (e1_say : PySem.W.findIn K (.ref CK5) "say" = some (some (.ref f28)))
  (so1___init__ : PySem.W.specialIn K (.ref CK5) "__getattribute__" = some (some (.builtin "type.__getattribute__")))
  (rd1___init__ : PySem.W.readsIn K CK5 (.type "type") = true)
  (fc1___init__ : PySem.W.findCls K (.ref CK5) (.type "type") "__init__" = some (.val (.ref f34)))
  (cb2 : CB K CK3)
  (n2_many : Q0l K CK3 "many")
  (n2_scale : Q0l K CK3 "scale")
  (n2_top : Q0l K CK3 "top")
  (n2_bottom : Q0l K CK3 "bottom")
  (n2_tops : Q0l K CK3 "tops")
  (n2_under : Q0l K CK3 "under")
  (n2_share : Q0l K CK3 "share")
  (n2_parts : Q0l K CK3 "parts")
  (q2_Hand : PySem.W.kitOne K (.ref CK3) (.ref CK1) = some true)
  (q2_Weigher : PySem.W.kitOne K (.ref CK3) (.ref CK5) = some true)
  (mk2 : PySem.W.makesIn K CK3 = true)
  (kc2 : PySem.W.keepIn K (.ref CK3) = true)
  (e2_heeded : PySem.W.findIn K (.ref CK3) "heeded" = some (some (.ref f26)))
  (e2_say : PySem.W.findIn K (.ref CK3) "say" = some (some (.ref f28)))
  (e2_total : PySem.W.findIn K (.ref CK3) "total" = some (some (.ref f36)))
  (e2_weigh : PySem.W.findIn K (.ref CK3) "weigh" = some (some (.ref f37)))
  (cb3 : CB K CK2)
  (n3_many : Q0l K CK2 "many")
  (n3_scale : Q0l K CK2 "scale")
  (n3_inside : Q0l K CK2 "inside")
  (n3_over : Q0l K CK2 "over")
  (q3_Hand : PySem.W.kitOne K (.ref CK2) (.ref CK1) = some true)
  (q3_Weigher : PySem.W.kitOne K (.ref CK2) (.ref CK5) = some false)
  (mk3 : PySem.W.makesIn K CK2 = true)
  (kc3 : PySem.W.keepIn K (.ref CK2) = true)
  (e3_say : PySem.W.findIn K (.ref CK2) "say" = some (some (.ref f28)))
  (cb4 : CB K CK0)
  (n4_many : Q0l K CK0 "many")
  (n4_scale : Q0l K CK0 "scale")
  (n4_push : Q0l K CK0 "push")
  (n4_reached : Q0l K CK0 "reached")
  (q4_Hand : PySem.W.kitOne K (.ref CK0) (.ref CK1) = some true)
  (q4_Weigher : PySem.W.kitOne K (.ref CK0) (.ref CK5) = some false)
  (mk4 : PySem.W.makesIn K CK0 = true)
  (kc4 : PySem.W.keepIn K (.ref CK0) = true)
  (cb5 : CB K CK4)
  (n5_many : Q0l K CK4 "many")
  (n5_scale : Q0l K CK4 "scale")
  (n5_hands : Q0l K CK4 "hands")
  (n5_head : Q0l K CK4 "head")
  (n5_charged : Q0l K CK4 "charged")
  (q5_Hand : PySem.W.kitOne K (.ref CK4) (.ref CK1) = some true)
  (q5_Weigher : PySem.W.kitOne K (.ref CK4) (.ref CK5) = some false)
  (mk5 : PySem.W.makesIn K CK4 = true)
  (kc5 : PySem.W.keepIn K (.ref CK4) = true)
  (gn : PySem.W.specialIn K (.builtin "object.__class__") "__get__" = some (some (.builtin "getset_descriptor.__get__")))
  (gt : PySem.W.takesIn K (.builtin "object.__class__") = some true)
  (z0 : NZ K "len")
  (z1 : NZ K "tuple")
  (z2 : NZ K "list")
  (z3 : NZ K "sum")
  (z4 : NZ K "zip")
  (z5 : NZ K "sorted")
  (z6 : NZ K "range")
  (z7 : NZ K "isinstance")
  (z8 : NZ K "int")
  (z9 : NZ K "bool")
  (z10 : NZ K "all")
  (z11 : NZ K "any")
  (z12 : NZ K "enumerate")
  (z13 : NZ K "abs")
  (z14 : NZ K "min")
  (z15 : NZ K "max")
  (y0 : PySem.W.nsIn K mainGlobals "MOST_ADVISERS" = some (some (.int 24 tk0)))
  (y1 : PySem.W.nsIn K mainGlobals "MOST_SCALE" = some (some (.int 10 tk1)))
  (y2 : PySem.W.nsIn K mainGlobals "MOST_BOTTOM" = some (some (.int 100 tk2)))
  (y3 : PySem.W.nsIn K mainGlobals "MOST_PARTS" = some (some (.int 100 tk3)))
  (y4 : PySem.W.nsIn K mainGlobals "MOST_FIGURES" = some (some (.int 60 tk4))) :
  ∃ fd : FuncData,(∀ (s : Shared) (v : Value),BindsTo s fd ⟨[v],[]⟩ [("_law_script",v)]) /\ ∀ base : Heap,K.In base -> base.Ns mainGlobals mg -> FnOk l.prog w K mg base CX0 40 fa fd ["_law_script"] (toSp K Z4s) := by
 obtain ⟨a72,_,E72⟩ := d72
 have e := hfa.symm.trans (PySem.W.mg_of X G a72)
 cases e
 have T : Txt K mg CK1 CK5 CK3 CK2 CK0 CK4 := ⟨PySem.W.mg_none_of X G z0,PySem.W.mg_none_of X G z1,PySem.W.mg_none_of X G z2,PySem.W.mg_none_of X G z3,PySem.W.mg_none_of X G z4,PySem.W.mg_none_of X G z5,PySem.W.mg_none_of X G z6,PySem.W.mg_none_of X G z7,PySem.W.mg_none_of X G z8,PySem.W.mg_none_of X G z9,PySem.W.mg_none_of X G z10,PySem.W.mg_none_of X G z11,PySem.W.mg_none_of X G z12,PySem.W.mg_none_of X G z13,PySem.W.mg_none_of X G z14,PySem.W.mg_none_of X G z15,⟨_,PySem.W.mg_of X G y0⟩,⟨_,PySem.W.mg_of X G y1⟩,⟨_,PySem.W.mg_of X G y2⟩,⟨_,PySem.W.mg_of X G y3⟩,⟨_,PySem.W.mg_of X G y4⟩,cb0.ty gn gt,PySem.W.mg_of X G aC0,n0_many,n0_scale,q0_Hand,q0_Weigher,cb1.ty gn gt,PySem.W.mg_of X G aC1,n1_many,n1_scale,n1_top,n1_bottom,n1_tops,n1_under,q1_Hand,q1_Weigher,cb2.ty gn gt,PySem.W.mg_of X G aC2,n2_many,n2_scale,n2_top,n2_bottom,n2_tops,n2_under,n2_share,n2_parts,q2_Hand,q2_Weigher,cb3.ty gn gt,PySem.W.mg_of X G aC3,n3_many,n3_scale,n3_inside,n3_over,q3_Hand,q3_Weigher,cb4.ty gn gt,PySem.W.mg_of X G aC4,n4_many,n4_scale,n4_push,n4_reached,q4_Hand,q4_Weigher,cb5.ty gn gt,PySem.W.mg_of X G aC5,n5_many,n5_scale,n5_hands,n5_head,n5_charged,q5_Hand,q5_Weigher⟩
 obtain ⟨a0,_,E0⟩ := d0
 have b0 := E0.binds (ps := ["value"]) λ _ _ _ _ _ _ us hl => by obtain ⟨_,rfl⟩ := len1 hl; rfl
 obtain ⟨a1,_,E1⟩ := d1
 have b1 := E1.binds (ps := ["weights"]) λ _ _ _ _ _ _ us hl => by obtain ⟨_,rfl⟩ := len1 hl; rfl
 obtain ⟨a2,_,E2⟩ := d2
 have b2 := E2.binds (ps := ["numbers","weights"]) λ _ _ _ _ _ _ us hl => by obtain ⟨_,_,rfl⟩ := len2 hl; rfl
 obtain ⟨a3,_,E3⟩ := d3
 have b3 := E3.binds (ps := ["what","value","least","most"]) λ _ _ _ _ _ _ us hl => by obtain ⟨_,_,_,_,rfl⟩ := len4 hl; rfl
 obtain ⟨a4,_,E4⟩ := d4
 have b4 := E4.binds (ps := ["scale"]) λ _ _ _ _ _ _ us hl => by obtain ⟨_,rfl⟩ := len1 hl; rfl
 obtain ⟨a5,_,E5⟩ := d5
 have b5 := E5.binds (ps := ["many","scale"]) λ _ _ _ _ _ _ us hl => by obtain ⟨_,_,rfl⟩ := len2 hl; rfl
 obtain ⟨a6,_,E6⟩ := d6
 have b6 := E6.binds (ps := ["top","bottom"]) λ _ _ _ _ _ _ us hl => by obtain ⟨_,_,rfl⟩ := len2 hl; rfl
 obtain ⟨a7,_,E7⟩ := d7
 have b7 := E7.binds (ps := ["share","parts"]) λ _ _ _ _ _ _ us hl => by obtain ⟨_,_,rfl⟩ := len2 hl; rfl
 obtain ⟨a8,_,E8⟩ := d8
 have b8 := E8.binds (ps := ["scale","value"]) λ _ _ _ _ _ _ us hl => by obtain ⟨_,_,rfl⟩ := len2 hl; rfl
 obtain ⟨a9,_,E9⟩ := d9
 have b9 := E9.binds (ps := ["many","scale","said"]) λ _ _ _ _ _ _ us hl => by obtain ⟨_,_,_,rfl⟩ := len3 hl; rfl
 obtain ⟨a10,_,E10⟩ := d10
 have b10 := E10.binds (ps := ["many","scale","said"]) λ _ _ _ _ _ _ us hl => by obtain ⟨_,_,_,rfl⟩ := len3 hl; rfl
 obtain ⟨a11,_,E11⟩ := d11
 have b11 := E11.binds (ps := ["base","exponent"]) λ _ _ _ _ _ _ us hl => by obtain ⟨_,_,rfl⟩ := len2 hl; rfl
 obtain ⟨a12,_,E12⟩ := d12
 have b12 := E12.binds (ps := ["what","so"]) λ _ _ _ _ _ _ us hl => by obtain ⟨_,_,rfl⟩ := len2 hl; rfl
 obtain ⟨a13,_,E13⟩ := d13
 have b13 := E13.binds (ps := ["many","scale","turn"]) λ _ _ _ _ _ _ us hl => by obtain ⟨_,_,_,rfl⟩ := len3 hl; rfl
 obtain ⟨a14,_,E14⟩ := d14
 have b14 := E14.binds (ps := ["many","scale","said","so"]) λ _ _ _ _ _ _ us hl => by obtain ⟨_,_,_,_,rfl⟩ := len4 hl; rfl
 obtain ⟨a15,_,E15⟩ := d15
 have b15 := E15.binds (ps := ["said"]) λ _ _ _ _ _ _ us hl => by obtain ⟨_,rfl⟩ := len1 hl; rfl
 obtain ⟨a16,_,E16⟩ := d16
 have b16 := E16.binds (ps := ["said","weights"]) λ _ _ _ _ _ _ us hl => by obtain ⟨_,_,rfl⟩ := len2 hl; rfl
 obtain ⟨a17,_,E17⟩ := d17
 have b17 := E17.binds (ps := ["keeper","own","off"]) λ _ _ _ _ _ _ us hl => by obtain ⟨_,_,_,rfl⟩ := len3 hl; rfl
 obtain ⟨a18,_,E18⟩ := d18
 have b18 := E18.binds (ps := ["keeper","own"]) λ _ _ _ _ _ _ us hl => by obtain ⟨_,_,rfl⟩ := len2 hl; rfl
 obtain ⟨a19,_,E19⟩ := d19
 have b19 := E19.binds (ps := ["keeper","own","what","so"]) λ _ _ _ _ _ _ us hl => by obtain ⟨_,_,_,_,rfl⟩ := len4 hl; rfl
 obtain ⟨a20,_,E20⟩ := d20
 have b20 := E20.binds (ps := ["many","scale","turns"]) λ _ _ _ _ _ _ us hl => by obtain ⟨_,_,_,rfl⟩ := len3 hl; rfl
 obtain ⟨a21,_,E21⟩ := d21
 have b21 := E21.binds (ps := ["many","push"]) λ _ _ _ _ _ _ us hl => by obtain ⟨_,_,rfl⟩ := len2 hl; rfl
 obtain ⟨a22,_,E22⟩ := d22
 have b22 := E22.binds (ps := ["many","push"]) λ _ _ _ _ _ _ us hl => by obtain ⟨_,_,rfl⟩ := len2 hl; rfl
 obtain ⟨a23,_,E23⟩ := d23
 have b23 := E23.binds (ps := ["scores","advisers"]) λ _ _ _ _ _ _ us hl => by obtain ⟨_,_,rfl⟩ := len2 hl; rfl
 obtain ⟨a24,i24,_,E24⟩ := d24
 have b24 := E24.binds (ps := ["self","many","scale"]) λ _ _ _ _ _ _ us hl => by obtain ⟨_,_,_,rfl⟩ := len3 hl; rfl
 obtain ⟨a25,i25,_,E25⟩ := d25
 have b25 := E25.binds (ps := ["self"]) λ _ _ _ _ _ _ us hl => by obtain ⟨_,rfl⟩ := len1 hl; rfl
 obtain ⟨a26,i26,_,E26⟩ := d26
 have b26 := E26.binds (ps := ["self"]) λ _ _ _ _ _ _ us hl => by obtain ⟨_,rfl⟩ := len1 hl; rfl
 obtain ⟨a27,i27,_,E27⟩ := d27
 have b27 := E27.binds (ps := ["self"]) λ _ _ _ _ _ _ us hl => by obtain ⟨_,rfl⟩ := len1 hl; rfl
 obtain ⟨a28,i28,_,E28⟩ := d28
 have b28 := E28.binds (ps := ["self","said"]) λ _ _ _ _ _ _ us hl => by obtain ⟨_,_,rfl⟩ := len2 hl; rfl
 obtain ⟨a29,i29,_,E29⟩ := d29
 have b29 := E29.binds (ps := ["self","said","so"]) λ _ _ _ _ _ _ us hl => by obtain ⟨_,_,_,rfl⟩ := len3 hl; rfl
 obtain ⟨a30,i30,_,E30⟩ := d30
 have b30 := E30.binds (ps := ["self"]) λ _ _ _ _ _ _ us hl => by obtain ⟨_,rfl⟩ := len1 hl; rfl
 obtain ⟨a31,i31,_,E31⟩ := d31
 have b31 := E31.binds (ps := ["self","many","scale"]) λ _ _ _ _ _ _ us hl => by obtain ⟨_,_,_,rfl⟩ := len3 hl; rfl
 obtain ⟨a32,i32,_,E32⟩ := d32
 have b32 := E32.binds (ps := ["self","said","so"]) λ _ _ _ _ _ _ us hl => by obtain ⟨_,_,_,rfl⟩ := len3 hl; rfl
 obtain ⟨a33,i33,_,E33⟩ := d33
 have b33 := E33.binds (ps := ["self"]) λ _ _ _ _ _ _ us hl => by obtain ⟨_,rfl⟩ := len1 hl; rfl
 obtain ⟨a34,i34,_,E34⟩ := d34
 have b34 := E34.binds (ps := ["self","many","scale","top","bottom"]) λ _ _ _ _ _ _ us hl => by obtain ⟨_,_,_,_,_,rfl⟩ := len5 hl; rfl
 obtain ⟨a35,i35,_,E35⟩ := d35
 have b35 := E35.binds (ps := ["self","many","scale","top","bottom","share","parts"]) λ _ _ _ _ _ _ us hl => by obtain ⟨_,_,_,_,_,_,_,rfl⟩ := len7 hl; rfl
 obtain ⟨a36,i36,_,E36⟩ := d36
 have b36 := E36.binds (ps := ["self"]) λ _ _ _ _ _ _ us hl => by obtain ⟨_,rfl⟩ := len1 hl; rfl
 obtain ⟨a37,i37,_,E37⟩ := d37
 have b37 := E37.binds (ps := ["self","said","so"]) λ _ _ _ _ _ _ us hl => by obtain ⟨_,_,_,rfl⟩ := len3 hl; rfl
 obtain ⟨a38,i38,_,E38⟩ := d38
 have b38 := E38.binds (ps := ["self"]) λ _ _ _ _ _ _ us hl => by obtain ⟨_,rfl⟩ := len1 hl; rfl
 obtain ⟨a39,i39,_,E39⟩ := d39
 have b39 := E39.binds (ps := ["self","said","so"]) λ _ _ _ _ _ _ us hl => by obtain ⟨_,_,_,rfl⟩ := len3 hl; rfl
 obtain ⟨a40,i40,_,E40⟩ := d40
 have b40 := E40.binds (ps := ["self","said","so"]) λ _ _ _ _ _ _ us hl => by obtain ⟨_,_,_,rfl⟩ := len3 hl; rfl
 obtain ⟨a41,i41,_,E41⟩ := d41
 have b41 := E41.binds (ps := ["self"]) λ _ _ _ _ _ _ us hl => by obtain ⟨_,rfl⟩ := len1 hl; rfl
 obtain ⟨a42,i42,_,E42⟩ := d42
 have b42 := E42.binds (ps := ["self"]) λ _ _ _ _ _ _ us hl => by obtain ⟨_,rfl⟩ := len1 hl; rfl
 have E43 := Z9L (st := Q0C) (dv := [.none]) l43 t43 c43 k43
 have b43 := E43.binds (rest := []) (ps := ["self","many","scale","push"]) λ _ _ _ _ _ _ _ us hl => by rw [List.append_nil] at hl; obtain ⟨_,_,_,_,rfl⟩ := len4 hl; exact ⟨_,rfl,rfl⟩
 obtain ⟨a44,i44,_,E44⟩ := d44
 have b44 := E44.binds (ps := ["self","said"]) λ _ _ _ _ _ _ us hl => by obtain ⟨_,_,rfl⟩ := len2 hl; rfl
 obtain ⟨a45,i45,_,E45⟩ := d45
 have b45 := E45.binds (ps := ["self","said","so"]) λ _ _ _ _ _ _ us hl => by obtain ⟨_,_,_,rfl⟩ := len3 hl; rfl
 obtain ⟨a46,i46,_,E46⟩ := d46
 have b46 := E46.binds (ps := ["self"]) λ _ _ _ _ _ _ us hl => by obtain ⟨_,rfl⟩ := len1 hl; rfl
 obtain ⟨a47,_,E47⟩ := d47
 have b47 := E47.binds (ps := ["hands"]) λ _ _ _ _ _ _ us hl => by obtain ⟨_,rfl⟩ := len1 hl; rfl
 obtain ⟨a48,_,E48⟩ := d48
 have b48 := E48.binds (ps := ["hands","head"]) λ _ _ _ _ _ _ us hl => by obtain ⟨_,_,rfl⟩ := len2 hl; rfl
 obtain ⟨a49,_,E49⟩ := d49
 have b49 := E49.binds (ps := ["hands","head"]) λ _ _ _ _ _ _ us hl => by obtain ⟨_,_,rfl⟩ := len2 hl; rfl
 obtain ⟨a50,i50,_,E50⟩ := d50
 have b50 := E50.binds (ps := ["self"]) λ _ _ _ _ _ _ us hl => by obtain ⟨_,rfl⟩ := len1 hl; rfl
 obtain ⟨a51,i51,_,E51⟩ := d51
 have b51 := E51.binds (ps := ["self","hands","head"]) λ _ _ _ _ _ _ us hl => by obtain ⟨_,_,_,rfl⟩ := len3 hl; rfl
 obtain ⟨a52,i52,_,E52⟩ := d52
 have b52 := E52.binds (ps := ["self","said"]) λ _ _ _ _ _ _ us hl => by obtain ⟨_,_,rfl⟩ := len2 hl; rfl
 obtain ⟨a53,i53,_,E53⟩ := d53
 have b53 := E53.binds (ps := ["self","said"]) λ _ _ _ _ _ _ us hl => by obtain ⟨_,_,rfl⟩ := len2 hl; rfl
 obtain ⟨a54,i54,_,E54⟩ := d54
 have b54 := E54.binds (ps := ["self","said","so"]) λ _ _ _ _ _ _ us hl => by obtain ⟨_,_,_,rfl⟩ := len3 hl; rfl
 obtain ⟨a55,i55,_,E55⟩ := d55
 have b55 := E55.binds (ps := ["self"]) λ _ _ _ _ _ _ us hl => by obtain ⟨_,rfl⟩ := len1 hl; rfl
 obtain ⟨a56,_,E56⟩ := d56
 have b56 := E56.binds (ps := ["adviser","turns"]) λ _ _ _ _ _ _ us hl => by obtain ⟨_,_,rfl⟩ := len2 hl; rfl
 obtain ⟨a57,_,E57⟩ := d57
 have b57 := E57.binds (ps := ["many","turns"]) λ _ _ _ _ _ _ us hl => by obtain ⟨_,_,rfl⟩ := len2 hl; rfl
 obtain ⟨a58,_,E58⟩ := d58
 have b58 := E58.binds (ps := ["hand","turns"]) λ _ _ _ _ _ _ us hl => by obtain ⟨_,_,rfl⟩ := len2 hl; rfl
 obtain ⟨a59,_,E59⟩ := d59
 have b59 := E59.binds (ps := ["weigher","turns"]) λ _ _ _ _ _ _ us hl => by obtain ⟨_,_,rfl⟩ := len2 hl; rfl
 obtain ⟨a60,_,E60⟩ := d60
 have b60 := E60.binds (ps := ["_law_script","_law_k"]) λ _ _ _ _ _ _ us hl => by obtain ⟨_,_,rfl⟩ := len2 hl; rfl
 obtain ⟨a61,_,E61⟩ := d61
 have b61 := E61.binds (ps := ["_law_x"]) λ _ _ _ _ _ _ us hl => by obtain ⟨_,rfl⟩ := len1 hl; rfl
 obtain ⟨a62,_,E62⟩ := d62
 have b62 := E62.binds (ps := ["_law_script","_law_k"]) λ _ _ _ _ _ _ us hl => by obtain ⟨_,_,rfl⟩ := len2 hl; rfl
 obtain ⟨a63,_,E63⟩ := d63
 have b63 := E63.binds (ps := ["_law_x","_law_many_here","_law_scale_here","_law_sleeps"]) λ _ _ _ _ _ _ us hl => by obtain ⟨_,_,_,_,rfl⟩ := len4 hl; rfl
 obtain ⟨a64,_,E64⟩ := d64
 have b64 := E64.binds (ps := ["_law_script","_law_start","_law_many_here","_law_scale_here","_law_sleeps"]) λ _ _ _ _ _ _ us hl => by obtain ⟨_,_,_,_,_,rfl⟩ := len5 hl; rfl
 obtain ⟨a65,_,E65⟩ := d65
 have b65 := E65.binds (ps := ["_law_x"]) λ _ _ _ _ _ _ us hl => by obtain ⟨_,rfl⟩ := len1 hl; rfl
 obtain ⟨a66,_,E66⟩ := d66
 have b66 := E66.binds (ps := ["_law_x"]) λ _ _ _ _ _ _ us hl => by obtain ⟨_,rfl⟩ := len1 hl; rfl
 obtain ⟨a67,_,E67⟩ := d67
 have b67 := E67.binds (ps := ["_law_many_here","_law_scale_here","_law_x"]) λ _ _ _ _ _ _ us hl => by obtain ⟨_,_,_,rfl⟩ := len3 hl; rfl
 obtain ⟨a68,_,E68⟩ := d68
 have b68 := E68.binds (ps := ["_law_many_here","_law_scale_here","_law_x"]) λ _ _ _ _ _ _ us hl => by obtain ⟨_,_,_,rfl⟩ := len3 hl; rfl
 obtain ⟨a69,_,E69⟩ := d69
 have b69 := E69.binds (ps := ["_law_hands_here","_law_many_here","_law_scale_here","_law_x"]) λ _ _ _ _ _ _ us hl => by obtain ⟨_,_,_,_,rfl⟩ := len4 hl; rfl
 obtain ⟨a70,_,E70⟩ := d70
 have b70 := E70.binds (ps := ["_law_hands_here","_law_turns_here"]) λ _ _ _ _ _ _ us hl => by obtain ⟨_,_,rfl⟩ := len2 hl; rfl
 obtain ⟨a71,_,E71⟩ := d71
 have b71 := E71.binds (ps := ["_law_hands_here","_law_head","_law_turns_here"]) λ _ _ _ _ _ _ us hl => by obtain ⟨_,_,_,rfl⟩ := len3 hl; rfl
 have b72 := E72.binds (ps := ["_law_script"]) λ _ _ _ _ _ _ us hl => by obtain ⟨_,rfl⟩ := len1 hl; rfl
 obtain ⟨_,_,kV,dc,pm,an,cd,ct,_,rfl,_,_⟩ := E72.ex
 refine ⟨PySem.W.fnOf "law" "law" (Q1A Z3e) (Q0Y Z3e) (Q0f Z3e) .none kV dc pm an cd ct,λ s v => .of_eq rfl,λ base _ _ => ?_⟩
 have j0z : Q0j l.prog w K mg base 1 "is_whole" (Q0i Q4f) := Z1g T E0 (PySem.W.mg_of X G a0) b0
 have j0V : Q0j l.prog w K mg base 1 "counted" (Q0i Q5S) := Z3s T E1 (PySem.W.mg_of X G a1) b1
 have j0X : Q0j l.prog w K mg base 2 "middle" (Q0i Q8p) := Z4Z T E2 (PySem.W.mg_of X G a2) b2 j0V
 have j0e : Q0j l.prog w K mg base 2 "check_within" (Q0i Q2A) := Q6w T E3 (PySem.W.mg_of X G a3) b3 j0z
 have j0W : Q0j l.prog w K mg base 3 "check_scale" (Q0i Z0Q) := Q7r T E4 (PySem.W.mg_of X G a4) b4 j0e
 have j1a : Q0j l.prog w K mg base 4 "check_making" (Q0i Q8q) := Q6x T E5 (PySem.W.mg_of X G a5) b5 j0e j0W
 have j1f : Q0j l.prog w K mg base 3 "check_fraction" (Q0i Q4H) := Q4R T E6 (PySem.W.mg_of X G a6) b6 j0e
 have j1g : Q0j l.prog w K mg base 3 "check_share" (Q0i Z0P) := Q7q T E7 (PySem.W.mg_of X G a7) b7 j0e
 have j0C : Q0j l.prog w K mg base 2 "is_on_scale" (Q0i Z6U) := Q7n T E8 (PySem.W.mg_of X G a8) b8 j0z
 have j0D : Q0j l.prog w K mg base 3 "is_said" (Q0i Q5w) := Z3q T E9 (PySem.W.mg_of X G a9) b9 j0C
 have j0q : Q0j l.prog w K mg base 4 "check_said" (Q0i Q1H) := Q8N T E10 (PySem.W.mg_of X G a10) b10 j0D
 have j0p : Q0j l.prog w K mg base 1 "power" (Q0i Z4r) := Z7r T E11 (PySem.W.mg_of X G a11) b11
 have j0a : Q0j l.prog w K mg base 1 "charge" (Q0i Q1D) := Z5f T E12 (PySem.W.mg_of X G a12) b12
 have j0E : Q0j l.prog w K mg base 4 "is_turn" (Q0i Q5v) := Z3p T E13 (PySem.W.mg_of X G a13) b13 j0D j0C
 have j0b : Q0j l.prog w K mg base 5 "check_turn" (Q0i Q0S) := Q8L T E14 (PySem.W.mg_of X G a14) b14 j0E
 have j0F : Q0j l.prog w K mg base 1 "awake_in" (Q0i Q8u) := Z1h T E15 (PySem.W.mg_of X G a15) b15
 have j0P : Q0j l.prog w K mg base 4 "middle_awake" (Q0i spMA) := Q6v T E16 (PySem.W.mg_of X G a16) b16 j0X j0F
 have j0Y : Q0j l.prog w K mg base 2 "times_awake" (Z8R CK5 CK3) := Q7l T E17 (PySem.W.mg_of X G a17) b17 j0p
 have j0G : Q0j l.prog w K mg base 2 "times_asleep" (Z6T CK5 CK3) := Q6u T E18 (PySem.W.mg_of X G a18) b18 j0p
 have j1i : Q0j l.prog w K mg base 3 "times" (Z8Q CK5 CK3) := Z7q T E19 (PySem.W.mg_of X G a19) b19 j0a j0G j0Y
 have j0N : Q0j l.prog w K mg base 5 "check_turns" (Q0i Q2a) := Q7p T E20 (PySem.W.mg_of X G a20) b20 j0E
 have j0Z : Q0j l.prog w K mg base 3 "check_push" (Q0i Z4q) := Q8O T E21 (PySem.W.mg_of X G a21) b21 j0e j0p
 have j1m : Q0j l.prog w K mg base 4 "push_of" (Q0i Q8n) := Z3k T E22 (PySem.W.mg_of X G a22) b22 j0Z
 have j1n : Q0j l.prog w K mg base 1 "first_least" (Q0i Z0S) := Q7o T E23 (PySem.W.mg_of X G a23) b23
 have j1F : FnOk l.prog w K mg base CX0 5 f24 _ ["self","many","scale"] (toSp K (Q1t (λ C => C = CK1 \/ C = CK5 \/ C = CK3 \/ C = CK2 \/ C = CK4 \/ C = CK0))) := Q5m T E24 j1a
 have j1S : FnOk l.prog w K mg base CX0 1 f25 _ ["self"] (toSp K (Q8s CK1)) := Q7u T E25
 have j1G : FnOk l.prog w K mg base CX0 1 f26 _ ["self"] (toSp K (Q4G CK5 CK3)) := Q4S T E26
 have j1T : FnOk l.prog w K mg base CX0 1 f27 _ ["self"] (toSp K (Q8r CK2)) := Q4T T E27
 have j1b : Q0e l.prog w K mg base CK1 1 "heeded" (Q8s CK1) := ⟨⟨_,_,_,j1S,⟨a25,i25,E25.kp⟩,b25⟩,T.j3h.cls⟩
 have j1c : Q0e l.prog w K mg base CK5 1 "heeded" (Q4G CK5 CK3) := ⟨⟨_,_,_,j1G,⟨a26,i26,E26.kp⟩,b26⟩,T.j3n.cls⟩
 have j1d : Q0e l.prog w K mg base CK3 1 "heeded" (Q4G CK5 CK3) := ⟨⟨_,_,_,j1G,⟨e2_heeded,i26,E26.kp⟩,b26⟩,T.j3x.cls⟩
 have j1e : Q0e l.prog w K mg base CK2 1 "heeded" (Q8r CK2) := ⟨⟨_,_,_,j1T,⟨a27,i27,E27.kp⟩,b27⟩,T.j3J.cls⟩
 have j0T : FnOk l.prog w K mg base CX0 6 f28 _ ["self","said"] (toSp K (Q0E CK1 CK5 CK3 CK2)) := Z1i T E28 j0q j0P j1b j1c j1d j1e
 have j1U : FnOk l.prog w K mg base CX0 6 f29 _ ["self","said","so"] (toSp K (Q2D CK1)) := Q9X T E29 j0b
 have j0H : Q0R l.prog w K mg base CK1 5 "Hand" (Q1t (λ C => C = CK1 \/ C = CK5 \/ C = CK3 \/ C = CK2 \/ C = CK4 \/ C = CK0)) := ⟨⟨_,_,_,j1F,⟨mk0,a24,i24,kc0⟩,b24⟩,T.j3i⟩
 have j1V : FnOk l.prog w K mg base CX0 7 f30 _ ["self"] (toSp K (Q3d CK1)) := Q9Y T E30 j0H
 have j0o : Z0w l.prog w K mg base "Hand" 5 "__init__" (Q1t (λ C => C = CK1 \/ C = CK5 \/ C = CK3 \/ C = CK2 \/ C = CK4 \/ C = CK0)) := ⟨_,_,_,_,_,T.j3i,so0___init__,rd0___init__,fc0___init__,rfl,j1F,E24.kp,b24⟩
 have j1W : FnOk l.prog w K mg base CX0 6 f31 _ ["self","many","scale"] (toSp K (Q5Q CK2)) := Q3V T E31 j0o
 have j1X : FnOk l.prog w K mg base CX0 6 f32 _ ["self","said","so"] (toSp K (Q2C CK2)) := Q6D T E32 j0b j0a
 have j0I : Q0R l.prog w K mg base CK2 6 "Rounder" (Q5Q CK2) := ⟨⟨_,_,_,j1W,⟨mk3,a31,i31,kc3⟩,b31⟩,T.j3K⟩
 have j1Y : FnOk l.prog w K mg base CX0 8 f33 _ ["self"] (toSp K (Q3c CK2)) := Q6E T E33 j0I
 have j1H : FnOk l.prog w K mg base CX0 6 f34 _ ["self","many","scale","top","bottom"] (toSp K (Q2B CK5 CK3)) := Q3R T E34 j1f j0o
 have j1h : Z0w l.prog w K mg base "Weigher" 6 "__init__" (Q2B CK5 CK3) := ⟨_,_,_,_,_,T.j3o,so1___init__,rd1___init__,fc1___init__,rfl,j1H,E34.kp,b34⟩
 have j1Z : FnOk l.prog w K mg base CX0 7 f35 _ ["self","many","scale","top","bottom","share","parts"] (toSp K (Q5P CK3)) := Q3U T E35 j1g j1h
 have j1I : FnOk l.prog w K mg base CX0 1 f36 _ ["self"] (toSp K (Q3u CK5 CK3)) := Q5l T E36
 have j0c : Q0e l.prog w K mg base CK5 6 "say" (Q0E CK1 CK5 CK3 CK2) := ⟨⟨_,_,_,j0T,⟨e1_say,i28,E28.kp⟩,b28⟩,T.j3n.cls⟩
 have j0d : Q0e l.prog w K mg base CK3 6 "say" (Q0E CK1 CK5 CK3 CK2) := ⟨⟨_,_,_,j0T,⟨e2_say,i28,E28.kp⟩,b28⟩,T.j3x.cls⟩
 have j1J : FnOk l.prog w K mg base CX0 7 f37 _ ["self","said","so"] (toSp K (Q3t CK5 CK3)) := Q5k T E37 j0a j0c j0d j1i j0G
 have j2a : FnOk l.prog w K mg base CX0 1 f38 _ ["self"] (toSp K (Q8t CK3)) := Q6B T E38
 have j1j : Q0e l.prog w K mg base CK5 7 "weigh" (Q3t CK5 CK3) := ⟨⟨_,_,_,j1J,⟨a37,i37,E37.kp⟩,b37⟩,T.j3n.cls⟩
 have j2b : FnOk l.prog w K mg base CX0 8 f39 _ ["self","said","so"] (toSp K (Q0K CK5 CK3 false)) := Q6y T E39 j0b j1j
 have j1k : Q0e l.prog w K mg base CK3 7 "weigh" (Q3t CK5 CK3) := ⟨⟨_,_,_,j1J,⟨e2_weigh,i37,E37.kp⟩,b37⟩,T.j3x.cls⟩
 have j1l : Q0e l.prog w K mg base CK3 1 "deal" (Q8t CK3) := ⟨⟨_,_,_,j2a,⟨a38,i38,E38.kp⟩,b38⟩,T.j3x.cls⟩
 have j2c : FnOk l.prog w K mg base CX0 8 f40 _ ["self","said","so"] (toSp K (Q0K CK5 CK3 true)) := Q6A T E40 j0b j1k j1l
 have j0J : Q0R l.prog w K mg base CK5 6 "Weigher" (Q2B CK5 CK3) := ⟨⟨_,_,_,j1H,⟨mk1,a34,i34,kc1⟩,b34⟩,T.j3o⟩
 have j2d : FnOk l.prog w K mg base CX0 9 f41 _ ["self"] (toSp K (Q0T CK5 CK3 false)) := Q6z T E41 j0J
 have j0K : Q0R l.prog w K mg base CK3 7 "Shifter" (Q5P CK3) := ⟨⟨_,_,_,j1Z,⟨mk2,a35,i35,kc2⟩,b35⟩,T.j3y⟩
 have j2e : FnOk l.prog w K mg base CX0 9 f42 _ ["self"] (toSp K (Q0T CK5 CK3 true)) := Q6C T E42 j0K
 have j2f : FnOk l.prog w K mg base CX0 6 f43 _ ["self","many","scale","push"] (toSp K (Q5R CK0)) := Q3E T E43 j1m j0o
 have j2g : FnOk l.prog w K mg base CX0 5 f44 _ ["self","said"] (toSp K (Q4e CK0)) := Q6F T E44 j0q j0F j1n
 have j2h : FnOk l.prog w K mg base CX0 6 f45 _ ["self","said","so"] (toSp K (Q2E CK0)) := Q5n T E45 j0b j0a
 have j0L : Q0R l.prog w K mg base CK0 6 "Follower" (Q5R CK0) := ⟨⟨_,_,_,j2f,⟨mk4,a43,i43,kc4⟩,b43⟩,T.j3S⟩
 have j2i : FnOk l.prog w K mg base CX0 8 f46 _ ["self"] (toSp K (Q3e CK0)) := Q5o T E46 j0L
 have j1o : Q0j l.prog w K mg base 1 "are_alike" (Q8v ⟨CK1,CK5,CK3,CK2,CK4,CK0⟩) := Q9W T E47 (PySem.W.mg_of X G a47) b47
 have j1p : Q0j l.prog w K mg base 1 "is_head" (Q5O ⟨CK1,CK5,CK3,CK2,CK4,CK0⟩) := Z3r T E48 (PySem.W.mg_of X G a48) b48
 have j0Q : Q0j l.prog w K mg base 2 "check_tier" (Z0O ⟨CK1,CK5,CK3,CK2,CK4,CK0⟩) := Q8M T E49 (PySem.W.mg_of X G a49) b49 j1o j1p
 have j2j : FnOk l.prog w K mg base CX0 1 f50 _ ["self"] (toSp K (Z6V ⟨CK1,CK5,CK3,CK2,CK4,CK0⟩)) := Q3D T E50
 have j2K : FnOk l.prog w K mg base CX0 10 f51 _ ["self","hands","head"] (toSp K (Q1g ⟨CK1,CK5,CK3,CK2,CK4,CK0⟩ 0)) := Q4q T E51
 have j2L : FnOk l.prog w K mg base CX0 7 f52 _ ["self","said"] (toSp K (Q2T ⟨CK1,CK5,CK3,CK2,CK4,CK0⟩ 0)) := Q8R T E52
 have j2k : FnOk l.prog w K mg base CX0 9 f53 _ ["self","said"] (toSp K (Q1B ⟨CK1,CK5,CK3,CK2,CK4,CK0⟩ 0)) := Q8Q T E53
 have j2l : FnOk l.prog w K mg base CX0 10 f54 _ ["self","said","so"] (toSp K (Q0X ⟨CK1,CK5,CK3,CK2,CK4,CK0⟩ 0)) := Q7s T E54
 have j2m : FnOk l.prog w K mg base CX0 12 f55 _ ["self"] (toSp K (Q1b ⟨CK1,CK5,CK3,CK2,CK4,CK0⟩ 0)) := Q7t T E55
 have j0r : Q0e l.prog w K mg base CK1 7 "anew" (Q3d CK1) := ⟨⟨_,_,_,j1V,⟨a30,i30,E30.kp⟩,b30⟩,T.j3h.cls⟩
 have j0s : Q0e l.prog w K mg base CK5 9 "anew" (Q0T CK5 CK3 false) := ⟨⟨_,_,_,j2d,⟨a41,i41,E41.kp⟩,b41⟩,T.j3n.cls⟩
 have j0t : Q0e l.prog w K mg base CK3 9 "anew" (Q0T CK5 CK3 true) := ⟨⟨_,_,_,j2e,⟨a42,i42,E42.kp⟩,b42⟩,T.j3x.cls⟩
 have j0u : Q0e l.prog w K mg base CK2 8 "anew" (Q3c CK2) := ⟨⟨_,_,_,j1Y,⟨a33,i33,E33.kp⟩,b33⟩,T.j3J.cls⟩
 have j0v : Q0e l.prog w K mg base CK0 8 "anew" (Q3e CK0) := ⟨⟨_,_,_,j2i,⟨a46,i46,E46.kp⟩,b46⟩,T.j3R.cls⟩
 have j2n : Q0e l.prog w K mg base CK4 12 "anew" (Q1b ⟨CK1,CK5,CK3,CK2,CK4,CK0⟩ 0) := ⟨⟨_,_,_,j2m,⟨a55,i55,E55.kp⟩,b55⟩,T.j3Z.cls⟩
 have j2o : FnOk l.prog w K mg base CX0 18 f51 _ ["self","hands","head"] (toSp K (Q1g ⟨CK1,CK5,CK3,CK2,CK4,CK0⟩ 1)) := Q1z (j := 0) T E51 j0Q j0o j0r j0s j0t j0u j0v j2n
 have j0f : Q0e l.prog w K mg base CK1 6 "say" (Q0E CK1 CK5 CK3 CK2) := ⟨⟨_,_,_,j0T,⟨a28,i28,E28.kp⟩,b28⟩,T.j3h.cls⟩
 have j0g : Q0e l.prog w K mg base CK2 6 "say" (Q0E CK1 CK5 CK3 CK2) := ⟨⟨_,_,_,j0T,⟨e3_say,i28,E28.kp⟩,b28⟩,T.j3J.cls⟩
 have j0h : Q0e l.prog w K mg base CK0 5 "say" (Q4e CK0) := ⟨⟨_,_,_,j2g,⟨a44,i44,E44.kp⟩,b44⟩,T.j3R.cls⟩
 have j1K : Q0e l.prog w K mg base CK4 9 "say" (Q1B ⟨CK1,CK5,CK3,CK2,CK4,CK0⟩ 0) := ⟨⟨_,_,_,j2k,⟨a53,i53,E53.kp⟩,b53⟩,T.j3Z.cls⟩
 have j2p : FnOk l.prog w K mg base CX0 15 f52 _ ["self","said"] (toSp K (Q2T ⟨CK1,CK5,CK3,CK2,CK4,CK0⟩ 1)) := Q3T (j := 0) T E52 j0f j0c j0d j0g j0h j1K
 have j1L : Q0e l.prog w K mg base CK4 15 "ask" (Q2T ⟨CK1,CK5,CK3,CK2,CK4,CK0⟩ 1) := ⟨⟨_,_,_,j2p,⟨a52,i52,E52.kp⟩,b52⟩,T.j3Z.cls⟩
 have j2q : FnOk l.prog w K mg base CX0 17 f53 _ ["self","said"] (toSp K (Q1B ⟨CK1,CK5,CK3,CK2,CK4,CK0⟩ 1)) := Q3S (j := 0) T E53 j0q j1L j0f j0c j0d j0g j0h j1K
 have j0j : Q0e l.prog w K mg base CK1 6 "hear" (Q2D CK1) := ⟨⟨_,_,_,j1U,⟨a29,i29,E29.kp⟩,b29⟩,T.j3h.cls⟩
 have j0k : Q0e l.prog w K mg base CK5 8 "hear" (Q0K CK5 CK3 false) := ⟨⟨_,_,_,j2b,⟨a39,i39,E39.kp⟩,b39⟩,T.j3n.cls⟩
 have j0l : Q0e l.prog w K mg base CK3 8 "hear" (Q0K CK5 CK3 true) := ⟨⟨_,_,_,j2c,⟨a40,i40,E40.kp⟩,b40⟩,T.j3x.cls⟩
 have j0m : Q0e l.prog w K mg base CK2 6 "hear" (Q2C CK2) := ⟨⟨_,_,_,j1X,⟨a32,i32,E32.kp⟩,b32⟩,T.j3J.cls⟩
 have j0n : Q0e l.prog w K mg base CK0 6 "hear" (Q2E CK0) := ⟨⟨_,_,_,j2h,⟨a45,i45,E45.kp⟩,b45⟩,T.j3R.cls⟩
 have j2r : Q0e l.prog w K mg base CK4 10 "hear" (Q0X ⟨CK1,CK5,CK3,CK2,CK4,CK0⟩ 0) := ⟨⟨_,_,_,j2l,⟨a54,i54,E54.kp⟩,b54⟩,T.j3Z.cls⟩
 have j2s : FnOk l.prog w K mg base CX0 18 f54 _ ["self","said","so"] (toSp K (Q0X ⟨CK1,CK5,CK3,CK2,CK4,CK0⟩ 1)) := Q3o (j := 0) T E54 j0b j0a j1L j0j j0k j0l j0m j0n j2r
 have j2t : Q0R l.prog w K mg base CK4 18 "Tier" (Q1g ⟨CK1,CK5,CK3,CK2,CK4,CK0⟩ 1) := ⟨⟨_,_,_,j2o,⟨mk5,a51,i51,kc5⟩,b51⟩,T.j4a⟩
 have j2u : FnOk l.prog w K mg base CX0 20 f55 _ ["self"] (toSp K (Q1b ⟨CK1,CK5,CK3,CK2,CK4,CK0⟩ 1)) := Q3p (j := 0) T E55 j2t
 have j2v : Q0e l.prog w K mg base CK4 20 "anew" (Q1b ⟨CK1,CK5,CK3,CK2,CK4,CK0⟩ 1) := ⟨⟨_,_,_,j2u,⟨a55,i55,E55.kp⟩,b55⟩,T.j3Z.cls⟩
 have j2w : FnOk l.prog w K mg base CX0 26 f51 _ ["self","hands","head"] (toSp K (Q1g ⟨CK1,CK5,CK3,CK2,CK4,CK0⟩ 2)) := Q1z (j := 1) T E51 j0Q j0o j0r j0s j0t j0u j0v j2v
 have j1M : Q0e l.prog w K mg base CK4 17 "say" (Q1B ⟨CK1,CK5,CK3,CK2,CK4,CK0⟩ 1) := ⟨⟨_,_,_,j2q,⟨a53,i53,E53.kp⟩,b53⟩,T.j3Z.cls⟩
 have j2x : FnOk l.prog w K mg base CX0 23 f52 _ ["self","said"] (toSp K (Q2T ⟨CK1,CK5,CK3,CK2,CK4,CK0⟩ 2)) := Q3T (j := 1) T E52 j0f j0c j0d j0g j0h j1M
 have j1N : Q0e l.prog w K mg base CK4 23 "ask" (Q2T ⟨CK1,CK5,CK3,CK2,CK4,CK0⟩ 2) := ⟨⟨_,_,_,j2x,⟨a52,i52,E52.kp⟩,b52⟩,T.j3Z.cls⟩
 have j2y : FnOk l.prog w K mg base CX0 25 f53 _ ["self","said"] (toSp K (Q1B ⟨CK1,CK5,CK3,CK2,CK4,CK0⟩ 2)) := Q3S (j := 1) T E53 j0q j1N j0f j0c j0d j0g j0h j1M
 have j2z : Q0e l.prog w K mg base CK4 18 "hear" (Q0X ⟨CK1,CK5,CK3,CK2,CK4,CK0⟩ 1) := ⟨⟨_,_,_,j2s,⟨a54,i54,E54.kp⟩,b54⟩,T.j3Z.cls⟩
 have j2A : FnOk l.prog w K mg base CX0 26 f54 _ ["self","said","so"] (toSp K (Q0X ⟨CK1,CK5,CK3,CK2,CK4,CK0⟩ 2)) := Q3o (j := 1) T E54 j0b j0a j1N j0j j0k j0l j0m j0n j2z
 have j2B : Q0R l.prog w K mg base CK4 26 "Tier" (Q1g ⟨CK1,CK5,CK3,CK2,CK4,CK0⟩ 2) := ⟨⟨_,_,_,j2w,⟨mk5,a51,i51,kc5⟩,b51⟩,T.j4a⟩
 have j2C : FnOk l.prog w K mg base CX0 28 f55 _ ["self"] (toSp K (Q1b ⟨CK1,CK5,CK3,CK2,CK4,CK0⟩ 2)) := Q3p (j := 1) T E55 j2B
 have j2D : Q0e l.prog w K mg base CK4 28 "anew" (Q1b ⟨CK1,CK5,CK3,CK2,CK4,CK0⟩ 2) := ⟨⟨_,_,_,j2C,⟨a55,i55,E55.kp⟩,b55⟩,T.j3Z.cls⟩
 have j2E : FnOk l.prog w K mg base CX0 34 f51 _ ["self","hands","head"] (toSp K (Q1g ⟨CK1,CK5,CK3,CK2,CK4,CK0⟩ 3)) := Q1z (j := 2) T E51 j0Q j0o j0r j0s j0t j0u j0v j2D
 have j1O : Q0e l.prog w K mg base CK4 25 "say" (Q1B ⟨CK1,CK5,CK3,CK2,CK4,CK0⟩ 2) := ⟨⟨_,_,_,j2y,⟨a53,i53,E53.kp⟩,b53⟩,T.j3Z.cls⟩
 have j2F : FnOk l.prog w K mg base CX0 31 f52 _ ["self","said"] (toSp K (Q2T ⟨CK1,CK5,CK3,CK2,CK4,CK0⟩ 3)) := Q3T (j := 2) T E52 j0f j0c j0d j0g j0h j1O
 have j1P : Q0e l.prog w K mg base CK4 31 "ask" (Q2T ⟨CK1,CK5,CK3,CK2,CK4,CK0⟩ 3) := ⟨⟨_,_,_,j2F,⟨a52,i52,E52.kp⟩,b52⟩,T.j3Z.cls⟩
 have j2G : FnOk l.prog w K mg base CX0 33 f53 _ ["self","said"] (toSp K (Q1B ⟨CK1,CK5,CK3,CK2,CK4,CK0⟩ 3)) := Q3S (j := 2) T E53 j0q j1P j0f j0c j0d j0g j0h j1O
 have j2H : Q0e l.prog w K mg base CK4 26 "hear" (Q0X ⟨CK1,CK5,CK3,CK2,CK4,CK0⟩ 2) := ⟨⟨_,_,_,j2A,⟨a54,i54,E54.kp⟩,b54⟩,T.j3Z.cls⟩
 have j2I : FnOk l.prog w K mg base CX0 34 f54 _ ["self","said","so"] (toSp K (Q0X ⟨CK1,CK5,CK3,CK2,CK4,CK0⟩ 3)) := Q3o (j := 2) T E54 j0b j0a j1P j0j j0k j0l j0m j0n j2H
 have j0U : Q0R l.prog w K mg base CK4 34 "Tier" (Q1g ⟨CK1,CK5,CK3,CK2,CK4,CK0⟩ 3) := ⟨⟨_,_,_,j2E,⟨mk5,a51,i51,kc5⟩,b51⟩,T.j4a⟩
 have j2J : FnOk l.prog w K mg base CX0 36 f55 _ ["self"] (toSp K (Q1b ⟨CK1,CK5,CK3,CK2,CK4,CK0⟩ 3)) := Q3p (j := 2) T E55 j0U
 have j1r : Q0j l.prog w K mg base 2 "charges_of" (Q0i spOf) := Q8P T E56 (PySem.W.mg_of X G a56) b56 j0a
 have j1y : Q0j l.prog w K mg base 4 "charges" (Q0i Q5T) := Z3t T E57 (PySem.W.mg_of X G a57) b57 j1r
 have j1Q : Q0e l.prog w K mg base CK4 36 "anew" (Q1b ⟨CK1,CK5,CK3,CK2,CK4,CK0⟩ 3) := ⟨⟨_,_,_,j2J,⟨a55,i55,E55.kp⟩,b55⟩,T.j3Z.cls⟩
 have j1R : Q0e l.prog w K mg base CK4 33 "say" (Q1B ⟨CK1,CK5,CK3,CK2,CK4,CK0⟩ 3) := ⟨⟨_,_,_,j2G,⟨a53,i53,E53.kp⟩,b53⟩,T.j3Z.cls⟩
 have j1E : Q0e l.prog w K mg base CK4 34 "hear" (Q0X ⟨CK1,CK5,CK3,CK2,CK4,CK0⟩ 3) := ⟨⟨_,_,_,j2I,⟨a54,i54,E54.kp⟩,b54⟩,T.j3Z.cls⟩
 have j0B : Q0j l.prog w K mg base 37 "ran" (Z1S ⟨CK1,CK5,CK3,CK2,CK4,CK0⟩ 3) := Y1c T E58 (PySem.W.mg_of X G a58) b58 j0N j0r j0f j0j j0s j0c j0k j0t j0d j0l j0u j0g j0m j1Q j1R j1E j0v j0h j0n
 have j1s : Q0e l.prog w K mg base CK5 1 "total" (Q3u CK5 CK3) := ⟨⟨_,_,_,j1I,⟨a36,i36,E36.kp⟩,b36⟩,T.j3n.cls⟩
 have j1t : Q0e l.prog w K mg base CK3 1 "total" (Q3u CK5 CK3) := ⟨⟨_,_,_,j1I,⟨e2_total,i36,E36.kp⟩,b36⟩,T.j3x.cls⟩
 have j1x : Q0j l.prog w K mg base 37 "paper" (Q8o ⟨CK1,CK5,CK3,CK2,CK4,CK0⟩) := Z7s T E59 (PySem.W.mg_of X G a59) b59 j0N j0a j0r j0f j0j j0s j0c j0k j0t j0d j0l j0u j0g j0m j1Q j1R j1E j0v j0h j0n j1s j1t
 have j1u : Q0j l.prog w K mg base 1 "_law_cell_at" (Q0i Z4t) := Q9U T E60 (PySem.W.mg_of X G a60) b60
 have j0i : Q0j l.prog w K mg base 1 "_law_next" (Q0i Q5N) := Z5c T E61 (PySem.W.mg_of X G a61) b61
 have j0x : Q0j l.prog w K mg base 2 "_law_seed" (Q0i Q8m) := Z5b T E62 (PySem.W.mg_of X G a62) b62 j1u j0i
 have j1v : Q0j l.prog w K mg base 2 "_law_turn" (Q0i Z0N) := Z5a T E63 (PySem.W.mg_of X G a63) b63 j0i
 have j1C : Q0j l.prog w K mg base 3 "_law_turns" (Q0i Q8l) := Z3l T E64 (PySem.W.mg_of X G a64) b64 j0x j1v
 have j1A : Q0j l.prog w K mg base 1 "_law_many" (Z3f preX Z1d) := Z5d T E65 (PySem.W.mg_of X G a65) b65
 have j1B : Q0j l.prog w K mg base 1 "_law_scale" (Z3f preX Q6r) := Z3m T E66 (PySem.W.mg_of X G a66) b66
 have j0w : Q0j l.prog w K mg base 13 "_law_hand" (Q4g ⟨CK1,CK5,CK3,CK2,CK4,CK0⟩) := Z5e T E67 (PySem.W.mg_of X G a67) b67 j0H j0J j0K j0I j0L
 have j0O : Q0j l.prog w K mg base 14 "_law_hands" (Q5x ⟨CK1,CK5,CK3,CK2,CK4,CK0⟩) := Z3o T E68 (PySem.W.mg_of X G a68) b68 j0i j0w
 have j1D : Q0j l.prog w K mg base 36 "_law_with_tier" (Z4o ⟨CK1,CK5,CK3,CK2,CK4,CK0⟩) := Q7m T E69 (PySem.W.mg_of X G a69) b69 j0i j0w j0O j0U
 have j1w : Q0j l.prog w K mg base 38 "_law_between" (Z4u ⟨CK1,CK5,CK3,CK2,CK4,CK0⟩) := Q9V T E70 (PySem.W.mg_of X G a70) b70 j0B
 have j1z : Q0e l.prog w K mg base CK4 1 "hand_charges" (Z6V ⟨CK1,CK5,CK3,CK2,CK4,CK0⟩) := ⟨⟨_,_,_,j2j,⟨a50,i50,E50.kp⟩,b50⟩,T.j3Z.cls⟩
 have j0S : Q0j l.prog w K mg base 39 "_law_right" (Z0R ⟨CK1,CK5,CK3,CK2,CK4,CK0⟩) := Z3n T E71 (PySem.W.mg_of X G a71) b71 j0U j1w j0B j1x j1y j1z j0j j0k j0l j0m j1E j0n
 exact Y1d T E72 j0x j1A j1B j1C j0i j0w j0O j1D j0S j0U
theorem walk {l : PySem.W.OpenLaw} {q : Program} {loose : List Str} {XP : (Str -> Option Value) -> Heap -> Prop} {YP : World -> Heap -> Prop} {d : DefRec} {K : Params -> PySem.W.Frag} (hn : l.most = some 63) (hdf : d.params.defaults = [])
  (hY : ∀ (w : World) (h : Heap),YP w h -> (K w.params).In h)
  (F : ∀ (w : World) (mg : Str -> Option Value) (fa : Addr) (h : Heap),(K w.params).In h -> h.Ns mainGlobals mg -> mg d.name = some (.ref fa) ->
   ∃ fd : FuncData,(∀ (s : Shared) (u : Value),BindsTo s fd ⟨[u],[]⟩ [("_law_script",u)]) /\ ∀ base : Heap,(K w.params).In base -> base.Ns mainGlobals mg -> FnOk l.prog w (K w.params) mg base CX0 40 fa fd ["_law_script"] (toSp (K w.params) Z4s)) :
  PySem.W.WalkO q loose XP YP l.row.toRowW d [] (λ f vs => PySem.call f vs) :=
 L2.walk_of (n := 63) (k := 40) (x := "_law_script") (CX := λ _ => CX0) (sp := λ w => toSp (K w.params) Z4s) hn wE hdf ⟨rfl,by decide,by decide⟩ hY F (λ _ _ a ns hl _ hS => Z5t hl hS) λ _ _ _ _ _ z => z
end My
open PySem PySem.W PyProof.Rows
theorem My.walkZ {q : Program} {loose : List Str} {XP : (Str -> Option Value) -> Heap -> Prop} {K : Params -> PySem.W.Frag} {as : List Addr} {n t : Nat} {r : RowW} {d : DefRec} {kwd : List (Str × Expr)} {run : Value -> List Value -> Sem Value} (e : ∀ P,as = (K P).map (·.1))
  (h : WalkO q loose XP (λ w h => (K w.params).In h) r d kwd run) : WalkX q loose XP (X.obsZ as) (X.valZ K n t) r d kwd run := λ w s₀ s₁ mg mb G y a o pm cd doc dV kV ho hd hcd hD hmg hg args vals as' L hpre hlay hrd hwl hlo =>
 h w s₀ s₁ mg mb G (λ b o' e' => L.keeps _ _ ((X.z_facts e y).2.1 b o' e')) a o pm cd doc dV kV ho hd hcd hD hmg hg args vals as' hpre hlay hrd hwl hlo
def PySem.W.Fast.tw12008895637061900655 : Nat := 0
def PySem.W.Fast.tw1941023307665360924 : Nat := 0
def PySem.W.Fast.tw1405892826200066927 : Nat := 0
def PySem.W.Fast.tw759126692842208563 : Nat := 0
def PySem.W.Fast.tw7560853064323488045 : Nat := 0
def PySem.W.Fast.tw4753823605730745404 : Nat := 0
def PySem.W.Fast.tw8984892564084538842 : Nat := 0
def PySem.W.Fast.tw12061399530684192182 : Nat := 0
def PySem.W.Fast.tw16106485515255446211 : Nat := 0
def PySem.W.Fast.tw16898517188992410136 : Nat := 0
def PySem.W.Fast.tw10023083263330290276 : Nat := 0
def PySem.W.Fast.tw13873324857366530256 : Nat := 0
def PySem.W.Fast.tw17214289755982396577 : Nat := 0
def PySem.W.Fast.tw9946109381646812668 : Nat := 0
def PySem.W.Fast.tw5768442790256766840 : Nat := 0
def PySem.W.Fast.tw14606520364479276883 : Nat := 0
def PySem.W.Fast.tw16443964530332053299 : Nat := 0
def PySem.W.Fast.tw13143941848120981969 : Nat := 0
open PySem PySem.W PyProof.Rows
set_option maxRecDepth 100000 in
set_option maxHeartbeats 0 in
theorem PySem.Challenge.cw_heedwise_k73_whole_heads_over_sayings_holds : PySem.Challenge.rw_heedwise_k73_whole_heads_over_sayings.Holds := by
 w_on; o_law; z_head; (case hw => w_witness2)
 k_fill
 refine My.walkZ (λ P => rfl) ?_
 refine My.walk (l := PySem.Challenge.rw_heedwise_k73_whole_heads_over_sayings) rfl rfl (λ w h Y => Y) ?F
 case F =>
  intro w mg fa h KX G hmg
  refine' My.all_mk KX G hmg ?aC0 ?aC1 ?aC2 ?aC3 ?aC4 ?aC5 ?d0 ?d1 ?d2 ?d3 ?d4 ?d5 ?d6 ?d7 ?d8 ?d9 ?d10 ?d11 ?d12 ?d13 ?d14 ?d15 ?d16 ?d17 ?d18 ?d19 ?d20 ?d21 ?d22 ?d23 ?d24 ?d25 ?d26 ?d27 ?d28 ?d29 ?d30 ?d31 ?d32 ?d33 ?d34 ?d35 ?d36 ?d37 ?d38 ?d39 ?d40 ?d41 ?d42 ?a43 ?i43 ?l43 ?t43 ?c43 ?k43 ?d44 ?d45 ?d46 ?d47 ?d48 ?d49 ?d50 ?d51 ?d52 ?d53 ?d54 ?d55 ?d56 ?d57 ?d58 ?d59 ?d60 ?d61 ?d62 ?d63 ?d64 ?d65 ?d66 ?d67 ?d68 ?d69 ?d70 ?d71 ?d72 ?cb0 ?n0_many ?n0_scale ?q0_Hand ?q0_Weigher ?mk0 ?kc0 ?so0___init__ ?rd0___init__ ?fc0___init__ ?cb1 ?n1_many ?n1_scale ?n1_top ?n1_bottom ?n1_tops ?n1_under ?q1_Hand ?q1_Weigher ?mk1 ?kc1 ?e1_say ?so1___init__ ?rd1___init__ ?fc1___init__ ?cb2 ?n2_many ?n2_scale ?n2_top ?n2_bottom ?n2_tops ?n2_under ?n2_share ?n2_parts ?q2_Hand ?q2_Weigher ?mk2 ?kc2 ?e2_heeded ?e2_say ?e2_total ?e2_weigh ?cb3 ?n3_many ?n3_scale ?n3_inside ?n3_over ?q3_Hand ?q3_Weigher ?mk3 ?kc3 ?e3_say ?cb4 ?n4_many ?n4_scale ?n4_push ?n4_reached ?q4_Hand ?q4_Weigher ?mk4 ?kc4 ?cb5 ?n5_many ?n5_scale ?n5_hands ?n5_head ?n5_charged ?q5_Hand ?q5_Weigher ?mk5 ?kc5 ?gn ?gt ?z0 ?z1 ?z2 ?z3 ?z4 ?z5 ?z6 ?z7 ?z8 ?z9 ?z10 ?z11 ?z12 ?z13 ?z14 ?z15 ?y0 ?y1 ?y2 ?y3 ?y4
  case aC0|aC1|aC2|aC3|aC4|aC5 =>
   k_is
  case d0|d1|d2|d3|d4|d5|d6|d7|d8|d9|d10|d11|d12|d13|d14|d15|d16|d17|d18|d19|d20|d21|d22|d23|d47|d48|d49|d56|d57|d58|d59|d60|d61|d62|d63|d64|d65|d66|d67|d68|d69|d70|d71|d72 =>
   refine' My.fd_mk ?a ?l ?c ?k
   case a|l|c|k => k_is
  case d24|d25|d26|d27|d28|d29|d30|d31|d32|d33|d34|d35|d36|d37|d38|d39|d40|d41|d42|d44|d45|d46|d50|d51|d52|d53|d54|d55 =>
   refine' My.fm_mk ?a ?i ?l ?c ?k
   case a|i|l|c|k => k_is
  case cb0|cb1|cb2|cb3|cb4|cb5 =>
   refine ⟨?_,?_,?_,?_,?_,?_⟩ <;> k_is
  case a43|i43|l43|t43|c43|k43|mk0|kc0|so0___init__|rd0___init__|fc0___init__|mk1|kc1|e1_say|so1___init__|rd1___init__|fc1___init__|mk2|kc2|e2_heeded|e2_say|e2_total|e2_weigh|mk3|kc3|e3_say|mk4|kc4|mk5|kc5|gn|gt|y0|y1|y2|y3|y4 =>
   k_is
  case n0_many|n0_scale|n1_many|n1_scale|n1_top|n1_bottom|n1_tops|n1_under|n2_many|n2_scale|n2_top|n2_bottom|n2_tops|n2_under|n2_share|n2_parts|n3_many|n3_scale|n3_inside|n3_over|n4_many|n4_scale|n4_push|n4_reached|n5_many|n5_scale|n5_hands|n5_head|n5_charged|z0|z1|z2|z3|z4|z5|z6|z7|z8|z9|z10|z11|z12|z13|z14|z15 =>
   (show _ = _; k_is)
  case q0_Hand|q0_Weigher|q1_Hand|q1_Weigher|q2_Hand|q2_Weigher|q3_Hand|q3_Weigher|q4_Hand|q4_Weigher|q5_Hand|q5_Weigher =>
   kit_is
