import PyProof.Rows.All
import Wide.All
import OpenK.AllK
import Wide.FinOn
import Lean
import PyProof.EqAt
import PyProof.EqKinds
import PyProof.TupleCall
import PyProof.NeData
import PyProof.WalkInts
import PyProof.ListRange
import KE.KIntText
import PyProof.DictWalks
import PyProof.DictItems
import KE.KDictList
import PyProof.Rows.SortKeyStr
import PyProof.NeKinds
import PySem.Challenge.RW_heedwise_k83_what_a_book_refuses
set_option Elab.async false
set_option linter.all false
set_option maxRecDepth 100000
namespace L2
open PySem PySem.Spec PyProof.Rows
abbrev Key := Sum Int Str
def keyIs : Key -> Value -> Bool
 | .inl k,v => Value.isInt k v
 | .inr x,v => Value.isStrOf x v
def keyH (w : World) : Key -> Int
 | .inl k => hashInt k
 | .inr x => hashStr w x
theorem Q0L : ∀ {k : Key} {v : Value},keyIs k v = true -> (∃ i t,k = Sum.inl i /\ v = Value.int i t) \/ (∃ x t,k = Sum.inr x /\ v = Value.str x t)
 | .inl i,v,h => by
  obtain ⟨t,e⟩ := Value.isInt_shape (k := i) (v := v) h
  exact .inl ⟨i,t,rfl,e⟩
 | .inr x,v,h => by
  obtain ⟨t,e⟩ := Value.isStrOf_shape (x := x) (v := v) h
  exact .inr ⟨x,t,rfl,e⟩
theorem keyIs_int (i : Int) (t : Tok) : keyIs (.inl i) (.int i t) = true := by simp [keyIs,Value.isInt]
theorem keyIs_str (x : Str) (t : Tok) : keyIs (.inr x) (.str x t) = true := by simp [keyIs,Value.isStrOf]
theorem key_ll (a b : Int) : decide ((Sum.inl a : Key) = Sum.inl b) = (a == b) := by
 by_cases e : a = b
 ·subst e; simp
 ·have h : ¬ (Sum.inl a : Key) = Sum.inl b := λ q => e (Sum.inl.inj q)
  rw [decide_eq_false h]
  exact (beq_eq_false_iff_ne.mpr e).symm
theorem key_rr (a b : Str) : decide ((Sum.inr a : Key) = Sum.inr b) = decide (a = b) := by
 by_cases e : a = b
 ·subst e; simp
 ·have h : ¬ (Sum.inr a : Key) = Sum.inr b := λ q => e (Sum.inr.inj q)
  rw [decide_eq_false h,decide_eq_false e]
theorem key_lr (a : Int) (b : Str) : decide ((Sum.inl a : Key) = Sum.inr b) = false := decide_eq_false (λ q => nomatch q)
theorem key_rl (a : Str) (b : Int) : decide ((Sum.inr a : Key) = Sum.inl b) = false := decide_eq_false (λ q => nomatch q)
def Q0u (prog : Program) (w : World) : PySem.KeyKind prog w Key where
 is := keyIs
 hash := keyH w
 inj := λ v a b ha hb => by
  rcases Q0L ha with ⟨i,t,rfl,rfl⟩ | ⟨x,t,rfl,rfl⟩
  ·rcases Q0L hb with ⟨j,u,rfl,e⟩ | ⟨y,u,rfl,e⟩
   ·injection e with e1 _; rw [e1]
   ·exact nomatch e
  ·rcases Q0L hb with ⟨j,u,rfl,e⟩ | ⟨y,u,rfl,e⟩
   ·exact nomatch e
   ·injection e with e1 _; rw [e1]
 byValue := λ k v h => by
  rcases Q0L h with ⟨i,t,rfl,rfl⟩ | ⟨x,t,rfl,rfl⟩ <;> rfl
 pyHash := λ hv h => by
  rcases Q0L hv with ⟨i,t,rfl,rfl⟩ | ⟨x,t,rfl,rfl⟩
  ·exact wpAny_pyHash_int h
  ·exact wpAny_pyHash_str h
 eqBool := λ hu hv h => by
  rcases Q0L hu with ⟨i,t,rfl,rfl⟩ | ⟨x,t,rfl,rfl⟩
  ·rcases Q0L hv with ⟨j,u,rfl,rfl⟩ | ⟨y,u,rfl,rfl⟩
   ·rw [key_ll] at h; exact wpAny_eqBool_int h
   ·rw [key_lr] at h; exact SeqAt.EqAt.int_str i t y u _ _ _ _ h
  ·rcases Q0L hv with ⟨j,u,rfl,rfl⟩ | ⟨y,u,rfl,rfl⟩
   ·rw [key_rl] at h; exact SeqAt.EqAt.str_int x t j u _ _ _ _ h
   ·rw [key_rr] at h; exact wpAny_eqBool_str h
 «strs» := λ k x t v h => by
  rcases Q0L h with ⟨i,u,rfl,e⟩ | ⟨y,u,rfl,e⟩
  ·exact nomatch e
  ·injection e with e1 _
   subst e1
   cases v <;> rfl
theorem mixKind_int (prog : Program) (w : World) (i : Int) (t : Tok) : (Q0u prog w).is (.inl i) (.int i t) = true := keyIs_int i t
theorem mixKind_str (prog : Program) (w : World) (x : Str) (t : Tok) : (Q0u prog w).is (.inr x) (.str x t) = true := keyIs_str x t
end L2
namespace L2
open PySem PySem.Spec PyProof.Rows
inductive V where
 | non | bl (b : Bool) | int (i : Int) | str (x : Str) | byt (b : Array UInt8) | flt (b : UInt64) | ref (a : Addr) | ty (n : String)
 deriving DecidableEq
def RelV : V -> Value -> Prop
 | .non,u => u = Value.none
 | .bl b,u => u = Value.bool b
 | .int i,u => ∃ t,u = Value.int i t
 | .str x,u => ∃ t,u = Value.str x t
 | .byt b,u => ∃ t,u = Value.bytes b t
 | .flt b,u => ∃ t,u = Value.float b t
 | .ref a,u => u = Value.ref a
 | .ty n,u => u = Value.type n
abbrev Vals : List V -> List Value -> Prop := Paired RelV
theorem Vals.length {xs : List V} {us : List Value} (r : Vals xs us) : xs.length = us.length := Paired.length r
theorem Vals.get : ∀ {xs : List V} {us : List Value} {i : Nat} {x : V},Vals xs us -> xs[i]? = some x -> ∃ u,us[i]? = some u /\ RelV x u
 | _,_,_,_,.nil,e => by simp at e
 | _,_,0,_,.cons r _,e => by simp at e; subst e; exact ⟨_,rfl,r⟩
 | _,_,i + 1,x,.cons _ t,e => by
  obtain ⟨u,h1,h2⟩ := Vals.get (i := i) (x := x) t (by simpa using e)
  exact ⟨u,by simpa using h1,h2⟩
theorem Vals.append : ∀ {xs ys : List V} {us ws : List Value},Vals xs us -> Vals ys ws -> Vals (xs ++ ys) (us ++ ws)
 | _,_,_,_,.nil,s => s
 | _,_,_,_,.cons r t,s => .cons r (Vals.append t s)
theorem Vals.take : ∀ {xs : List V} {us : List Value} (n : Nat),Vals xs us -> Vals (xs.take n) (us.take n)
 | _,_,0,_ => .nil
 | _,_,_ + 1,.nil => .nil
 | _,_,n + 1,.cons r t => .cons r (Vals.take n t)
theorem Vals.drop : ∀ {xs : List V} {us : List Value} (n : Nat),Vals xs us -> Vals (xs.drop n) (us.drop n)
 | _,_,0,r => r
 | _,_,_ + 1,.nil => .nil
 | _,_,n + 1,.cons _ t => Vals.drop n t
def RelO : Option V -> Option Value -> Prop
 | some v,some u => RelV v u
 | none,none => True
 | _,_ => False
def KV {κ : Type} : List (κ × V) -> List (κ × Value) -> Prop := Paired λ (p : κ × V) (q : κ × Value) => p.1 = q.1 /\ RelV p.2 q.2
def kV : Key -> V
 | .inl i => .int i
 | .inr x => .str x
inductive HO where

 | lst (xs : List V)

 | tup (xs : List V)

 | dK (kvs : List (Key × V)) | dT (kvs : List (List Key × V))

 | set (S : Int -> Bool) (n : Nat)

 | ins (C dx : Addr) (fs : List (Str × V))

 | own (x : Addr)

 | xd (fs : List (Str × V))

 | met (f x : Addr)

 | rng (lo hi : Int)

 | frz (o : Obj) (u : HO)

 | tbl (ps : Array Value)

 | ext (φ : Heap -> Prop)
abbrev Hp := Addr -> Option HO
def upd (H : Hp) (a : Addr) (o : HO) : Hp := λ b => if b = a then some o else H b
theorem Q0h {H : Hp} {a : Addr} {o : HO} : upd H a o a = some o := by unfold upd; rw [if_pos rfl]
theorem Q0i {H : Hp} {a b : Addr} {o : HO} (h : b ≠ a) : upd H a o b = H b := by unfold upd; rw [if_neg h]
theorem upd_upd {H : Hp} {a : Addr} {o u : HO} : upd (upd H a o) a u = upd H a u := by
 funext b; unfold upd; split <;> rfl
theorem ne_of {H : Hp} {a b : Addr} {o u : HO} (h : H a = some o) (h' : H b = some u) (d : o ≠ u) : a ≠ b := by
 intro e; subst e; rw [h] at h'; exact d (Option.some.inj h')
theorem Q0r {H : Hp} {a b : Addr} {o : HO} (h : H a = some o) (h' : H b = none) : a ≠ b := by
 intro e; subst e; rw [h] at h'; cases h'
def TupN (h : Heap) (a : Addr) (items : Array Value) : Prop := ∃ o,h.get? a = some o /\ o.dict = none /\ o.cls = .type "tuple" /\ ∃ n,o.data = .seq items n
theorem TupN.t {h : Heap} {a : Addr} {items : Array Value} (x : TupN h a items) : IsTup h a items := let ⟨o,e,_,r⟩ := x; ⟨o,e,r⟩
theorem TupN.new (h : Heap) (items : Array Value) : TupN (h.push { cls := .type "tuple",data := .seq items }) h.objs.size items := ⟨_,Heap.get?_push_size _ rfl,rfl,rfl,_,rfl⟩
section
variable (P : Program) (w : World)
def Q1n (H : Hp) (h : Heap) (a : Addr) : HO -> Prop
 | .lst xs => xs.length <= sizeLine /\ ∃ (its : List Value) (n : Nat),Vals xs its /\ h.get? a = some { cls := .type "list",data := .seq its.toArray n }
 | .tup xs => xs.length <= sizeLine /\ ∃ its : List Value,Vals xs its /\ TupN h a its.toArray
 | .dK kvs => kvs.length <= sizeLine /\ (a == sysModules) = false /\ ∃ vs,KV kvs vs /\ h.DictOf (Q0u P w) a vs
 | .dT kvs => kvs.length <= sizeLine /\ (a == sysModules) = false /\ ∃ xs : List (List Key × Addr × Value),
   Paired (λ (p : List Key × V) (q : List Key × Addr × Value) => p.1 = q.1 /\ H q.2.1 = some (.tup (p.1.map kV)) /\ RelV p.2 q.2.2) kvs xs /\
   ∃ o es ep,h.get? a = some o /\ o.ExactDict /\ o.data = .dict es ep /\ es.toList = xs.map (entryOfKey (tupleKind (Q0u P w))) /\ (xs.map (·.1)).Nodup
 | .set S n => h.SetOf (intKind P w) a S n
 | .ins C dx fs => H dx = some (.own a) /\ fs.length <= 1000 /\ dx ≠ a /\ h.get? a = some (PySem.W.instObj C dx) /\
   ∃ mA,h.Ns1 dx mA /\ (∀ f,RelO (fs.lookup f) (mA f)) /\ PySem.Within mA (fs.map (·.1))
 | .own _ => ∃ o,h.get? a = some o
 | .xd fs => ∃ mA,h.Ns1 a mA /\ ∀ f,RelO (fs.lookup f) (mA f)
 | .rng lo hi => ∃ t u v,h.get? a = some { cls := .type "range",data := .fields #[.int lo t,.int hi u,.int 1 v] }
 | .frz o u => h.get? a = some o /\ Q1n H h a u
 | .tbl ps => h.get? a = some { cls := .none,data := .fields ps }
 | .met f x => h.get? a = some (PySem.W.methodObj (.ref f) (.ref x))
 | .ext φ => φ h /\ (∃ o,h.get? a = some o) /\ ∀ h1 h2 : Heap,φ h1 -> (∀ o,h1.get? a = some o -> h2.get? a = some o) -> φ h2
def HOk (H : Hp) (h : Heap) : Prop := ∀ a o,H a = some o -> Q1n P w H h a o
end
section
variable {P : Program} {w : World} {H H' : Hp} {h h' : Heap} {a : Addr} {o : HO}
theorem Q1n.lt (x : Q1n P w H h a o) : a < h.objs.size := by
 cases o with
 | lst xs => obtain ⟨_,_,_,_,e⟩ := x; exact Heap.lt_size e
 | tup xs => obtain ⟨_,_,_,p⟩ := x; exact p.t.lt
 | dK kvs => obtain ⟨_,_,_,_,o,_,_,e,_⟩ := x; exact Heap.lt_size e
 | dT kvs => obtain ⟨_,_,_,_,o,_,_,e,_⟩ := x; exact Heap.lt_size e
 | set S n => obtain ⟨o,_,_,_,e,_⟩ := x; exact Heap.lt_size e
 | ins C dx fs => obtain ⟨_,_,_,e,_⟩ := x; exact Heap.lt_size e
 | own y => obtain ⟨_,e⟩ := x; exact Heap.lt_size e
 | xd fs => obtain ⟨_,⟨_,_,_,e,_⟩,_⟩ := x; exact Heap.lt_size e
 | rng lo hi => obtain ⟨_,_,_,e⟩ := x; exact Heap.lt_size e
 | frz ob u => obtain ⟨e,_⟩ := x; exact Heap.lt_size e
 | tbl ps => exact Heap.lt_size (show h.get? a = some _ from x)
 | met f y => exact Heap.lt_size (show h.get? a = some _ from x)
 | ext φ => obtain ⟨_,⟨_,e⟩,_⟩ := x; exact Heap.lt_size e
theorem Paired.mapP {α β : Type} {F G : α -> β -> Prop} : ∀ {l₁ : List α} {l₂ : List β},Paired F l₁ l₂ -> (∀ a b,F a b -> G a b) -> Paired G l₁ l₂
 | _,_,.nil,_ => .nil
 | _,_,.cons r t,f => .cons (f _ _ r) (Paired.mapP t f)
theorem Q1n.stay (x : Q1n P w H h a o) (k : ∀ b u,(b = a \/ H b = some (.own a)) -> h.get? b = some u -> h'.get? b = some u)
  (ho : ∀ b,H b = some (.own a) -> H' b = some (.own a)) (ht : ∀ b xs,H b = some (.tup xs) -> H' b = some (.tup xs)) : Q1n P w H' h' a o := by
 induction o with
 | lst xs => obtain ⟨z,its,n,r,e⟩ := x; exact ⟨z,its,n,r,k _ _ (.inl rfl) e⟩
 | tup xs => obtain ⟨z,its,r,ob,e,c⟩ := x; exact ⟨z,its,r,ob,k _ _ (.inl rfl) e,c⟩
 | dK kvs => obtain ⟨z,y,vs,r,ob,es,ep,e,c⟩ := x; exact ⟨z,y,vs,r,ob,es,ep,k _ _ (.inl rfl) e,c⟩
 | dT kvs =>
  obtain ⟨z,y,xs,r,ob,es,ep,e,c⟩ := x
  exact ⟨z,y,xs,Paired.mapP r λ p q z => ⟨z.1,ht _ _ z.2.1,z.2.2⟩,ob,es,ep,k _ _ (.inl rfl) e,c⟩
 | set S n => obtain ⟨ob,es,ep,t,e,c⟩ := x; exact ⟨ob,es,ep,t,k _ _ (.inl rfl) e,c⟩
 | ins C dx fs =>
  obtain ⟨d,z,ne,e,mA,⟨od,es,ep,e2,c⟩,r⟩ := x
  exact ⟨ho _ d,z,ne,k _ _ (.inl rfl) e,mA,⟨od,es,ep,k _ _ (.inr d) e2,c⟩,r⟩
 | own y => obtain ⟨ob,e⟩ := x; exact ⟨ob,k _ _ (.inl rfl) e⟩
 | xd fs => obtain ⟨mA,⟨od,es,ep,e,c⟩,r⟩ := x; exact ⟨mA,⟨od,es,ep,k _ _ (.inl rfl) e,c⟩,r⟩
 | rng lo hi => obtain ⟨t,u,v,e⟩ := x; exact ⟨t,u,v,k _ _ (.inl rfl) e⟩
 | frz ob u ih => obtain ⟨e,q⟩ := x; exact ⟨k _ _ (.inl rfl) e,ih q⟩
 | tbl ps =>
  have e : h.get? a = some { cls := .none,data := .fields ps } := x
  show h'.get? a = some { cls := .none,data := .fields ps }
  exact k a _ (.inl rfl) e
 | met f y =>
  have e : h.get? a = some (PySem.W.methodObj (.ref f) (.ref y)) := x
  show h'.get? a = some (PySem.W.methodObj (.ref f) (.ref y))
  exact k a _ (.inl rfl) e
 | ext φ => obtain ⟨p,⟨o,e⟩,st⟩ := x; exact ⟨st _ _ p λ o q => k _ _ (.inl rfl) q,⟨o,k _ _ (.inl rfl) e⟩,st⟩
theorem HOk.lt (x : HOk P w H h) (e : H a = some o) : a < h.objs.size := (x a o e).lt
theorem HOk.fresh (x : HOk P w H h) (e : h.objs.size <= a) : H a = none := by
 cases q : H a with
 | none => rfl
 | some u => exact absurd (Nat.lt_of_lt_of_le (x.lt q) e) (Nat.lt_irrefl _)
theorem HOk.kept (x : HOk P w H h) (k : ∀ b u,h.get? b = some u -> h'.get? b = some u) : HOk P w H h' := λ a o e =>
 (x a o e).stay (λ b u _ q => k b u q) (λ _ q => q) λ _ _ q => q
theorem HOk.laid (x : HOk P w H h) (k : ∀ b u,h.get? b = some u -> h'.get? b = some u) (hp : h.objs.size <= a) (new : Q1n P w (upd H a o) h' a o) : HOk P w (upd H a o) h' := λ b u e => by
 have hn := x.fresh hp
 by_cases hb : b = a
 ·subst hb; rw [Q0h] at e; cases e; exact new
 ·rw [Q0i hb] at e
  exact (x b u e).stay (λ c v _ q => k c v q) (λ c q => by rw [Q0i (Q0r q hn)]; exact q) λ c xs q => by rw [Q0i (Q0r q hn)]; exact q
end
def Rd (H : Hp) (a : Addr) (u : HO) : Prop := H a = some u \/ ∃ o,H a = some (.frz o u)
theorem Rd.ok {P : Program} {w : World} {H : Hp} {h : Heap} {a : Addr} {u : HO} (r : Rd H a u) (x : HOk P w H h) : Q1n P w H h a u := by
 rcases r with r | ⟨o,r⟩
 ·exact x a u r
 ·obtain ⟨_,q⟩ := x a _ r
  exact q
def Mut : Option HO -> Prop
 | some (.lst _) => True
 | some (.dK _) => True
 | some (.dT _) => True
 | some (.set _ _) => True
 | some (.ins _ _ _) => True
 | some (.ext _) => True
 | _ => False
section
variable {P : Program} {w : World} {H : Hp} {h h' : Heap} {x e : Addr} {o' : HO}
theorem HOk.write (ok : HOk P w H h) (mu : Mut (H x)) (he : e = x \/ H e = some (.own x)) (k : ∀ b u,b ≠ e -> h.get? b = some u -> h'.get? b = some u) (heo : ∃ u,h'.get? e = some u)
  (new : Q1n P w (upd H x o') h' x o') : HOk P w (upd H x o') h' := λ b u q => by
 have nown : ∀ c y,H c = some (.own y) -> c ≠ x := λ c y r z => by subst z; rw [r] at mu; exact mu
 have ntup : ∀ c xs,H c = some (.tup xs) -> c ≠ x := λ c xs r z => by subst z; rw [r] at mu; exact mu
 by_cases hb : b = x
 ·subst hb; rw [Q0h] at q; cases q; exact new
 ·rw [Q0i hb] at q
  by_cases hbe : b = e
  ·have q' : H b = some (.own x) := by
    rcases he with z | z
    ·exact absurd (hbe.trans z) hb
    ·rw [hbe]; exact z
   rw [q] at q'; cases q'
   obtain ⟨v,hv⟩ := heo
   exact ⟨v,by rw [hbe]; exact hv⟩
  ·refine (ok b u q).stay (λ c v hc r => k c v ?_ r) (λ c r => by rw [Q0i (nown c b r)]; exact r) λ c xs r => by rw [Q0i (ntup c xs r)]; exact r
   rcases hc with rfl | hc
   ·exact hbe
   ·rintro rfl
    rcases he with z | z
    ·exact nown c b hc z
    ·rw [hc] at z; cases z; exact hb rfl
end
structure Un (fs ex : List Addr) (H H' : Hp) (h h' : Heap) : Prop where
 keep : ∀ b o,h.get? b = some o -> H b = none -> b ∉ fs -> b ∉ ex -> h'.get? b = some o
 slot : ∀ b o,h.get? b = some o -> H b = none -> b ∈ fs -> b ∉ ex -> ∃ sl,h'.get? b = some { o with slots := sl }
 free : ∀ b o,h.get? b = some o -> H b = none -> b ∉ ex -> H' b = none
 there : ∀ b o,h.get? b = some o -> b ∉ ex -> ∃ o',h'.get? b = some o'
 tups : ∀ b xs,H b = some (.tup xs) -> H' b = some (.tup xs)
 frzs : ∀ b o u,H b = some (.frz o u) -> H' b = some (.frz o u)
 tbls : ∀ b ps,H b = some (.tbl ps) -> ∃ more,H' b = some (.tbl (ps ++ more))
section
variable {fs fs' ex ex' : List Addr} {H H1 H2 : Hp} {h h1 h2 h' : Heap} {a x e : Addr} {o : HO}
theorem Un.any (u : Un fs ex H H1 h h1) {b : Addr} {ob : Obj} (q : h.get? b = some ob) (n : H b = none) (hx : b ∉ ex) : ∃ sl,h1.get? b = some { ob with slots := sl } := by
 by_cases hb : b ∈ fs
 ·exact u.slot b ob q n hb hx
 ·exact ⟨ob.slots,u.keep b ob q n hb hx⟩
theorem Un.kept (k : ∀ b u,h.get? b = some u -> h'.get? b = some u) : Un fs ex H H h h' :=
 ⟨λ b ob q _ _ _ => k b ob q,λ b ob q _ _ _ => ⟨ob.slots,k b ob q⟩,λ _ _ _ n _ => n,λ b ob q _ => ⟨ob,k b ob q⟩,λ _ _ q => q,λ _ _ _ q => q,λ _ ps q => ⟨#[],by rw [q]; simp⟩⟩
theorem Un.refl : Un fs ex H H h h := Un.kept λ _ _ q => q
theorem Un.laid (k : ∀ b u,h.get? b = some u -> h'.get? b = some u) (hp : h.objs.size <= a) (hn : H a = none) : Un fs ex H (upd H a o) h h' where
 keep := λ b u q _ _ _ => k b u q
 slot := λ b u q _ _ _ => ⟨u.slots,k b u q⟩
 free := λ b u q n _ => by rw [Q0i (Nat.ne_of_lt (Nat.lt_of_lt_of_le (Heap.lt_size q) hp))]; exact n
 there := λ b u q _ => ⟨u,k b u q⟩
 tups := λ b xs q => by rw [Q0i (Q0r q hn)]; exact q
 frzs := λ b u xs q => by rw [Q0i (Q0r q hn)]; exact q
 tbls := λ b ps q => ⟨#[],by rw [Q0i (Q0r q hn),q]; simp⟩
theorem Un.write (mu : Mut (H x)) (he : e = x \/ H e = some (.own x)) (k : ∀ b u,b ≠ e -> h.get? b = some u -> h'.get? b = some u) (heo : ∃ u,h'.get? e = some u) : Un fs ex H (upd H x o) h h' := by
 have hx : ∀ b,H b = none -> b ≠ x := λ b n z => by subst z; rw [n] at mu; exact mu
 have hb : ∀ b,H b = none -> b ≠ e := λ b n z => by
  subst z
  rcases he with r | r
  ·exact hx b n r
  ·rw [n] at r; cases r
 have hm : ∀ b u,H b = some u -> ¬ Mut (some u) -> b ≠ x := λ b u q nm z => by subst z; rw [q] at mu; exact nm mu
 refine ⟨λ b u q n _ _ => k b u (hb b n) q,λ b u q n _ _ => ⟨u.slots,k b u (hb b n) q⟩,λ b u q n _ => by rw [Q0i (hx b n)]; exact n,λ b u q _ => ?_,
  λ b xs q => by rw [Q0i (hm b _ q λ z => z)]; exact q,λ b u xs q => by rw [Q0i (hm b _ q λ z => z)]; exact q,λ b ps q => ⟨#[],by rw [Q0i (hm b _ q λ z => z),q]; simp⟩⟩
 by_cases hbe : b = e
 ·subst hbe; exact heo
 ·exact ⟨u,k b u hbe q⟩
end
def trk (h : Heap) (H : Hp) : List Addr := (List.range h.objs.size).filter λ a => (H a).isSome
def hidT (h : Heap) (H : Hp) : Heap := PySem.W.hideAll h (trk h H)
theorem hidT_size (h : Heap) (H : Hp) : (hidT h H).objs.size = h.objs.size := PySem.W.hideAll_size _ _
theorem hidT_get {h : Heap} {H : Hp} {b : Addr} {o : Obj} (e : h.get? b = some o) (n : H b = none) : (hidT h H).get? b = some o :=
 PySem.W.hideAll_get _ e λ hm => by
  have q : (H b).isSome = true := (List.mem_filter.mp hm).2
  rw [n] at q; simp at q
theorem of_hidT {h : Heap} {H : Hp} {b : Addr} {o : Obj} (e : (hidT h H).get? b = some o) : h.get? b = some o /\ H b = none := by
 have e' : h.get? b = some o := PySem.W.of_hideAll (trk h H) e
 refine ⟨e',?_⟩
 cases q : H b with
 | none => rfl
 | some x =>
  have hm : b ∈ trk h H := List.mem_filter.mpr ⟨List.mem_range.mpr (Heap.lt_size e'),by simp [q]⟩
  have z : (hidT h H).get? b = none := PySem.W.hideAll_none (trk h H) hm
  rw [z] at e; cases e
def allNews (g h : Heap) (L : Addr) : List (Addr × Obj) := (List.range h.objs.size).filterMap λ a => if a = L \/ (g.get? a).isSome = true then none else (h.get? a).map λ o => (a,o)
def rest (g h : Heap) (L d : Addr) : List (Addr × Obj) := (allNews g h L).filter λ p => decide (p.1 ≠ d)
end L2
namespace L2
open PySem PySem.Spec PyProof.Rows
structure Mod (K : PySem.W.Frag) (mg : Str -> Option Value) (base : Heap) : Prop where
 kin : K.In base
 glob : base.Ns mainGlobals mg
 blt : ∃ mb,base.Ns builtinsNs mb /\ ∀ x : Str,x ≠ "__name__" -> mb x = bootBuiltins x
 nolimit : base.NoLimit
structure Cx where
 prog : Program
 w : World
 K : PySem.W.Frag
 mg : Str -> Option Value
 base : Heap
 A : Around
 N : List Str
 s₀ : Shared
 H₀ : Hp
 env : Env
 outer : List Env
 stack : List Env
 ex : List Addr
 fn : Str -> Bool
 calm : Bool
 pn : List (Addr × Obj)
 xe : Value -> Shared -> Prop
def frs (l : List Env) : List Addr := l.filterMap (·.frame)
abbrev Cx.fs (X : Cx) : List Addr := frs X.outer
def Vis (sc : Scope) (x : Str) : Prop := sc.names.lookup x = some .local \/ sc.names.lookup x = some .cell \/ sc.names.lookup x = some .free
def Loc (sc : Scope) (x : Str) : Prop := sc.names.lookup x = some .local \/ sc.names.lookup x = some .cell
def Look (env : Env) (h : Heap) (m : Str -> Option Value) (x : Str) (u : Value) : Prop :=
 (env.kindOf x = some .local /\ m x = some u) \/ ((env.kindOf x = some .cell \/ env.kindOf x = some .free) /\ ∃ c,env.cells.lookup x = some c /\ h.IsCell c (some u))
structure Cx.Ok (X : Cx) : Prop where
 mod : Mod X.K X.mg X.base
 kind : X.env.scope.kind = .function
 glob : X.env.globals = mainGlobals
 blt : X.env.builtins = builtinsNs
 above : X.s₀.heap.objs.size <= X.env.locals
 inj : ∀ x y c,X.env.cells.lookup x = some c -> X.env.cells.lookup y = some c -> x = y
 has : ∀ x,(X.env.kindOf x = some .cell \/ X.env.kindOf x = some .free) -> ∃ c,X.env.cells.lookup x = some c
 cab : ∀ x c,X.fn x = true -> X.env.cells.lookup x = some c -> X.s₀.heap.objs.size <= c
 hd : X.calm = true -> X.A.handled = none
 frames : X.A.frames = some X.stack
 stk : X.stack = X.outer \/ (X.stack = X.env :: X.outer /\ X.env.frame = some X.env.locals)
 exf : ∀ b ∈ X.ex,b ≠ X.env.locals /\ ∀ x c,X.env.cells.lookup x = some c -> c ≠ b
 bs : ∀ b o,X.base.get? b = some o -> X.s₀.heap.get? b = some o /\ X.H₀ b = none
 bsz : X.base.objs.size <= X.s₀.heap.objs.size
 noex : ∀ b o,X.base.get? b = some o -> b ∉ X.ex
 exfs : ∀ b ∈ X.ex,b ∉ X.fs
 funs : X.s₀.heap.FunFrames X.base X.outer
 frf : ∀ b ∈ X.fs,X.H₀ b = none
structure Inv (X : Cx) (pins : List (Addr × Obj)) (σ : List (Option V)) (H : Hp) (s : Shared) : Prop where
 ok : X.Ok
 os : s.os = X.s₀.os
 bare : AllBare s.gens
 base : Un X.fs X.ex X.H₀ H X.s₀.heap s.heap
 loc : ∃ m,s.heap.Ns X.env.locals m /\ ∀ (i : Nat) (x : Str) (v : V),X.N[i]? = some x -> σ[i]? = some (some v) -> Vis X.env.scope x -> ∃ u,RelV v u /\ Look X.env s.heap m x u
 cell : ∀ x c,X.env.cells.lookup x = some c -> ∃ v,s.heap.IsCell c v
 free : H X.env.locals = none
 freeC : ∀ x c,X.env.cells.lookup x = some c -> H c = none
 pin : ∀ p ∈ X.pn ++ pins,s.heap.get? p.1 = some p.2 /\ H p.1 = none /\ p.1 ≠ X.env.locals /\ p.1 ∉ X.fs /\ ∀ v,p.2.data ≠ .cell v
 hok : HOk X.prog X.w H s.heap
 len : σ.length = X.N.length
section
variable {X : Cx} {pins : List (Addr × Obj)} {σ : List (Option V)} {H H' : Hp} {s : Shared} {h' : Heap}
theorem Cx.Ok.nofr (ok : X.Ok) {b : Addr} {o : Obj} (e : X.base.get? b = some o) : b ∉ X.fs := λ hb => by
 have := (ok.funs.mem hb).1
 rw [e] at this; cases this
theorem Inv.bs (I : Inv X pins σ H s) : ∀ b o,X.base.get? b = some o -> s.heap.get? b = some o /\ H b = none := λ b o e =>
 ⟨I.base.keep b o (I.ok.bs b o e).1 (I.ok.bs b o e).2 (I.ok.nofr e) (I.ok.noex b o e),I.base.free b o (I.ok.bs b o e).1 (I.ok.bs b o e).2 (I.ok.noex b o e)⟩
theorem Inv.bk (I : Inv X pins σ H s) : ∀ b o,X.base.get? b = some o -> s.heap.get? b = some o := λ b o e => (I.bs b o e).1
theorem Inv.mod (I : Inv X pins σ H s) : Mod X.K X.mg X.base := I.ok.mod
theorem Inv.kIn (I : Inv X pins σ H s) : X.K.In s.heap := I.ok.mod.kin.keeps I.bk
theorem Inv.lt (I : Inv X pins σ H s) : X.env.locals < s.heap.objs.size := let ⟨_,hn,_⟩ := I.loc; hn.lt
theorem Inv.sz (I : Inv X pins σ H s) : X.s₀.heap.objs.size <= s.heap.objs.size := Nat.le_trans I.ok.above (Nat.le_of_lt I.lt)
theorem Inv.nofs (I : Inv X pins σ H s) {a : Addr} (h : s.heap.objs.size <= a) : a ∉ X.fs := λ hb => by
 obtain ⟨_,o,ho,_⟩ := I.ok.funs.mem hb
 exact absurd (Nat.lt_of_lt_of_le (Heap.lt_size ho) (Nat.le_trans I.sz h)) (Nat.lt_irrefl _)
theorem Inv.cne (I : Inv X pins σ H s) : ∀ x c,X.env.cells.lookup x = some c -> c ≠ X.env.locals := λ x c e z => by
 obtain ⟨v,o,ho,hd⟩ := I.cell x c e
 obtain ⟨m,⟨o',es,ep,ho',hd',_⟩,_⟩ := I.loc
 rw [z,ho'] at ho; cases ho; rw [hd'] at hd; cases hd
theorem Inv.funs (I : Inv X pins σ H s) : s.heap.FunFrames X.base X.outer := by
 have all : ∀ (l : List Env),(∀ b ∈ frs l,b ∈ X.fs) -> X.s₀.heap.FunFrames X.base l -> s.heap.FunFrames X.base l := by
  intro l
  induction l with
  | nil => intro _ _; trivial
  | cons env r ih =>
   intro hs hl
   obtain ⟨hk,⟨L,o,hf,hn,ho,hd⟩,hr⟩ := hl
   have hL : L ∈ X.fs := hs L (by unfold frs; rw [List.filterMap_cons,hf]; exact List.mem_cons_self)
   obtain ⟨sl,e⟩ := I.base.slot L o ho (I.ok.frf L hL) hL λ z => I.ok.exfs L z hL
   exact ⟨hk,⟨L,_,hf,hn,e,hd⟩,ih (λ b hb => hs b (by unfold frs; rw [List.filterMap_cons,hf]; exact List.mem_cons_of_mem _ hb)) hr⟩
 exact all X.outer (λ _ hb => hb) I.ok.funs
theorem Inv.stack (I : Inv X pins σ H s) : s.heap.FunFrames X.base X.stack := by
 rcases I.ok.stk with e | ⟨e,hf⟩
 ·rw [e]; exact I.funs
 ·rw [e]
  obtain ⟨m,hn,_⟩ := I.loc
  refine .cons (by rw [I.ok.kind]; decide) hf hn ?_ I.funs
  exact Heap.get?_none_of_le (Nat.le_trans I.ok.bsz I.ok.above)
theorem Inv.stkSub (I : Inv X pins σ H s) : ∀ b ∈ frs X.stack,b ∈ X.env.locals :: X.fs := λ b hb => by
 rcases I.ok.stk with e | ⟨e,hf⟩
 ·rw [e] at hb; exact List.mem_cons_of_mem _ hb
 ·rw [e] at hb
  unfold frs at hb
  rw [List.filterMap_cons,hf] at hb
  exact hb
theorem Inv.stkFree (I : Inv X pins σ H s) : ∀ b ∈ frs X.stack,H b = none := λ b hb => by
 rcases List.mem_cons.mp (I.stkSub b hb) with e | hb
 ·rw [e]; exact I.free
 ·obtain ⟨_,o,ho,_⟩ := I.ok.funs.mem hb
  exact I.base.free b o ho (I.ok.frf b hb) λ z => I.ok.exfs b z hb
theorem Inv.step {g' : Array GenState} {t' : Nat} {d' : Drawn} {ch : List Addr} (I : Inv X pins σ H s)
  (hch : ∀ b ∈ ch,(b ∈ X.ex \/ X.s₀.heap.objs.size <= b) /\ b ≠ X.env.locals /\ (∀ x c,X.env.cells.lookup x = some c -> c ≠ b) /\ ∀ p ∈ X.pn ++ pins,p.1 ≠ b)
  (keep : ∀ b o,b ≠ X.env.locals -> b ∉ X.fs -> b ∉ ch -> s.heap.get? b = some o -> H b = none -> h'.get? b = some o)
  (slot : ∀ b o,b ≠ X.env.locals -> b ∈ X.fs -> b ∉ ch -> s.heap.get? b = some o -> H b = none -> ∃ sl,h'.get? b = some { o with slots := sl }) (free : ∀ b o,b ∉ ch -> s.heap.get? b = some o -> H b = none -> H' b = none)
  (there : ∀ b o,b ∉ ch -> s.heap.get? b = some o -> ∃ o',h'.get? b = some o')
  (tups : ∀ b xs,H b = some (.tup xs) -> H' b = some (.tup xs)) (frzs : ∀ b o u,H b = some (.frz o u) -> H' b = some (.frz o u)) (tbls : ∀ b ps,H b = some (.tbl ps) -> ∃ more,H' b = some (.tbl (ps ++ more)))
  (ns : ∀ m,s.heap.Ns X.env.locals m -> h'.Ns X.env.locals m) (hok : HOk X.prog X.w H' h') (hg : AllBare g') :
  Inv X pins σ H' { s with heap := h',gens := g',drawn := d',toks := t' } := by
 have neL : ∀ b o,X.s₀.heap.get? b = some o -> b ≠ X.env.locals := λ b o e => Nat.ne_of_lt (Nat.lt_of_lt_of_le (Heap.lt_size e) I.ok.above)
 have neC : ∀ b o,X.s₀.heap.get? b = some o -> b ∉ X.ex -> b ∉ ch := λ b o e hx hb => by
  rcases (hch b hb).1 with z | z
  ·exact hx z
  ·exact absurd (Nat.lt_of_lt_of_le (Heap.lt_size e) z) (Nat.lt_irrefl _)
 have cellK : ∀ x c,X.env.cells.lookup x = some c -> ∀ v,s.heap.IsCell c v -> h'.IsCell c v := λ x c e v ⟨o,ho,hd⟩ => by
  have nch : c ∉ ch := λ z => (hch c z).2.2.1 x c e rfl
  by_cases hc : c ∈ X.fs
  ·obtain ⟨sl,q⟩ := slot c o (I.cne x c e) hc nch ho (I.freeC x c e)
   exact ⟨_,q,hd⟩
  ·exact ⟨o,keep c o (I.cne x c e) hc nch ho (I.freeC x c e),hd⟩
 refine ⟨I.ok,I.os,hg,⟨λ b o e n hb hx => ?_,λ b o e n hb hx => ?_,λ b o e n hx => ?_,λ b o e hx => ?_,λ b xs e => tups b xs (I.base.tups b xs e),λ b o xs e => frzs b o xs (I.base.frzs b o xs e),λ b ps e => ?_⟩,?_,λ x c e => ?_,?_,λ x c e => ?_,λ p hp => ?_,hok,I.len⟩
 ·exact keep b o (neL b o e) hb (neC b o e hx) (I.base.keep b o e n hb hx) (I.base.free b o e n hx)
 ·obtain ⟨sl,e1⟩ := I.base.slot b o e n hb hx
  obtain ⟨sl',e2⟩ := slot b _ (neL b o e) hb (neC b o e hx) e1 (I.base.free b o e n hx)
  exact ⟨sl',e2⟩
 ·obtain ⟨o',e1⟩ := I.base.there b o e hx
  exact free b o' (neC b o e hx) e1 (I.base.free b o e n hx)
 ·obtain ⟨o',e1⟩ := I.base.there b o e hx
  exact there b o' (neC b o e hx) e1
 ·obtain ⟨m1,e1⟩ := I.base.tbls b ps e
  obtain ⟨m2,e2⟩ := tbls b _ e1
  exact ⟨m1 ++ m2,by rw [e2,Array.append_assoc]⟩
 ·obtain ⟨m,hn,hl⟩ := I.loc
  refine ⟨m,ns m hn,λ i x v e1 e2 e3 => ?_⟩
  obtain ⟨u,r,l⟩ := hl i x v e1 e2 e3
  refine ⟨u,r,?_⟩
  rcases l with l | ⟨k,c,e,z⟩
  ·exact .inl l
  ·exact .inr ⟨k,c,e,cellK x c e _ z⟩
 ·obtain ⟨v,z⟩ := I.cell x c e
  exact ⟨v,cellK x c e v z⟩
 ·obtain ⟨m,⟨o,_,_,ho,_⟩,_⟩ := I.loc
  exact free _ o (λ z => (hch _ z).2.1 rfl) ho I.free
 ·obtain ⟨v,o,ho,hd⟩ := I.cell x c e
  exact free c o (λ z => (hch c z).2.2.1 x c e rfl) ho (I.freeC x c e)
 ·obtain ⟨e,n,ne,nf,d⟩ := I.pin p hp
  have nch : p.1 ∉ ch := λ z => (hch p.1 z).2.2.2 p hp rfl
  exact ⟨keep p.1 p.2 ne nf nch e n,free p.1 p.2 nch e n,ne,nf,d⟩
theorem Inv.un {t' : Nat} (I : Inv X pins σ H s) (u : Un X.fs [] H H' s.heap h') (hok : HOk X.prog X.w H' h') : Inv X pins σ H' { s with heap := h',toks := t' } := by
 obtain ⟨m,⟨o,es,ep,ho,r⟩,_⟩ := id I.loc
 obtain ⟨sl,hL⟩ := u.any ho I.free (by simp)
 exact I.step (g' := s.gens) (d' := s.drawn) (ch := []) (λ _ z => nomatch z) (λ b o _ hb _ e n => u.keep b o e n hb (by simp)) (λ b o _ hb _ e n => u.slot b o e n hb (by simp)) (λ b o _ e n => u.free b o e n (by simp)) (λ b o _ e => u.there b o e (by simp)) u.tups u.frzs u.tbls (λ m' hm => by
  obtain ⟨o',es',ep',ho',r'⟩ := hm
  rw [ho] at ho'; cases ho'
  exact ⟨_,es',ep',hL,r'⟩) hok I.bare
theorem Inv.call {g' : Array GenState} {t' : Nat} {d' : Drawn} {ch : List Addr} (I : Inv X pins σ H s) (u : Un (frs X.stack) ch H H' s.heap h') (hok : HOk X.prog X.w H' h') (hg : AllBare g')
  (hch : ∀ b ∈ ch,(b ∈ X.ex \/ X.s₀.heap.objs.size <= b) /\ b ≠ X.env.locals /\ (∀ x c,X.env.cells.lookup x = some c -> c ≠ b) /\ ∀ p ∈ X.pn ++ pins,p.1 ≠ b) :
  Inv X pins σ H' { s with heap := h',gens := g',drawn := d',toks := t' } := by
 obtain ⟨m,⟨o,es,ep,ho,r⟩,_⟩ := id I.loc
 obtain ⟨sl,hL⟩ := u.any ho I.free λ z => (hch _ z).2.1 rfl
 exact I.step (ch := ch) hch (λ b o hL hb hc e n => u.keep b o e n (λ z => (List.mem_cons.mp (I.stkSub b z)).elim hL hb) hc) (λ b o _ _ hc e n => u.any e n hc) (λ b o hc e n => u.free b o e n hc) (λ b o hc e => u.there b o e hc) u.tups u.frzs u.tbls (λ m' hm => by
  obtain ⟨o',es',ep',ho',r'⟩ := hm
  rw [ho] at ho'; cases ho'
  exact ⟨_,es',ep',hL,r'⟩) hok hg
theorem Inv.turned {t' : Nat} {it : Addr} (I : Inv X pins σ H s) (k : ∀ b o,b ≠ it -> s.heap.get? b = some o -> h'.get? b = some o) (hn : H it = none) (hL : it ≠ X.env.locals)
  (h1 : it ∈ X.ex \/ X.s₀.heap.objs.size <= it) (h2 : ∀ x c,X.env.cells.lookup x = some c -> c ≠ it) (h3 : ∀ p ∈ X.pn ++ pins,p.1 ≠ it) : Inv X pins σ H { s with heap := h',toks := t' } := by
 have nit : ∀ b u,H b = some u -> b ≠ it := λ b u e z => by rw [z,hn] at e; cases e
 refine I.step (g' := s.gens) (d' := s.drawn) (ch := [it]) (λ b hb => ?_) (λ b o _ _ hc e _ => k b o (λ z => hc (by simp [z])) e) (λ b o _ _ hc e _ => ⟨o.slots,k b o (λ z => hc (by simp [z])) e⟩) (λ _ _ _ _ n => n)
  (λ b o hc e => ⟨o,k b o (λ z => hc (by simp [z])) e⟩) (λ _ _ e => e) (λ _ _ _ e => e) (λ b ps e => ⟨#[],by rw [e]; simp⟩) (λ m hm => ?_) (λ b u e => ?_) I.bare
 ·have e : b = it := by simpa using hb
  subst e
  exact ⟨h1,hL,h2,h3⟩
 ·obtain ⟨o,es,ep,ho,r⟩ := hm
  exact ⟨o,es,ep,k _ o (Ne.symm hL) ho,r⟩
 ·refine (I.hok b u e).stay (λ c v hc q => k c v ?_ q) (λ _ q => q) λ _ _ q => q
  rcases hc with z | z
  ·rw [z]; exact nit b u e
  ·exact nit c _ z
theorem Inv.tok (I : Inv X pins σ H s) (t : Nat) : Inv X pins σ H { s with toks := t } := I.un (h' := s.heap) (t' := t) Un.refl I.hok
theorem Inv.kept {t' : Nat} (I : Inv X pins σ H s) (k : ∀ b u,s.heap.get? b = some u -> h'.get? b = some u) : Inv X pins σ H { s with heap := h',toks := t' } := I.un (Un.kept k) (I.hok.kept k)
theorem Inv.laid {a : Addr} {o : HO} {t' : Nat} (I : Inv X pins σ H s) (k : ∀ b u,s.heap.get? b = some u -> h'.get? b = some u) (hp : s.heap.objs.size <= a) (new : Q1n X.prog X.w (upd H a o) h' a o) :
  Inv X pins σ (upd H a o) { s with heap := h',toks := t' } := I.un (Un.laid k hp (I.hok.fresh hp)) (I.hok.laid k hp new)
theorem Inv.write {x e : Addr} {o : HO} {t' : Nat} (I : Inv X pins σ H s) (mu : Mut (H x)) (he : e = x \/ H e = some (.own x)) (k : ∀ b u,b ≠ e -> s.heap.get? b = some u -> h'.get? b = some u) (heo : ∃ u,h'.get? e = some u)
  (new : Q1n X.prog X.w (upd H x o) h' x o) : Inv X pins σ (upd H x o) { s with heap := h',toks := t' } := I.un (Un.write mu he k heo) (I.hok.write mu he k heo new)
theorem Inv.pins_of {pins' : List (Addr × Obj)} (I : Inv X pins σ H s) (h : ∀ p ∈ pins',s.heap.get? p.1 = some p.2 /\ H p.1 = none /\ p.1 ≠ X.env.locals /\ p.1 ∉ X.fs /\ ∀ v,p.2.data ≠ .cell v) : Inv X pins' σ H s :=
 ⟨I.ok,I.os,I.bare,I.base,I.loc,I.cell,I.free,I.freeC,λ p hp => (List.mem_append.mp hp).elim (λ z => I.pin p (List.mem_append_left _ z)) (h p),I.hok,I.len⟩
theorem nodup_ix {N : List Str} (hN : N.Nodup) {i j : Nat} {x : Str} (a : N[i]? = some x) (b : N[j]? = some x) : i = j := by
 obtain ⟨h1,e1⟩ := List.getElem?_eq_some_iff.mp a
 obtain ⟨h2,e2⟩ := List.getElem?_eq_some_iff.mp b
 exact (List.getElem_inj hN).mp (e1.trans e2.symm)
theorem store_ok2 {M : Model} {A : Around} {E : Value -> Shared -> Prop} {i : Nat} {x : Str} {v : V} {u : Value} {Q : Unit -> Shared -> Prop} (I : Inv X pins σ H s) (hN : X.N.Nodup) (hi : X.N[i]? = some x) (hx : Loc X.env.scope x) (r : RelV v u)
  (h : ∀ s',Inv X pins (σ.set i (some v)) H s' -> (∃ a,Heap.SameBut a s.heap s'.heap /\ (a = X.env.locals \/ X.env.cells.lookup x = some a)) -> Q () s') (hf : X.fn x = true \/ X.env.scope.names.lookup x = some .local := by first | exact .inl rfl | exact .inr rfl | assumption) : wpAny M A (storeName X.env x u) Q E s := by
 obtain ⟨m,hn,hl⟩ := id I.loc
 have hcls : (X.env.scope.kind == .class || (X.env.scope.kind == .module && X.env.locals != X.env.globals)) = false := by rw [I.ok.kind]; rfl
 have hiσ : i < σ.length := by rw [I.len]; exact (List.getElem?_eq_some_iff.mp hi).1
 have cne := I.cne
 have tracked : ∀ {a : Addr} {h' : Heap},(∃ o,s.heap.get? a = some o /\ H a = none) -> Heap.SameBut a s.heap h' -> HOk X.prog X.w H h' := λ {a h'} ha hs b ob e => by
  obtain ⟨_,_,hfree⟩ := ha
  refine (I.hok b ob e).stay (λ c w' hc q => (hs.2 c ?_).trans q) (λ _ q => q) λ _ _ q => q
  rintro rfl
  rcases hc with rfl | hc
  ·rw [hfree] at e; cases e
  ·rw [hfree] at hc; cases hc
 rcases hx with hk | hk
 ·refine wpAny_storeName_local hk hn (λ h' hn' hs => ?_) hcls
  obtain ⟨oL,_,_,hoL,_⟩ := id hn
  refine h _ ⟨I.ok,I.os,I.bare,⟨λ b o e n hb hx => ?_,λ b o e n hb hx => ?_,I.base.free,λ b o e hx => ?_,I.base.tups,I.base.frzs,I.base.tbls⟩,⟨_,hn',λ j y v' e1 e2 e3 => ?_⟩,λ y c e => ?_,I.free,I.freeC,λ p hp => ?_,tracked ⟨oL,hoL,I.free⟩ hs,by simpa using I.len⟩ ⟨_,hs,.inl rfl⟩
  ·exact (hs.2 b (Nat.ne_of_lt (Nat.lt_of_lt_of_le (Heap.lt_size e) I.ok.above))).trans (I.base.keep b o e n hb hx)
  ·obtain ⟨sl,e1⟩ := I.base.slot b o e n hb hx
   exact ⟨sl,(hs.2 b (Nat.ne_of_lt (Nat.lt_of_lt_of_le (Heap.lt_size e) I.ok.above))).trans e1⟩
  ·obtain ⟨o',e1⟩ := I.base.there b o e hx
   exact ⟨o',(hs.2 b (Nat.ne_of_lt (Nat.lt_of_lt_of_le (Heap.lt_size e) I.ok.above))).trans e1⟩
  ·by_cases hj : j = i
   ·subst hj
    rw [hi] at e1; cases e1
    rw [List.getElem?_set_self hiσ] at e2
    cases e2
    exact ⟨u,r,.inl ⟨hk,by simp⟩⟩
   ·rw [List.getElem?_set_ne (Ne.symm hj)] at e2
    obtain ⟨u',r',q⟩ := hl j y v' e1 e2 e3
    refine ⟨u',r',?_⟩
    rcases q with ⟨k,e⟩ | ⟨k,c,e,z⟩
    ·refine .inl ⟨k,?_⟩
     have : y ≠ x := λ e => hj (nodup_ix hN e1 (e ▸ hi))
     simp [this,e]
    ·exact .inr ⟨k,c,e,z.sameBut hs (cne y c e)⟩
  ·obtain ⟨w',z⟩ := I.cell y c e
   exact ⟨w',z.sameBut hs (cne y c e)⟩
  ·obtain ⟨e,n,ne,nf,d⟩ := I.pin p hp
   exact ⟨(hs.2 p.1 ne).trans e,n,ne,nf,d⟩
 ·have hfn : X.fn x = true := by
   rcases hf with z | z
   ·exact z
   ·rw [z] at hk; cases hk
  obtain ⟨c,hc⟩ := I.ok.has x (.inl hk)
  obtain ⟨w',z⟩ := I.cell x c hc
  refine wpAny_storeName_cell I.ok.kind hk hc z (λ h' hc' hs => ?_)
  obtain ⟨oc,hoc,hocd⟩ := id z
  refine h { s with heap := h' } ⟨I.ok,I.os,I.bare,⟨λ b o e n hb hx => ?_,λ b o e n hb hx => ?_,I.base.free,λ b o e hx => ?_,I.base.tups,I.base.frzs,I.base.tbls⟩,⟨m,hn.sameBut hs (Ne.symm (cne x c hc)),λ j y v' e1 e2 e3 => ?_⟩,λ y c' e => ?_,I.free,I.freeC,λ p hp => ?_,tracked ⟨oc,hoc,I.freeC x c hc⟩ hs,by simpa using I.len⟩ ⟨c,hs,.inr hc⟩
  ·exact (hs.2 b (Nat.ne_of_lt (Nat.lt_of_lt_of_le (Heap.lt_size e) (I.ok.cab x c hfn hc)))).trans (I.base.keep b o e n hb hx)
  ·obtain ⟨sl,e1⟩ := I.base.slot b o e n hb hx
   exact ⟨sl,(hs.2 b (Nat.ne_of_lt (Nat.lt_of_lt_of_le (Heap.lt_size e) (I.ok.cab x c hfn hc)))).trans e1⟩
  ·obtain ⟨o',e1⟩ := I.base.there b o e hx
   exact ⟨o',(hs.2 b (Nat.ne_of_lt (Nat.lt_of_lt_of_le (Heap.lt_size e) (I.ok.cab x c hfn hc)))).trans e1⟩
  ·by_cases hj : j = i
   ·subst hj
    rw [hi] at e1; cases e1
    rw [List.getElem?_set_self hiσ] at e2
    cases e2
    exact ⟨u,r,.inr ⟨.inl hk,c,hc,hc'⟩⟩
   ·rw [List.getElem?_set_ne (Ne.symm hj)] at e2
    obtain ⟨u',r',q⟩ := hl j y v' e1 e2 e3
    refine ⟨u',r',?_⟩
    rcases q with q | ⟨k,c',e,z'⟩
    ·exact .inl q
    ·refine .inr ⟨k,c',e,z'.sameBut hs ?_⟩
     rintro rfl
     exact hj (nodup_ix hN e1 (I.ok.inj _ _ _ e hc ▸ hi))
  ·by_cases hcc : c' = c
   ·subst hcc; exact ⟨_,hc'⟩
   ·obtain ⟨w2,z2⟩ := I.cell y c' e
    exact ⟨w2,z2.sameBut hs hcc⟩
  ·obtain ⟨e,n,ne,nf,d⟩ := I.pin p hp
   refine ⟨(hs.2 p.1 ?_).trans e,n,ne,nf,d⟩
   intro q
   rw [q,hoc] at e
   have q' : oc = p.2 := Option.some.inj e
   exact d w' (by rw [<- q']; exact hocd)
theorem Q3Y {M : Model} {A : Around} {E : Value -> Shared -> Prop} {i : Nat} {x : Str} {v : V} {u : Value} {Q : Unit -> Shared -> Prop} (I : Inv X pins σ H s) (hN : X.N.Nodup) (hi : X.N[i]? = some x) (hx : Loc X.env.scope x) (r : RelV v u)
  (h : ∀ s',Inv X pins (σ.set i (some v)) H s' -> Q () s') (hf : X.fn x = true \/ X.env.scope.names.lookup x = some .local := by first | exact .inl rfl | exact .inr rfl | assumption) : wpAny M A (storeName X.env x u) Q E s :=
 store_ok2 I hN hi hx r (λ s' I' _ => h s' I') hf
theorem Inv.call' {s' : Shared} {ch : List Addr} (I : Inv X pins σ H s) (ho : s'.os = s.os) (u : Un (frs X.stack) ch H H' s.heap s'.heap) (hok : HOk X.prog X.w H' s'.heap) (hg : AllBare s'.gens)
  (hch : ∀ b ∈ ch,(b ∈ X.ex \/ X.s₀.heap.objs.size <= b) /\ b ≠ X.env.locals /\ (∀ x c,X.env.cells.lookup x = some c -> c ≠ b) /\ ∀ p ∈ X.pn ++ pins,p.1 ≠ b) : Inv X pins σ H' s' := by
 obtain ⟨h',g',d',t',o'⟩ := s'
 have e : o' = s.os := ho
 subst e
 exact I.call (g' := g') (t' := t') (d' := d') u hok hg hch
end
abbrev XK := Value -> Option Addr -> Hp -> Prop
abbrev St := List (Option V)
abbrev VK := V -> Hp -> Prop
abbrev TE := St -> Hp -> VK -> Prop
abbrev TT := St -> Hp -> (Bool -> Hp -> Prop) -> Prop
abbrev TA := St -> Hp -> (List V -> Hp -> Prop) -> Prop
structure Ends where
 nx : St -> Hp -> Prop
 rt : VK
 bk : St -> Hp -> Prop := λ _ _ => False
 ct : St -> Hp -> Prop := λ _ _ => False
abbrev TS := Ends -> St -> Hp -> Prop
def EP (X : Cx) (pins : List (Addr × Obj)) (σ : St) (Q : VK) (u : Value) (s' : Shared) : Prop := ∃ v H',Inv X pins σ H' s' /\ RelV v u /\ Q v H'
def TP (X : Cx) (pins : List (Addr × Obj)) (σ : St) (Q : Bool -> Hp -> Prop) (b : Bool) (s' : Shared) : Prop := ∃ H',Inv X pins σ H' s' /\ Q b H'
def AP (X : Cx) (pins : List (Addr × Obj)) (σ : St) (Q : List V -> Hp -> Prop) (us : List Value) (s' : Shared) : Prop := ∃ vs H',Inv X pins σ H' s' /\ Vals vs us /\ Q vs H'
def SP (X : Cx) (pins : List (Addr × Obj)) (D : Ends) (f : Flow) (s' : Shared) : Prop :=
 match f with
 | .next => ∃ σ' H',Inv X pins σ' H' s' /\ D.nx σ' H'
 | .brk => ∃ σ' H',Inv X pins σ' H' s' /\ D.bk σ' H'
 | .cont => ∃ σ' H',Inv X pins σ' H' s' /\ D.ct σ' H'
 | .ret u => ∃ v σ' H',Inv X pins σ' H' s' /\ RelV v u /\ D.rt v H'
def PE (X : Cx) (e : Expr) (t : TE) : Prop :=
 ∀ (pins : List (Addr × Obj)) (s : Shared) (σ : St) (H : Hp) (Q : VK),Inv X pins σ H s -> t σ H Q -> wpAny (model X.prog X.w) X.A (eval e X.env) (EP X pins σ Q) X.xe s
def PT (X : Cx) (e : Expr) (t : TT) : Prop :=
 ∀ (pins : List (Addr × Obj)) (s : Shared) (σ : St) (H : Hp) (Q : Bool -> Hp -> Prop),Inv X pins σ H s -> t σ H Q -> wpAny (model X.prog X.w) X.A (isTrue e X.env (eval e X.env)) (TP X pins σ Q) X.xe s
def PW (X : Cx) (e : Expr) (t : TT) : Prop :=
 ∀ (whole : Sem Value) (pins : List (Addr × Obj)) (s : Shared) (σ : St) (H : Hp) (Q : Bool -> Hp -> Prop),Inv X pins σ H s -> t σ H Q -> wpAny (model X.prog X.w) X.A (isTrue e X.env whole) (TP X pins σ Q) X.xe s
theorem PW.pt {X : Cx} {e : Expr} {t : TT} (h : PW X e t) : PT X e t := h _
def PA (X : Cx) (es : List Expr) (t : TA) : Prop :=
 ∀ (pos : Pos) (pins : List (Addr × Obj)) (s : Shared) (σ : St) (H : Hp) (Q : List V -> Hp -> Prop),Inv X pins σ H s -> t σ H Q -> wpAny (model X.prog X.w) X.A (spliced (backTo pos (starEach es X.env))) (AP X pins σ Q) X.xe s
def PS (X : Cx) (st : Stmt) (t : TS) : Prop :=
 ∀ (pins : List (Addr × Obj)) (s : Shared) (σ : St) (H : Hp) (D : Ends),Inv X pins σ H s -> t D σ H -> wpAny (model X.prog X.w) X.A (exec st X.env) (SP X pins D) X.xe s
def PSs (X : Cx) (st : List Stmt) (t : TS) : Prop :=
 ∀ (pins : List (Addr × Obj)) (s : Shared) (σ : St) (H : Hp) (D : Ends),Inv X pins σ H s -> t D σ H -> wpAny (model X.prog X.w) X.A (execs st X.env) (SP X pins D) X.xe s
theorem thn {α : Type} {t : Sem α} {Q Q' : α -> Shared -> Prop} {M : Model} {A : Around} {E : Value -> Shared -> Prop} {s : Shared} (h : wpAny M A t Q E s) (hQ : ∀ a s,Q a s -> Q' a s) : wpAny M A t Q' E s := wpAny_mono h hQ λ _ _ x => x
end L2
namespace L2
open PySem PySem.Spec PyProof.Rows
section
variable {X : Cx}
def tVar (i : Nat) : TE := λ σ H Q => ∃ v,σ[i]? = some (some v) /\ Q v H
def tC (v : V) : TE := λ _ H Q => Q v H
theorem pe_var {i : Nat} {x : Str} {pos : Pos} (hN : X.N[i]? = some x) (hv : Vis X.env.scope x) (hd : (x == ("__debug__" : Str)) = false := by decide) (hcd : (x == ("__classdict__" : Str)) = false := by decide) : PE X (.Name x pos) (tVar i) := by
 intro pins s σ H Q I h
 obtain ⟨v,e,h⟩ := h
 obtain ⟨m,hn,hl⟩ := I.loc
 obtain ⟨u,r,l⟩ := hl i x v hN e hv
 have fin : EP X pins σ Q u s := ⟨v,H,I,r,h⟩
 rcases l with ⟨hk,hm⟩ | ⟨hk,c,hc,hcell⟩
 ·exact wpAny_Name (wpAny_loadName_local I.ok.kind hk hn hm fin) hd
 ·rcases hk with hk | hk
  ·exact wpAny_Name (wpAny_loadName_cell I.ok.kind hk hc hcell fin) hd
  ·exact wpAny_Name (wpAny_loadName_free I.ok.kind hk hc hcell fin hcd) hd
theorem pe_int {i j pos} : PE X (.Constant (.int i) j pos) (tC (.int i)) := λ _ _ _ H _ I h => wpAny_Constant_int ⟨.int i,H,I.tok _,⟨_,rfl⟩,h⟩
theorem pe_bl {b j pos} : PE X (.Constant (.bool b) j pos) (tC (.bl b)) := λ _ _ _ H _ I h => Constant_bool ⟨.bl b,H,I,rfl,h⟩
theorem pe_non {j pos} : PE X (.Constant .none j pos) (tC .non) := λ _ _ _ H _ I h => Constant_none ⟨.non,H,I,rfl,h⟩
theorem pe_str {x j pos} : PE X (.Constant (.str x) j pos) (tC (.str x)) := λ _ _ _ H _ I h => Calls.Constant_str ⟨.str x,H,I.tok _,⟨_,rfl⟩,h⟩
def Gl (X : Cx) (x : Str) : Prop := X.env.kindOf x = some .globalImplicit
theorem Q2v {E : Value -> Shared -> Prop} {pins : List (Addr × Obj)} {s : Shared} {σ : St} {H : Hp} {x : Str} {u : Value} {pos : Pos} {Q : Value -> Shared -> Prop} (I : Inv X pins σ H s) (hg : Gl X x) (hm : X.mg x = some u) (h : Q u s)
  (hd : (x == ("__debug__" : Str)) = false := by decide) : wpAny (model X.prog X.w) X.A (eval (.Name x pos) X.env) Q E s :=
 Calls.Name_function_global I.ok.kind hg (Calls.loadGlobal_global (by rw [I.ok.glob]; exact I.mod.glob.keeps I.bk) hm h) hd
theorem Q3p {E : Value -> Shared -> Prop} {pins : List (Addr × Obj)} {s : Shared} {σ : St} {H : Hp} {x : Str} {u : Value} {pos : Pos} {Q : Value -> Shared -> Prop} (I : Inv X pins σ H s) (hg : Gl X x) (hm : X.mg x = none) (hv : bootBuiltins x = some u) (h : Q u s)
  (hn : x ≠ "__name__" := by decide) (hd : (x == ("__debug__" : Str)) = false := by decide) : wpAny (model X.prog X.w) X.A (eval (.Name x pos) X.env) Q E s := by
 obtain ⟨mb,h1,h2⟩ := I.mod.blt
 exact Calls.Name_function_global I.ok.kind hg (Calls.loadGlobal_builtin (by rw [I.ok.glob]; exact I.mod.glob.keeps I.bk) hm (by rw [I.ok.blt]; exact h1.keeps I.bk) ((h2 x hn).trans hv) h) hd
theorem pe_glob {x : Str} {v : V} {u : Value} {pos : Pos} (hg : Gl X x) (hm : X.mg x = some u) (r : RelV v u) (hd : (x == ("__debug__" : Str)) = false := by decide) : PE X (.Name x pos) (tC v) :=
 λ _ _ _ H _ I h => Q2v I hg hm ⟨v,H,I,r,h⟩ hd
theorem pe_bltn {x : Str} {v : V} {u : Value} {pos : Pos} (hg : Gl X x) (hm : X.mg x = none) (hv : bootBuiltins x = some u) (r : RelV v u) (hn : x ≠ "__name__" := by decide) (hd : (x == ("__debug__" : Str)) = false := by decide) : PE X (.Name x pos) (tC v) :=
 λ _ _ _ H _ I h => Q3p I hg hm hv ⟨v,H,I,r,h⟩ hn hd
variable {a b : Expr} {ta tb : TE} {pos : Pos}
variable {tA tB' : TT} {rest : List Expr}
def tNot (t : TT) : TT := λ σ H Q => t σ H λ c H1 => Q (!c) H1
theorem pw_and1 (ha : PT X a tA) : PW X (.BoolOp .And [a] pos) tA := by
 intro wh pins s σ H Q I h
 refine isTrue_and (thn (ha pins s σ H Q I h) λ c s1 e => ?_)
 cases c with
 | true => exact isTrue_and_nil e
 | false => exact e
theorem pw_or1 (ha : PT X a tA) : PW X (.BoolOp .Or [a] pos) tA := by
 intro wh pins s σ H Q I h
 refine isTrue_or (thn (ha pins s σ H Q I h) λ c s1 e => ?_)
 cases c with
 | false => exact isTrue_or_nil e
 | true => exact e
theorem pt_not (ha : PT X a tA) : PT X (.UnaryOp .Not a pos) (tNot tA) := by
 intro pins s σ H Q I h
 exact isTrue_not (ha pins s σ H (λ c H1 => Q (!c) H1) I h)
def tNotV (ta : TE) : TE := λ σ H Q => ta σ H λ x H1 => ∃ c,x = .bl c /\ Q (.bl (!c)) H1
theorem pe_one {op} {t : TE} (h : PE X a t) : PE X (.BoolOp op [a] pos) t := λ pins s σ H Q I hw => BoolOp_one (h pins s σ H Q I hw)
theorem pe_not (ha : PE X a ta) : PE X (.UnaryOp .Not a pos) (tNotV ta) := by
 intro pins s σ H Q I h
 refine UnaryOp_ (thn (ha pins s σ H _ I h) λ v s1 ⟨x,H1,I1,r1,q1⟩ => ?_)
 obtain ⟨c,rfl,q1⟩ := q1
 cases r1
 exact not_of (wpAny_truthy_bool ⟨.bl (!c),H1,I1,rfl,q1⟩)
end
end L2
namespace L2
open PySem PySem.Spec PyProof.Rows
def SqL (K : PySem.W.Frag) (H : Hp) (a : Addr) (xs : List V) : Prop :=
 Rd H a (.lst xs) \/
  ∃ (o : Obj) (its : Array Value) (n : Nat),K.lookup a = some o /\ o.cls = .type "list" /\ o.dict = none /\ o.data = .seq its n /\ its.size <= sizeLine /\ Vals xs its.toList
def SqT (K : PySem.W.Frag) (H : Hp) (a : Addr) (xs : List V) : Prop :=
 Rd H a (.tup xs) \/
  ∃ (o : Obj) (its : Array Value) (n : Nat),K.lookup a = some o /\ o.cls = .type "tuple" /\ o.dict = none /\ o.data = .seq its n /\ its.size <= sizeLine /\ Vals xs its.toList
def absV : Value -> Option V
 | .none => some .non
 | .bool b => some (.bl b)
 | .int i _ => some (.int i)
 | .str x _ => some (.str x)
 | .bytes b _ => some (.byt b)
 | .float b _ => some (.flt b)
 | .ref a => some (.ref a)
 | .type n => some (.ty n)
 | _ => none
theorem RelV.abs {x : V} {u : Value} (r : RelV x u) : absV u = some x := by
 cases x with
 | non => cases r; rfl
 | bl _ => cases r; rfl
 | int _ => obtain ⟨t,rfl⟩ := r; rfl
 | str _ => obtain ⟨t,rfl⟩ := r; rfl
 | byt _ => obtain ⟨t,rfl⟩ := r; rfl
 | flt _ => obtain ⟨t,rfl⟩ := r; rfl
 | ref _ => cases r; rfl
 | ty _ => cases r; rfl
theorem RelV.inj {x y : V} {u : Value} (r : RelV x u) (q : RelV y u) : x = y := Option.some.inj (r.abs.symm.trans q.abs)
theorem Vals.inj : ∀ {xs ys : List V} {us : List Value},Vals xs us -> Vals ys us -> xs = ys
 | _,_,_,.nil,.nil => rfl
 | _,_,_,.cons r t,.cons r' t' => by rw [r.inj r',Vals.inj t t']
section
variable {X : Cx} {pins : List (Addr × Obj)} {σ : St} {H : Hp} {s : Shared} {a : Addr} {xs ys : List V}
theorem SqL.of {K : PySem.W.Frag} (h : H a = some (.lst xs)) : SqL K H a xs := .inl (.inl h)
theorem SqT.of {K : PySem.W.Frag} (h : H a = some (.tup xs)) : SqT K H a xs := .inl (.inl h)
theorem Inv.list (I : Inv X pins σ H s) (h : SqL X.K H a xs) : ∃ its : List Value,Vals xs its /\ PlainL s.heap a its.toArray /\ xs.length <= sizeLine := by
 rcases h with h | ⟨o,its,n,hk,hc,hd,hs,hz,r⟩
 ·obtain ⟨z,its,n,r,e⟩ := h.ok I.hok
  exact ⟨its,r,⟨_,n,e,rfl,rfl,rfl⟩,z⟩
 ·refine ⟨its.toList,r,⟨o,n,I.kIn a o hk,hc,hd,by simpa using hs⟩,?_⟩
  have e := r.length
  simp only [Array.length_toList] at e
  omega
theorem Inv.tuple (I : Inv X pins σ H s) (h : SqT X.K H a xs) : ∃ its : List Value,Vals xs its /\ IsTup s.heap a its.toArray /\ xs.length <= sizeLine := by
 rcases h with h | ⟨o,its,n,hk,hc,_,hs,hz,r⟩
 ·obtain ⟨z,its,r,p⟩ := h.ok I.hok
  exact ⟨its,r,p.t,z⟩
 ·refine ⟨its.toList,r,⟨o,I.kIn a o hk,hc,n,by simpa using hs⟩,?_⟩
  have e := r.length
  simp only [Array.length_toList] at e
  omega
theorem Inv.tupN (I : Inv X pins σ H s) (h : SqT X.K H a xs) : ∃ its : List Value,Vals xs its /\ TupN s.heap a its.toArray /\ xs.length <= sizeLine := by
 rcases h with h | ⟨o,its,n,hk,hc,hd,hs,hz,r⟩
 ·obtain ⟨z,its,r,p⟩ := h.ok I.hok
  exact ⟨its,r,p,z⟩
 ·refine ⟨its.toList,r,⟨o,I.kIn a o hk,hd,hc,n,by simpa using hs⟩,?_⟩
  have e := r.length
  simp only [Array.length_toList] at e
  omega
theorem Inv.list_inj (I : Inv X pins σ H s) (h : SqL X.K H a xs) (h' : SqL X.K H a ys) : xs = ys := by
 obtain ⟨its,r,⟨o,n,e,_,_,d⟩,_⟩ := I.list h
 obtain ⟨its',r',⟨o',n',e',_,_,d'⟩,_⟩ := I.list h'
 rw [e] at e'; cases e'
 rw [d] at d'
 injection d' with d1 _
 have : its = its' := by simpa using congrArg Array.toList d1
 subst this
 exact r.inj r'
theorem Inv.tuple_inj (I : Inv X pins σ H s) (h : SqT X.K H a xs) (h' : SqT X.K H a ys) : xs = ys := by
 obtain ⟨its,r,⟨o,e,_,n,d⟩,_⟩ := I.tuple h
 obtain ⟨its',r',⟨o',e',_,n',d'⟩,_⟩ := I.tuple h'
 rw [e] at e'; cases e'
 rw [d] at d'
 injection d' with d1 _
 have : its = its' := by simpa using congrArg Array.toList d1
 subst this
 exact r.inj r'
end
abbrev Cx.wish (X : Cx) (E : Value -> Shared -> Prop) : Cx := { X with xe := E }
abbrev Cx.nox (X : Cx) : Cx := X.wish λ _ _ => False
theorem Cx.Ok.wish {X : Cx} (ok : X.Ok) (E : Value -> Shared -> Prop) : (X.wish E).Ok :=
 ⟨ok.mod,ok.kind,ok.glob,ok.blt,ok.above,ok.inj,ok.has,ok.cab,ok.hd,ok.frames,ok.stk,ok.exf,ok.bs,ok.bsz,ok.noex,ok.exfs,ok.funs,ok.frf⟩
theorem Cx.Ok.unwish {X : Cx} {E : Value -> Shared -> Prop} (ok : (X.wish E).Ok) : X.Ok :=
 ⟨ok.mod,ok.kind,ok.glob,ok.blt,ok.above,ok.inj,ok.has,ok.cab,ok.hd,ok.frames,ok.stk,ok.exf,ok.bs,ok.bsz,ok.noex,ok.exfs,ok.funs,ok.frf⟩
section
variable {X : Cx} {pins : List (Addr × Obj)} {σ : St} {H : Hp} {s : Shared} {E : Value -> Shared -> Prop}
theorem Inv.wish (I : Inv X pins σ H s) (E : Value -> Shared -> Prop) : Inv (X.wish E) pins σ H s := ⟨I.ok.wish E,I.os,I.bare,I.base,I.loc,I.cell,I.free,I.freeC,I.pin,I.hok,I.len⟩
theorem Inv.unwish (I : Inv (X.wish E) pins σ H s) : Inv X pins σ H s := ⟨I.ok.unwish,I.os,I.bare,I.base,I.loc,I.cell,I.free,I.freeC,I.pin,I.hok,I.len⟩
theorem SP.unwish {D : Ends} {f : Flow} {s' : Shared} (h : SP (X.wish E) pins D f s') : SP X pins D f s' := by
 cases f with
 | next => obtain ⟨σ',H',I,q⟩ := h; exact ⟨σ',H',I.unwish,q⟩
 | brk => obtain ⟨σ',H',I,q⟩ := h; exact ⟨σ',H',I.unwish,q⟩
 | cont => obtain ⟨σ',H',I,q⟩ := h; exact ⟨σ',H',I.unwish,q⟩
 | ret u => obtain ⟨v,σ',H',I,r,q⟩ := h; exact ⟨v,σ',H',I.unwish,r,q⟩
theorem PSs.nox {st : List Stmt} {t : TS} (h : PSs X.nox st t) : PSs X st t := λ pins s σ H D I hw =>
 wpAny_mono (h pins s σ H D (I.wish _) hw) (λ _ _ q => q.unwish) λ _ _ z => False.elim z
end
section
variable {X : Cx} {st : Stmt} {rest : List Stmt} {t u : TS} {e : Expr} {te : TE} {pos : Pos}
def tNext : TS := λ D σ H => D.nx σ H
def tSeq (t u : TS) : TS := λ D σ H => t { D with nx := u D } σ H
theorem pss_nil : PSs X [] tNext := λ _ _ σ H _ I h => wpAny_execs_nil ⟨σ,H,I,h⟩
theorem pss_cons (h1 : PS X st t) (h2 : PSs X rest u) : PSs X (st :: rest) (tSeq t u) := by
 intro pins s σ H D I h
 refine wpAny_execs_cons (thn (h1 pins s σ H { D with nx := u D } I h) λ f s1 q => ?_)
 cases f with
 | next =>
  obtain ⟨σ',H',I',q⟩ := q
  exact h2 pins s1 σ' H' D I' q
 | ret v => exact q
 | brk => exact q
 | cont => exact q
theorem Inv.quiet {pins : List (Addr × Obj)} {σ : St} {H : Hp} {s : Shared} (I : Inv X pins σ H s) : interactive X.env = false := by simp [interactive,I.ok.kind]
def tDrop (te : TE) : TS := λ D σ H => te σ H λ _ H1 => D.nx σ H1
theorem Q3z (he : PE X e te) (hs : swapsWith e none pos.line X.env = pure false := by rfl) : PS X (.Expr e pos) (tDrop te) := by
 intro pins s σ H D I h
 exact wpAny_Expr_any (thn (he pins s σ H _ I h) λ v s1 ⟨x,H1,I1,r1,q1⟩ => ⟨σ,H1,I1,q1⟩) I.quiet hs
def tRet (te : TE) : TS := λ D σ H => te σ H D.rt
theorem ps_ret (he : PE X e te) : PS X (.Return (some e) pos) (tRet te) := by
 intro pins s σ H D I h
 exact wpAny_Return_some (thn (he pins s σ H _ I h) λ v s1 ⟨x,H1,I1,r1,q1⟩ => ⟨x,σ,H1,I1,r1,q1⟩)
def tIfS (c : TT) (t u : TS) : TS := λ D σ H => c σ H λ b H1 => if b = true then t D σ H1 else u D σ H1
theorem ps_if {c : Expr} {a b : List Stmt} {tc : TT} (hc : PT X c tc) (ha : PSs X a t) (hb : PSs X b u) : PS X (.If c a b pos) (tIfS tc t u) := by
 intro pins s σ H D I h
 refine wpAny_If (thn (hc pins s σ H _ I h) λ d s1 ⟨H1,I1,q1⟩ => ?_)
 cases d with
 | true => exact ha pins s1 σ H1 D I1 q1
 | false => exact hb pins s1 σ H1 D I1 q1
end
abbrev TG := V -> St -> Hp -> (St -> Hp -> Prop) -> Prop
abbrev TGs := List V -> St -> Hp -> (St -> Hp -> Prop) -> Prop
def PG (X : Cx) (target : Expr) (t : TG) : Prop :=
 ∀ (pins : List (Addr × Obj)) (s : Shared) (σ : St) (H : Hp) (v : V) (u : Value) (Q : St -> Hp -> Prop),Inv X pins σ H s -> RelV v u -> t v σ H Q ->
  wpAny (model X.prog X.w) X.A (assign target X.env u) (λ _ s' => ∃ σ' H',Inv X pins σ' H' s' /\ Q σ' H') X.xe s
def PGs (X : Cx) (ts : List Expr) (t : TGs) : Prop :=
 ∀ (pins : List (Addr × Obj)) (s : Shared) (σ : St) (H : Hp) (vs : List V) (us : List Value) (Q : St -> Hp -> Prop),Inv X pins σ H s -> Vals vs us -> t vs σ H Q ->
  wpAny (model X.prog X.w) X.A (assignInOrder ((assignEach ts X.env).map (·.2)) us) (λ _ s' => ∃ σ' H',Inv X pins σ' H' s' /\ Q σ' H') X.xe s
section
variable {X : Cx} {pos : Pos}
def gName (i : Nat) : TG := λ v σ H Q => Q (σ.set i (some v)) H
theorem pg_name {i : Nat} {x : Str} (hN : X.N.Nodup) (hi : X.N[i]? = some x) (hx : Loc X.env.scope x) (hf : X.fn x = true \/ X.env.scope.names.lookup x = some .local := by first | exact .inl rfl | exact .inr rfl | assumption) : PG X (.Name x pos) (gName i) := by
 intro pins s σ H v u Q I r h
 exact wpAny_assign_Name (Q3Y I hN hi hx r (λ s' I' => ⟨_,H,I',h⟩) hf)
def gNil : TGs := λ vs σ H Q => vs = [] /\ Q σ H
def gCons (t : TG) (u : TGs) : TGs := λ vs σ H Q => ∃ v r,vs = v :: r /\ t v σ H λ σ' H' => u r σ' H' Q
theorem pgs_nil : PGs X [] gNil := by
 intro pins s σ H vs us Q I r h
 obtain ⟨e,h⟩ := h
 subst e
 cases r
 exact assignInOrder_nil ⟨σ,H,I,h⟩
theorem pgs_cons {e : Expr} {es : List Expr} {t : TG} {u : TGs} (h1 : PG X e t) (h2 : PGs X es u)
  (hs : (assignEach (e :: es) X.env).map (·.2) = assign e X.env :: (assignEach es X.env).map (·.2) := by rfl) : PGs X (e :: es) (gCons t u) := by
 intro pins s σ H vs us Q I r h
 obtain ⟨v,vr,e1,h⟩ := h
 subst e1
 cases r with
 | cons r rr =>
  rw [hs]
  refine assignInOrder_cons (thn (h1 pins s σ H _ _ _ I r h) λ _ s1 ⟨σ1,H1,I1,q1⟩ => ?_)
  exact h2 pins s1 σ1 H1 _ _ Q I1 rr q1
def gTup (K : PySem.W.Frag) (n : Nat) (t : TGs) : TG := λ v σ H Q => ∃ a xs,v = .ref a /\ SqT K H a xs /\ xs.length = n /\ t xs σ H Q
theorem pg_tup {es : List Expr} {k : Nat} {t : TGs} {n : Nat} (hc : X.calm = true) (h : PGs X es t)
  (hn : (assignEach es X.env).length = n := by rfl) (hst : (assignEach es X.env).findIdx? (·.1) = none := by rfl) : PG X (.Tuple es k pos) (gTup X.K n t) := by
 intro pins s σ H v u Q I r hw
 obtain ⟨a,xs,e1,hq,hl,hw⟩ := hw
 subst e1
 cases r
 obtain ⟨its,rv,ht,hz⟩ := I.tuple hq
 refine assign_Tuple_tuple (I.ok.hd hc) ht (by simp [hn,<- hl,rv.length]) hst λ h' hx => ?_
 have I1 : Inv X pins σ H { s with heap := h' } := I.kept (t' := s.toks) λ b o e => hx b o (Nat.ne_of_lt (Heap.lt_size e)) e
 exact h pins _ σ H xs _ Q I1 (by simpa using rv) hw
def tAsg (te : TE) (g : TG) : TS := λ D σ H => te σ H λ x H1 => g x σ H1 D.nx
theorem ps_asg {tg e : Expr} {te : TE} {g : TG} (he : PE X e te) (hg : PG X tg g) (hs : swapsWithSole [tg] e pos.line X.env = pure false := by rfl) (hw : swappedStores [tg] e X.env = pure none := by rfl)
  (h1 : (assignEach [tg] X.env).map (·.2) = [assign tg X.env] := by rfl) : PS X (.Assign [tg] e pos) (tAsg te g) := by
 intro pins s σ H D I h
 refine wpAny_Assign_stores (thn (he pins s σ H _ I h) λ v s1 ⟨x,H1,I1,r1,q1⟩ => ?_) hs hw
 rw [h1]
 exact thn (hg pins s1 σ H1 x v _ I1 r1 q1) λ _ s2 q => q
theorem ps_set {i : Nat} {x : Str} {e : Expr} {te : TE} {pos' : Pos} (hN : X.N.Nodup) (hi : X.N[i]? = some x) (hx : Loc X.env.scope x) (he : PE X e te) (hs : swapsWith e (some (.Name x pos')) pos.line X.env = pure false := by rfl) (hf : X.fn x = true \/ X.env.scope.names.lookup x = some .local := by first | exact .inl rfl | exact .inr rfl | assumption) :
  PS X (.Assign [.Name x pos'] e pos) (tAsg te (gName i)) := by
 intro pins s σ H D I h
 refine wpAny_Assign_Name (thn (he pins s σ H _ I h) λ v s1 ⟨y,H1,I1,r1,q1⟩ => ?_) hs
 exact Q3Y I1 hN hi hx r1 (λ s2 I2 => ⟨_,H1,I2,q1⟩) hf
end
section
variable {X : Cx} {pos : Pos}
end
structure It where
 go : Nat -> Hp -> Prop
 yld : Nat -> Hp -> V -> Hp -> Prop
 stop : Nat -> Hp -> Prop
def FpOk (X : Cx) (pins : List (Addr × Obj)) (H : Hp) (b : Addr) : Prop :=
 H b = none /\ b ≠ X.env.locals /\ b ∉ X.fs /\ (b ∈ X.ex \/ X.s₀.heap.objs.size <= b) /\ (∀ x c,X.env.cells.lookup x = some c -> c ≠ b) /\ ∀ p ∈ X.pn ++ pins,p.1 ≠ b
theorem Inv.fpOk {X : Cx} {pins : List (Addr × Obj)} {σ : St} {H H' : Hp} {s : Shared} {b : Addr} (I : Inv X pins σ H s) (hb : s.heap.objs.size <= b) (hn : H' b = none) : FpOk X pins H' b := by
 refine ⟨hn,Nat.ne_of_gt (Nat.lt_of_lt_of_le I.lt hb),I.nofs hb,.inr (Nat.le_trans I.sz hb),λ x c e z => ?_,λ p hp z => ?_⟩
 ·obtain ⟨v,q⟩ := I.cell x c e
  exact absurd (Nat.lt_of_lt_of_le q.lt (by rw [z]; exact hb)) (Nat.lt_irrefl _)
 ·exact absurd (Nat.lt_of_lt_of_le (Heap.lt_size (I.pin p hp).1) (by rw [z]; exact hb)) (Nat.lt_irrefl _)
structure Turn (P : Program) (w : World) (K : PySem.W.Frag) (tg : Expr) (J : It) (fp : List Addr) (it : Addr) (tn : Nat -> Heap -> Prop) : Prop where
 mem : it ∈ fp
 obj : ∀ i h,tn i h -> ∀ b ∈ fp,∃ o,h.get? b = some o /\ ∀ v,o.data ≠ .cell v
 keep : ∀ i h h',tn i h -> (∀ b ∈ fp,∀ o,h.get? b = some o -> h'.get? b = some o) -> tn i h'
 item : ∀ (X : Cx),X.prog = P -> X.w = w -> X.K = K -> X.calm = true -> ∀ (i : Nat) (pins : List (Addr × Obj)) (s : Shared) (σ : St) (H : Hp) (E : Value -> Shared -> Prop),Inv X pins σ H s -> (∀ b ∈ fp,FpOk X pins H b) -> tn i s.heap -> J.go i H ->
  wpAny (model P w) X.A (pyNext (.ref it)) (λ r s1 => ∃ u,r = some u /\
   wpAny (model P w) X.A (letOwnedTupleGo tg (.ref it) u) (λ _ s2 => ∃ x H',Inv X pins σ H' s2 /\ RelV x u /\ J.yld i H x H' /\ tn (i + 1) s2.heap /\ ∀ b ∈ fp,H' b = none) E s1) E s
 done : ∀ (X : Cx),X.prog = P -> X.w = w -> X.K = K -> X.calm = true -> ∀ (i : Nat) (pins : List (Addr × Obj)) (s : Shared) (σ : St) (H : Hp) (E : Value -> Shared -> Prop),Inv X pins σ H s -> (∀ b ∈ fp,FpOk X pins H b) -> tn i s.heap -> J.stop i H ->
  wpAny (model P w) X.A (pyNext (.ref it)) (λ r s1 => r = none /\ Inv X pins σ H s1) E s
 self : ∀ (A : Around) (i : Nat) (s : Shared) (Q : Value -> Shared -> Prop) (E : Value -> Shared -> Prop),tn i s.heap -> Q (.ref it) s -> wpAny (model P w) A (pyIter (.ref it)) Q E s
abbrev TI := St -> Hp -> (It -> Hp -> Prop) -> Prop
def PIE (X : Cx) (pins : List (Addr × Obj)) (σ : St) (tg : Expr) (R : It -> Hp -> Prop) (itv : Value) (s2 : Shared) : Prop :=
 ∃ (it : Addr) (fp : List Addr) (tn : Nat -> Heap -> Prop) (J : It) (H' : Hp),itv = .ref it /\ Inv X pins σ H' s2 /\ Turn X.prog X.w X.K tg J fp it tn /\ tn 0 s2.heap /\ (∀ b ∈ fp,FpOk X pins H' b) /\ R J H'
def PI (X : Cx) (tg iter : Expr) (wi : TI) : Prop :=
 ∀ (pins : List (Addr × Obj)) (s : Shared) (σ : St) (H : Hp) (R : It -> Hp -> Prop),Inv X pins σ H s -> wi σ H R ->
  wpAny (model X.prog X.w) X.A (eval iter X.env) (λ v s1 => wpAny (model X.prog X.w) X.A (pyIter v) (PIE X pins σ tg R) X.xe s1) X.xe s
theorem go_of {M : Model} {A : Around} {E : Value -> Shared -> Prop} {s : Shared} {tg : Expr} {it : Addr} {u : Value} {o : Obj} {n : String} {vs : Array Value} {Q : Unit -> Shared -> Prop} (ho : s.heap.get? it = some o) (hc : o.cls = .type n) (hd : o.data = .fields vs)
    (hn : ["enumerate","zip","dict_itemiterator","dict_reverseitemiterator","odict_iterator","itertools.zip_longest","itertools.pairwise"].contains n = false) (hQ : Q () s) : wpAny M A (letOwnedTupleGo tg (.ref it) u) Q E s := by
  unfold letOwnedTupleGo
  cases tg <;> first
    | exact wpAny_pure hQ
    | (cases u <;> first
        | exact wpAny_pure hQ
        | (refine wpAny_bind (wpAny_load ho ?_)
           rw [hc,hd]
           show wpAny M A (if (["enumerate","zip","dict_itemiterator","dict_reverseitemiterator","odict_iterator","itertools.zip_longest","itertools.pairwise"].contains n && vs[0]? == some (rawInt _)) = true then _ else _) Q E s
           rw [if_neg (by intro h; rw [hn,Bool.false_and] at h; cases h)]
           exact wpAny_pure hQ))
def Itl (K : PySem.W.Frag) (a : Addr) : It :=
 ⟨λ i H => ∃ xs x,SqL K H a xs /\ xs[i]? = some x,λ i H x H' => H' = H /\ ∀ xs,SqL K H a xs -> xs[i]? = some x,λ i H => ∃ xs,SqL K H a xs /\ xs.length <= i⟩
def Itt (K : PySem.W.Frag) (a : Addr) : It :=
 ⟨λ i H => ∃ xs x,SqT K H a xs /\ xs[i]? = some x,λ i H x H' => H' = H /\ ∀ xs,SqT K H a xs -> xs[i]? = some x,λ i H => ∃ xs,SqT K H a xs /\ xs.length <= i⟩
def Itr (lo : Int) (n : Nat) : It := ⟨λ i _ => i < n,λ i H x H' => H' = H /\ x = .int (lo + i),λ i _ => n <= i⟩
theorem turn_list {P : Program} {w : World} {K : PySem.W.Frag} {tg : Expr} (a it : Addr) : Turn P w K tg (Itl K a) [it] it (λ i h => h.IsListIter it a i) where
 mem := by simp
 obj := λ i h st b hb => by
  have e : b = it := by simpa using hb
  subst e
  obtain ⟨o,e,c,d⟩ := st
  exact ⟨o,e,λ v z => by rw [d] at z; cases z⟩
 keep := λ i h h' st k => st.at λ o e => k it (by simp) o e
 item := by
  intro X hP hw hK hc i pins s σ H E I hf st hg
  subst hP hw hK
  obtain ⟨xs,x,hq,hx⟩ := hg
  obtain ⟨its,rv,p,hz⟩ := I.list hq
  obtain ⟨u,hu,ru⟩ := rv.get hx
  obtain ⟨f0,f1,f2,f3,f4,f5⟩ := hf it (by simp)
  refine wpAny_pyNext_list_item st p.isList (x := u) (by simpa using hu) λ h' st' sb => ?_
  have I1 : Inv X pins σ H { s with heap := h' } := I.turned (t' := s.toks) (λ b o hb e => (sb.2 b hb).trans e) f0 f1 f3 f4 f5
  obtain ⟨o,e,c,d⟩ := id st'
  exact ⟨u,rfl,go_of (s := { s with heap := h' }) e c d (by decide) ⟨x,H,I1,ru,⟨rfl,λ ys hy => by rw [I.list_inj hy hq]; exact hx⟩,st',λ b hb => (hf b hb).1⟩⟩
 done := by
  intro X hP hw hK hc i pins s σ H E I hf st hg
  subst hP hw hK
  obtain ⟨xs,hq,hx⟩ := hg
  obtain ⟨its,rv,p,hz⟩ := I.list hq
  obtain ⟨f0,f1,f2,f3,f4,f5⟩ := hf it (by simp)
  have hl := rv.length
  exact wpAny_pyNext_list_end (I.ok.hd hc) st p.isList (by simp; omega) λ h' eb => ⟨rfl,I.turned (t' := s.toks) (λ b o hb e => eb b o hb e) f0 f1 f3 f4 f5⟩
 self := λ _ _ _ _ _ st h => wpAny_pyIter_listiter st h
theorem turn_tuple {P : Program} {w : World} {K : PySem.W.Frag} {tg : Expr} (a it : Addr) : Turn P w K tg (Itt K a) [it] it (λ i h => h.IsTupleIter it a i) where
 mem := by simp
 obj := λ i h st b hb => by
  have e : b = it := by simpa using hb
  subst e
  obtain ⟨o,e,c,d⟩ := st
  exact ⟨o,e,λ v z => by rw [d] at z; cases z⟩
 keep := λ i h h' st k => st.at λ o e => k it (by simp) o e
 item := by
  intro X hP hw hK hc i pins s σ H E I hf st hg
  subst hP hw hK
  obtain ⟨xs,x,hq,hx⟩ := hg
  obtain ⟨its,rv,p,hz⟩ := I.tuple hq
  obtain ⟨u,hu,ru⟩ := rv.get hx
  obtain ⟨f0,f1,f2,f3,f4,f5⟩ := hf it (by simp)
  refine wpAny_pyNext_tuple_item st (show s.heap.IsTuple a its.toArray from p) (x := u) (by simpa using hu) λ h' st' sb => ?_
  have I1 : Inv X pins σ H { s with heap := h' } := I.turned (t' := s.toks) (λ b o hb e => (sb.2 b hb).trans e) f0 f1 f3 f4 f5
  obtain ⟨o,e,c,d⟩ := id st'
  exact ⟨u,rfl,go_of (s := { s with heap := h' }) e c d (by decide) ⟨x,H,I1,ru,⟨rfl,λ ys hy => by rw [I.tuple_inj hy hq]; exact hx⟩,st',λ b hb => (hf b hb).1⟩⟩
 done := by
  intro X hP hw hK hc i pins s σ H E I hf st hg
  subst hP hw hK
  obtain ⟨xs,hq,hx⟩ := hg
  obtain ⟨its,rv,p,hz⟩ := I.tuple hq
  obtain ⟨f0,f1,f2,f3,f4,f5⟩ := hf it (by simp)
  have hl := rv.length
  exact wpAny_pyNext_tuple_end (I.ok.hd hc) st (show s.heap.IsTuple a its.toArray from p) (by simp; omega) λ h' eb => ⟨rfl,I.turned (t' := s.toks) (λ b o hb e => eb b o hb e) f0 f1 f3 f4 f5⟩
 self := λ _ _ _ _ _ st h => wpAny_pyIter_tupleiter st h
theorem turn_range {P : Program} {w : World} {K : PySem.W.Frag} {tg : Expr} (it : Addr) (lo : Int) (n : Nat) : Turn P w K tg (Itr lo n) [it] it (λ i h => IsRangeIter h it (lo + (i : Nat) * 1) ((n : Int) - (i : Nat)) 1) where
 mem := by simp
 obj := λ i h st b hb => by
  have e : b = it := by simpa using hb
  subst e
  exact ⟨_,st,λ v z => by
   have z' : Data.fields _ = Data.cell v := z
   cases z'⟩
 keep := λ i h h' st k => k it (by simp) _ st
 item := by
  intro X hP hw hK hc i pins s σ H E I hf st hg
  subst hP hw hK
  obtain ⟨f0,f1,f2,f3,f4,f5⟩ := hf it (by simp)
  have W := Walks.range (prog := X.prog) (w := X.w) (I.ok.hd hc) it lo 1 n
  refine W.item i s _ _ hg st λ v h' tk hv st' kk => ?_
  obtain ⟨t,rfl⟩ := hv
  have I1 : Inv X pins σ H { s with heap := h',toks := tk } := I.turned (λ b o hb e => kk b o (by simpa using hb) e) f0 f1 f3 f4 f5
  refine ⟨_,rfl,go_of (s := { s with heap := h',toks := tk }) (n := "range_iterator") st' rfl rfl (by decide) ⟨.int (lo + i),H,I1,⟨t,?_⟩,⟨rfl,rfl⟩,st',λ b hb => (hf b hb).1⟩⟩
  rw [Int.mul_one]
 done := by
  intro X hP hw hK hc i pins s σ H E I hf st hg
  subst hP hw hK
  obtain ⟨f0,f1,f2,f3,f4,f5⟩ := hf it (by simp)
  exact wpAny_pyNext_range_end (I.ok.hd hc) st (by have : n <= i := hg; omega) λ h' eb => ⟨rfl,I.turned (t' := s.toks) (λ b o hb e => eb b o hb e) f0 f1 f3 f4 f5⟩
 self := λ _ _ _ _ _ st h => wpAny_pyIter_rangeiter st h
end L2
namespace L2
open PySem PySem.Spec PyProof.Rows
section
variable {X : Cx} {tg : Expr}
def iList (K : PySem.W.Frag) (tl : TE) : TI := λ σ H R => tl σ H λ x H1 => ∃ a,x = .ref a /\ (∃ xs,SqL K H1 a xs) /\ R (Itl K a) H1
def iTup (K : PySem.W.Frag) (tl : TE) : TI := λ σ H R => tl σ H λ x H1 => ∃ a,x = .ref a /\ (∃ xs,SqT K H1 a xs) /\ R (Itt K a) H1
theorem pi_list {l : Expr} {tl : TE} (hl : PE X l tl) : PI X tg l (iList X.K tl) := by
 intro pins s σ H R I h
 refine thn (hl pins s σ H _ I h) λ v s1 ⟨x,H1,I1,r1,q1⟩ => ?_
 obtain ⟨a,e,⟨xs,hq⟩,q⟩ := q1
 subst e
 cases r1
 obtain ⟨its,rv,p,hz⟩ := I1.list hq
 refine wpAny_pyIter_list p.isList ?_
 refine ⟨s1.heap.objs.size,[s1.heap.objs.size],_,_,H1,rfl,I1.kept (t' := s1.toks) λ b o e => Heap.get?_push_of_some _ e,turn_list a _,⟨_,Heap.get?_push_size _ rfl,rfl,rfl⟩,λ b hb => ?_,q⟩
 have e : b = s1.heap.objs.size := by simpa using hb
 subst e
 exact I1.fpOk (Nat.le_refl _) (I1.hok.fresh (Nat.le_refl _))
theorem pi_tup {l : Expr} {tl : TE} (hl : PE X l tl) : PI X tg l (iTup X.K tl) := by
 intro pins s σ H R I h
 refine thn (hl pins s σ H _ I h) λ v s1 ⟨x,H1,I1,r1,q1⟩ => ?_
 obtain ⟨a,e,⟨xs,hq⟩,q⟩ := q1
 subst e
 cases r1
 obtain ⟨its,rv,p,hz⟩ := I1.tuple hq
 refine wpAny_pyIter_tuple (show s1.heap.IsTuple a its.toArray from p) ?_
 refine ⟨s1.heap.objs.size,[s1.heap.objs.size],_,_,H1,rfl,I1.kept (t' := s1.toks) λ b o e => Heap.get?_push_of_some _ e,turn_tuple a _,⟨_,Heap.get?_push_size _ rfl,rfl,rfl⟩,λ b hb => ?_,q⟩
 have e : b = s1.heap.objs.size := by simpa using hb
 subst e
 exact I1.fpOk (Nat.le_refl _) (I1.hok.fresh (Nat.le_refl _))
theorem range_it {pins : List (Addr × Obj)} {σ : St} {H : Hp} {s : Shared} {R : It -> Hp -> Prop} {E : Value -> Shared -> Prop} {lo hi : Int} {t u v : Tok} {tk : Nat} (I : Inv X pins σ H s) (h1 : -(2 ^ 62) <= lo) (h2 : lo < 2 ^ 62) (h3 : -(2 ^ 62) <= hi) (h4 : hi < 2 ^ 62)
  (q : R (Itr lo (hi - lo).toNat) H) : wpAny (model X.prog X.w) X.A (pyIter (.ref s.heap.objs.size)) (PIE X pins σ tg R) E { s with heap := s.heap.push { cls := .type "range",data := .fields #[.int lo t,.int hi u,.int 1 v] },toks := tk } := by
 refine wpAny_pyIter_range (IsRange.new ..) (small_one h1 h2 h3 h4) ?_
 have I1 : Inv X pins σ H { s with heap := s.heap.push { cls := .type "range",data := .fields #[.int lo t,.int hi u,.int 1 v] },toks := tk } := I.kept λ b o e => Heap.get?_push_of_some _ e
 refine ⟨(s.heap.push { cls := .type "range",data := .fields #[.int lo t,.int hi u,.int 1 v] }).objs.size,[(s.heap.push { cls := .type "range",data := .fields #[.int lo t,.int hi u,.int 1 v] }).objs.size],_,_,H,rfl,
  I1.kept (t' := tk) λ b o e => Heap.get?_push_of_some _ e,turn_range _ lo (hi - lo).toNat,?_,λ b hb => ?_,q⟩
 ·have e1 : lo + ((0 : Nat) : Int) * 1 = lo := by simp
  have e2 : (((hi - lo).toNat : Nat) : Int) - ((0 : Nat) : Int) = Builtin.Range.rangeSize lo hi 1 := by rw [rangeSize_one]; split <;> omega
  show IsRangeIter _ _ (lo + ((0 : Nat) : Int) * 1) ((((hi - lo).toNat : Nat) : Int) - ((0 : Nat) : Int)) 1
  rw [e1,e2]
  exact Heap.get?_push_size _ rfl
 ·have e : b = (s.heap.push { cls := .type "range",data := .fields #[.int lo t,.int hi u,.int 1 v] }).objs.size := by simpa using hb
  subst e
  exact I1.fpOk (Nat.le_refl _) (I1.hok.fresh (Nat.le_refl _))
def iRng1 (ta : TA) : TI := λ σ H R => ta σ H λ vs H1 => ∃ j : Int,vs = [.int j] /\ -(2 ^ 62) <= j /\ j < 2 ^ 62 /\ R (Itr 0 j.toNat) H1
theorem pi_range1 {a : Expr} {ta : TA} {p pos : Pos} (hg : Gl X "range") (hm : X.mg "range" = none) (ha : PA X [a] ta) (hs : starEach [a] X.env = [(false,eval a X.env)] := by rfl) : PI X tg (.Call (.Name "range" p) [a] [] pos) (iRng1 ta) := by
 intro pins s σ H R I h
 refine Call_ (Q3p I hg hm boot_range (PyProof.Rows.callWith_type1 (thn (ha pos pins s σ H _ I h) λ us s1 ⟨vs,H1,I1,r1,q1⟩ => ?_) hs rfl))
 obtain ⟨j,e,q1,q2,q⟩ := q1
 subst e
 cases r1 with
 | cons r rr =>
  cases rr
  obtain ⟨t,rfl⟩ := r
  exact call_range_1 (range_it I1 (by omega) (by omega) q1 q2 (by simpa using q))
def tFor (wi : TI) (g : TG) (tb : TS) : TS := λ D σ H => wi σ H λ J H1 => ∃ W : Nat -> Nat -> St -> Hp -> Prop,(∃ m,W 0 m σ H1) /\ ∀ i m σ H,W i m σ H ->
 (J.stop i H /\ D.nx σ H) \/ (J.go i H /\ ∃ N : St -> Hp -> Prop,(∀ σ' H',N σ' H' -> ∃ m',m' < m /\ W (i + 1) m' σ' H') /\ ∀ x H',J.yld i H x H' -> g x σ H' λ σ2 H2 => tb { D with nx := N,ct := N,bk := D.nx } σ2 H2)
def Q3j (fp : List Addr) (h : Heap) : List (Addr × Obj) := fp.filterMap λ b => (h.get? b).map λ o => (b,o)
theorem Q2L {fp : List Addr} {h : Heap} {b : Addr} {o : Obj} (hb : b ∈ fp) (e : h.get? b = some o) : (b,o) ∈ Q3j fp h := List.mem_filterMap.mpr ⟨b,hb,by rw [e]; rfl⟩
theorem of_pinsAt {fp : List Addr} {h : Heap} {p : Addr × Obj} (hp : p ∈ Q3j fp h) : p.1 ∈ fp /\ h.get? p.1 = some p.2 := by
 obtain ⟨b,hb,e⟩ := List.mem_filterMap.mp hp
 cases q : h.get? b with
 | none => rw [q] at e; cases e
 | some o =>
  rw [q] at e
  have e' : (b,o) = p := Option.some.inj e
  subst e'
  exact ⟨hb,q⟩
theorem Inv.pinned {pins : List (Addr × Obj)} {σ : St} {H : Hp} {s : Shared} {fp : List Addr} (I : Inv X pins σ H s) (hf : ∀ b ∈ fp,FpOk X pins H b) (ho : ∀ b ∈ fp,∃ o,s.heap.get? b = some o /\ ∀ v,o.data ≠ .cell v) : Inv X (pins ++ Q3j fp s.heap) σ H s :=
 I.pins_of λ p hp => (List.mem_append.mp hp).elim (λ z => I.pin p (List.mem_append_right _ z)) λ z => by
  obtain ⟨hb,e⟩ := of_pinsAt z
  obtain ⟨f0,f1,f2,_⟩ := hf p.1 hb
  obtain ⟨o,e',d⟩ := ho p.1 hb
  rw [e] at e'; cases e'
  exact ⟨e,f0,f1,f2,d⟩
theorem Inv.unpinned {pins pl : List (Addr × Obj)} {σ : St} {H : Hp} {s : Shared} (I : Inv X (pins ++ pl) σ H s) : Inv X pins σ H s := I.pins_of λ p hp => I.pin p (List.mem_append_right _ (List.mem_append_left _ hp))
theorem ps_for {iter : Expr} {body : List Stmt} {wi : TI} {g : TG} {tb : TS} {pos : Pos} (hp : PassesOwn (model X.prog X.w) X.A X.env X.xe) (hc : X.calm = true) (hi : PI X tg iter wi) (hg : PG X tg g) (hb : PSs X body tb)
  (hs : ∀ x,foldedSetIterable iter X.env x = pure x := by intro _; rfl) : PS X (.For tg iter body [] pos) (tFor wi g tb) := by
 intro pins s σ H D I h
 refine wpAny_For (thn (hi pins s σ H _ I h) λ v s1 h1 => thn h1 λ itv s2 h2 => ?_) hs
 obtain ⟨it,fp,tn,J,H2,e,I2,T,st2,f2,W,⟨m0,w0⟩,turn⟩ := h2
 subst e
 -- what stays true of the iterator's objects through the loop
 have stat : ∀ {H' : Hp},(∀ b ∈ fp,H' b = none) -> ∀ b ∈ fp,FpOk X pins H' b := λ hn b hb => ⟨hn b hb,(f2 b hb).2⟩
 refine codeAny_forLoop_any (λ n s' => ∃ i σ' H',Inv X pins σ' H' s' /\ tn i s'.heap /\ (∀ b ∈ fp,H' b = none) /\ W i n σ' H') ?_ m0 ⟨0,σ,H2,I2,st2,λ b hb => (f2 b hb).1,w0⟩
 rintro n s3 ⟨i,σ3,H3,I3,st3,fr3,w3⟩
 rcases turn i n σ3 H3 w3 with ⟨stop,qn⟩ | ⟨go,N,hN,step⟩
 ·refine wpAny_passesOwn hp (thn (T.done X rfl rfl rfl hc i pins s3 σ3 H3 X.xe I3 (stat fr3) st3 stop) λ r s4 ⟨hr,I4⟩ => ?_)
  subst hr
  exact wpAny_execs_nil ⟨σ3,H3,I4,qn⟩
 ·refine wpAny_passesOwn hp (thn (T.item X rfl rfl rfl hc i pins s3 σ3 H3 X.xe I3 (stat fr3) st3 go) λ r s4 ⟨u,hr,h4⟩ => ?_)
  subst hr
  refine wpAny_passesOwn hp (thn h4 λ _ s5 ⟨x,H5,I5,r5,y5,st5,fr5⟩ => ?_)
  have I5' := I5.pinned (stat fr5) (T.obj _ _ st5)
  refine wpAny_passesOwn hp (thn (hg _ s5 σ3 H5 x u _ I5' r5 (step x H5 y5)) λ _ s6 ⟨σ6,H6,I6,q6⟩ => ?_)
  refine wpAny_passesOwn hp (thn (hb _ s6 σ6 H6 _ I6 q6) λ f s7 q7 => ?_)
  have again : ∀ {σ7 : St} {H7 : Hp},Inv X (pins ++ Q3j fp s5.heap) σ7 H7 s7 -> N σ7 H7 -> ∃ m,m < n /\ ∃ i σ' H',Inv X pins σ' H' s7 /\ tn i s7.heap /\ (∀ b ∈ fp,H' b = none) /\ W i m σ' H' := λ {σ7 H7} I7 n7 => by
   obtain ⟨m',hm,w7⟩ := hN σ7 H7 n7
   refine ⟨m',hm,i + 1,σ7,H7,I7.unpinned,T.keep _ _ _ st5 λ b hb o e => (I7.pin (b,o) (List.mem_append_right _ (List.mem_append_right _ (Q2L hb e)))).1,λ b hb => ?_,w7⟩
   obtain ⟨o,e,d⟩ := T.obj _ _ st5 b hb
   exact (I7.pin (b,o) (List.mem_append_right _ (List.mem_append_right _ (Q2L hb e)))).2.1
  cases f with
  | next => obtain ⟨σ7,H7,I7,n7⟩ := q7; exact again I7 n7
  | cont => obtain ⟨σ7,H7,I7,n7⟩ := q7; exact again I7 n7
  | brk => obtain ⟨σ7,H7,I7,q7⟩ := q7; exact ⟨σ7,H7,I7.unpinned,q7⟩
  | ret v => obtain ⟨x7,σ7,H7,I7,r7,q7⟩ := q7; exact ⟨x7,σ7,H7,I7.unpinned,r7,q7⟩
end
end L2
namespace L2
open PySem PySem.Spec PyProof.Rows
abbrev R2 := V -> V -> Hp -> VK -> Prop
def OpR (X : Cx) (f : Value -> Value -> Sem Value) (r : R2) : Prop :=
 ∀ (pins : List (Addr × Obj)) (s : Shared) (σ : St) (H : Hp) (x y : V) (v u : Value) (Q : VK),Inv X pins σ H s -> RelV x v -> RelV y u -> r x y H Q ->
  wpAny (model X.prog X.w) X.A (f v u) (EP X pins σ Q) X.xe s
def UnR (X : Cx) (f : Value -> Sem Value) (r : V -> Hp -> VK -> Prop) : Prop :=
 ∀ (pins : List (Addr × Obj)) (s : Shared) (σ : St) (H : Hp) (x : V) (v : Value) (Q : VK),Inv X pins σ H s -> RelV x v -> r x H Q ->
  wpAny (model X.prog X.w) X.A (f v) (EP X pins σ Q) X.xe s
def CallR (X : Cx) (f : Value) (r : List V -> Hp -> VK -> Prop) : Prop :=
 ∀ (pins : List (Addr × Obj)) (s : Shared) (σ : St) (H : Hp) (xs : List V) (us : List Value) (Q : VK),Inv X pins σ H s -> Vals xs us -> r xs H Q ->
  wpAny (model X.prog X.w) X.A (call f us) (EP X pins σ Q) X.xe s
def TruR (X : Cx) (r : V -> Hp -> (Bool -> Hp -> Prop) -> Prop) : Prop :=
 ∀ (pins : List (Addr × Obj)) (s : Shared) (σ : St) (H : Hp) (x : V) (v : Value) (Q : Bool -> Hp -> Prop),Inv X pins σ H s -> RelV x v -> r x H Q ->
  wpAny (model X.prog X.w) X.A (truthy v) (TP X pins σ Q) X.xe s
def tOp (r : R2) (ta tb : TE) : TE := λ σ H Q => ta σ H λ x H1 => tb σ H1 λ y H2 => r x y H2 Q
def tUn (r : V -> Hp -> VK -> Prop) (ta : TE) : TE := λ σ H Q => ta σ H λ x H1 => r x H1 Q
def rI (C : Int -> Int -> Prop) (g : Int -> Int -> V) : R2 := λ x y H Q => ∃ i j,x = .int i /\ y = .int j /\ C i j /\ Q (g i j) H
def rI0 (g : Int -> Int -> V) : R2 := λ x y H Q => ∃ i j,x = .int i /\ y = .int j /\ Q (g i j) H
def rU (g : Int -> V) : V -> Hp -> VK -> Prop := λ x H Q => ∃ i,x = .int i /\ Q (g i) H
section
variable {X : Cx} {a b c : Expr} {ta tb tc : TE} {pos : Pos}
theorem binT (ha : PE X a ta) (hb : PE X b tb) {pins : List (Addr × Obj)} {s : Shared} {σ : St} {H : Hp} {R : V -> V -> Hp -> Prop} (I : Inv X pins σ H s)
  (h : ta σ H λ x H1 => tb σ H1 λ y H2 => R x y H2) {Q : Value -> Shared -> Prop} {f : Value -> Value -> Sem Value}
  (hf : ∀ v u s2 x y H2,Inv X pins σ H2 s2 -> RelV x v -> RelV y u -> R x y H2 -> wpAny (model X.prog X.w) X.A (f v u) Q X.xe s2) :
  wpAny (model X.prog X.w) X.A (eval a X.env) (λ v s₁ => wpAny (model X.prog X.w) X.A (eval b X.env) (λ u s₂ => wpAny (model X.prog X.w) X.A (f v u) Q X.xe s₂) X.xe s₁) X.xe s := by
 refine thn (ha pins s σ H _ I h) λ v s1 ⟨x,H1,I1,r1,q1⟩ => ?_
 refine thn (hb pins s1 σ H1 _ I1 q1) λ u s2 ⟨y,H2,I2,r2,q2⟩ => ?_
 exact hf v u s2 x y H2 I2 r1 r2 q2
theorem pe_un {op : UnaryOp} {r : V -> Hp -> VK -> Prop} (ho : UnR X (unaryOp op) r) (ha : PE X a ta) : PE X (.UnaryOp op a pos) (tUn r ta) := by
 intro pins s σ H Q I h
 exact UnaryOp_ (thn (ha pins s σ H _ I h) λ v s1 ⟨x,H1,I1,r1,q1⟩ => ho pins s1 σ H1 x v Q I1 r1 q1)
theorem opI {f : Value -> Value -> Sem Value} {C : Int -> Int -> Prop} {g : Int -> Int -> Int}
  (rule : ∀ (i j : Int) (t u : Tok) (s : Shared) (Q : Value -> Shared -> Prop) (E : Value -> Shared -> Prop),C i j -> Q (.int (g i j) s.toks) { s with toks := s.toks + 1 } -> wpAny (model X.prog X.w) X.A (f (.int i t) (.int j u)) Q E s) :
  OpR X f (rI C λ i j => .int (g i j)) := by
 intro pins s σ H x y v u Q I rx ry h
 obtain ⟨i,j,rfl,rfl,hc,q⟩ := h
 obtain ⟨t,rfl⟩ := rx
 obtain ⟨t',rfl⟩ := ry
 exact rule i j t t' s _ _ hc ⟨.int (g i j),H,I.tok _,⟨_,rfl⟩,q⟩
theorem opI0 {f : Value -> Value -> Sem Value} {g : Int -> Int -> Int}
  (rule : ∀ (i j : Int) (t u : Tok) (s : Shared) (Q : Value -> Shared -> Prop) (E : Value -> Shared -> Prop),Q (.int (g i j) s.toks) { s with toks := s.toks + 1 } -> wpAny (model X.prog X.w) X.A (f (.int i t) (.int j u)) Q E s) :
  OpR X f (rI0 λ i j => .int (g i j)) := by
 intro pins s σ H x y v u Q I rx ry h
 obtain ⟨i,j,rfl,rfl,q⟩ := h
 obtain ⟨t,rfl⟩ := rx
 obtain ⟨t',rfl⟩ := ry
 exact rule i j t t' s _ _ ⟨.int (g i j),H,I.tok _,⟨_,rfl⟩,q⟩
theorem opB0 {f : Value -> Value -> Sem Value} {g : Int -> Int -> Bool}
  (rule : ∀ (i j : Int) (t u : Tok) (s : Shared) (Q : Value -> Shared -> Prop) (E : Value -> Shared -> Prop),Q (.bool (g i j)) s -> wpAny (model X.prog X.w) X.A (f (.int i t) (.int j u)) Q E s) :
  OpR X f (rI0 λ i j => .bl (g i j)) := by
 intro pins s σ H x y v u Q I rx ry h
 obtain ⟨i,j,rfl,rfl,q⟩ := h
 obtain ⟨t,rfl⟩ := rx
 obtain ⟨t',rfl⟩ := ry
 exact rule i j t t' s _ _ ⟨.bl (g i j),H,I,rfl,q⟩
def CDiv (i j : Int) : Prop := 0 < j /\ j < 1073741824
def CPow (i j : Int) : Prop := 0 <= j /\ j <= 1000000 /\ i.natAbs < 2 ^ 64
def CMul (i j : Int) : Prop := (-(2 ^ 64) < i /\ i < 2 ^ 64) \/ (-(2 ^ 64) < j /\ j < 2 ^ 64)
theorem CMul.ok {i j : Int} (h : CMul i j) : IntMulOk i j := by
 rcases h with ⟨h1,h2⟩ | ⟨h1,h2⟩
 ·exact .of_left (intBits_le_64 h1 h2)
 ·exact .of_right (intBits_le_64 h1 h2)
theorem op_add : OpR X (binaryOp .Add) (rI0 λ i j => .int (i + j)) := opI0 λ _ _ _ _ _ _ _ q => add_int q
theorem op_sub : OpR X (binaryOp .Sub) (rI0 λ i j => .int (i - j)) := opI0 λ _ _ _ _ _ _ _ q => sub_int q
theorem op_fdiv : OpR X (binaryOp .FloorDiv) (rI CDiv λ i j => .int (i / j)) := opI λ i j _ _ _ _ _ hc q => by
 have h1 : (0 : Int) < j := hc.1
 have h2 : j < 1073741824 := hc.2
 exact floordiv_int (by omega) (by rw [Int.fdiv_eq_ediv_of_nonneg i (by omega)]; exact q) (.inl (PyProof.noPylong_small (by omega)))
theorem op_mod : OpR X (binaryOp .Mod) (rI (λ _ j => 0 < j) λ i j => .int (i % j)) := opI λ i j _ _ _ _ _ hc q => by
 have h1 : (0 : Int) < j := hc
 exact mod_int' (by omega) (by rw [Int.fmod_eq_emod_of_nonneg i (by omega)]; exact q)
theorem op_pow : OpR X (binaryOp .Pow) (rI CPow λ i j => .int (i ^ j.toNat)) := opI λ _ _ _ _ _ _ _ hc q => pow_int_small hc.1 hc.2.1 hc.2.2 q
theorem unI {f : Value -> Sem Value} {g : Int -> Int}
  (rule : ∀ (i : Int) (t : Tok) (s : Shared) (Q : Value -> Shared -> Prop) (E : Value -> Shared -> Prop),Q (.int (g i) s.toks) { s with toks := s.toks + 1 } -> wpAny (model X.prog X.w) X.A (f (.int i t)) Q E s) :
  UnR X f (rU λ i => .int (g i)) := by
 intro pins s σ H x v Q I rx h
 obtain ⟨i,rfl,q⟩ := h
 obtain ⟨t,rfl⟩ := rx
 exact rule i t s _ _ ⟨.int (g i),H,I.tok _,⟨_,rfl⟩,q⟩
theorem un_neg : UnR X (unaryOp .USub) (rU λ i => .int (-i)) := unI λ _ _ _ _ _ q => neg_int q
end
def scal : V -> V -> Bool
 | .non,.non => true | .non,.int _ => true | .int _,.non => true | .non,.bl _ => true | .bl _,.non => true | .non,.str _ => true | .str _,.non => true
 | .int _,.int _ => true | .bl _,.bl _ => true | .str _,.str _ => true | .byt _,.byt _ => true
 | .int _,.str _ => true | .str _,.int _ => true | .bl _,.str _ => true | .str _,.bl _ => true
 | _,_ => false
def rEq : R2 := λ x y H Q => scal x y = true /\ Q (.bl (decide (x = y))) H
def rNe : R2 := λ x y H Q => scal x y = true /\ Q (.bl (!decide (x = y))) H
theorem dec_int {i j : Int} : decide (V.int i = V.int j) = (i == j) := by
 rw [Bool.eq_iff_iff]
 simp
theorem dec_bl {i j : Bool} : decide (V.bl i = V.bl j) = (i == j) := by
 rw [Bool.eq_iff_iff]
 simp
theorem dec_str {i j : Str} : decide (V.str i = V.str j) = (i == j) := by
 rw [Bool.eq_iff_iff]
 simp
theorem dec_byt {i j : Array UInt8} : decide (V.byt i = V.byt j) = (i.toList == j.toList) := by
 rw [Bool.eq_iff_iff]
 cases i
 cases j
 simp
section
variable {X : Cx} {a b c : Expr} {ta tb tc : TE} {pos : Pos}
theorem Q0B {pins : List (Addr × Obj)} {σ : St} {H : Hp} {s : Shared} {Q : VK} {k k' : Bool} (I : Inv X pins σ H s) (q : Q (.bl k) H) (e : k = k') : EP X pins σ Q (.bool k') s := by
 subst e
 exact ⟨.bl k,H,I,rfl,q⟩
theorem op_eq : OpR X (compareOp .Eq) rEq := by
 intro pins s σ H x y v u Q I rx ry h
 obtain ⟨hs,q⟩ := h
 cases x with
 | non =>
  cases rx
  cases y with
  | non => cases ry; exact PySem.EqNone.eq_none_none (Q0B I q (by simp))
  | bl j => cases ry; exact PySem.EqNone.eq_none_bool (Q0B I q (by simp))
  | int j => obtain ⟨t',rfl⟩ := ry; exact PySem.EqNone.eq_none_int (Q0B I q (by simp))
  | str j => obtain ⟨t',rfl⟩ := ry; exact PySem.EqNone.eq_none_str (Q0B I q (by simp))
  | _ => exact absurd (show false = true from hs) Bool.false_ne_true
 | bl i =>
  cases rx
  cases y with
  | non => cases ry; exact PySem.EqNone.eq_bool_none (Q0B I q (by simp))
  | bl j => cases ry; exact eq_bool (Q0B I q dec_bl)
  | str j => obtain ⟨t',rfl⟩ := ry; exact PySem.EqMixed.eq_bool_str (Q0B I q (by simp))
  | _ => exact absurd (show false = true from hs) Bool.false_ne_true
 | int i =>
  obtain ⟨t,rfl⟩ := rx
  cases y with
  | non => cases ry; exact PySem.EqNone.eq_int_none (Q0B I q (by simp))
  | int j => obtain ⟨t',rfl⟩ := ry; exact eq_int (Q0B I q dec_int)
  | str j => obtain ⟨t',rfl⟩ := ry; exact PySem.EqMixed.eq_int_str (Q0B I q (by simp))
  | _ => exact absurd (show false = true from hs) Bool.false_ne_true
 | str i =>
  obtain ⟨t,rfl⟩ := rx
  cases y with
  | non => cases ry; exact PySem.EqNone.eq_str_none (Q0B I q (by simp))
  | bl j => cases ry; exact PySem.EqMixed.eq_str_bool (Q0B I q (by simp))
  | int j => obtain ⟨t',rfl⟩ := ry; exact PySem.EqMixed.eq_str_int (Q0B I q (by simp))
  | str j => obtain ⟨t',rfl⟩ := ry; exact eq_str (Q0B I q dec_str)
  | _ => exact absurd (show false = true from hs) Bool.false_ne_true
 | byt i =>
  obtain ⟨t,rfl⟩ := rx
  cases y with
  | byt j => obtain ⟨t',rfl⟩ := ry; exact PySem.W.eq_bytes (Q0B I q dec_byt)
  | _ => exact absurd (show false = true from hs) Bool.false_ne_true
 | _ => cases y <;> exact absurd (show false = true from hs) Bool.false_ne_true
theorem op_ne : OpR X (compareOp .NotEq) rNe := by
 intro pins s σ H x y v u Q I rx ry h
 obtain ⟨hs,q⟩ := h
 cases x with
 | non =>
  cases rx
  cases y with
  | non => cases ry; exact PySem.EqNone.ne_none_none (Q0B I q (by simp))
  | bl j => cases ry; exact PySem.EqNone.ne_none_bool (Q0B I q (by simp))
  | int j => obtain ⟨t',rfl⟩ := ry; exact PySem.EqNone.ne_none_int (Q0B I q (by simp))
  | str j => obtain ⟨t',rfl⟩ := ry; exact PySem.EqNone.ne_none_str (Q0B I q (by simp))
  | _ => exact absurd (show false = true from hs) Bool.false_ne_true
 | bl i =>
  cases rx
  cases y with
  | non => cases ry; exact PySem.EqNone.ne_bool_none (Q0B I q (by simp))
  | bl j => cases ry; exact ne_bool (Q0B I q (congrArg not dec_bl))
  | str j => obtain ⟨t',rfl⟩ := ry; exact PySem.EqMixed.ne_bool_str (Q0B I q (by simp))
  | _ => exact absurd (show false = true from hs) Bool.false_ne_true
 | int i =>
  obtain ⟨t,rfl⟩ := rx
  cases y with
  | non => cases ry; exact PySem.EqNone.ne_int_none (Q0B I q (by simp))
  | int j => obtain ⟨t',rfl⟩ := ry; exact ne_int (Q0B I q (congrArg not dec_int))
  | str j => obtain ⟨t',rfl⟩ := ry; exact PySem.EqMixed.ne_int_str (Q0B I q (by simp))
  | _ => exact absurd (show false = true from hs) Bool.false_ne_true
 | str i =>
  obtain ⟨t,rfl⟩ := rx
  cases y with
  | non => cases ry; exact PySem.EqNone.ne_str_none (Q0B I q (by simp))
  | bl j => cases ry; exact PySem.EqMixed.ne_str_bool (Q0B I q (by simp))
  | int j => obtain ⟨t',rfl⟩ := ry; exact PySem.EqMixed.ne_str_int (Q0B I q (by simp))
  | str j => obtain ⟨t',rfl⟩ := ry; exact ne_str (Q0B I q (congrArg not dec_str))
  | _ => exact absurd (show false = true from hs) Bool.false_ne_true
 | byt i =>
  obtain ⟨t,rfl⟩ := rx
  cases y with
  | byt j => obtain ⟨t',rfl⟩ := ry; exact PySem.W.ne_bytes (Q0B I q (congrArg not dec_byt))
  | _ => exact absurd (show false = true from hs) Bool.false_ne_true
 | _ => cases y <;> exact absurd (show false = true from hs) Bool.false_ne_true
theorem op_lt : OpR X (compareOp .Lt) (rI0 λ i j => .bl (decide (i < j))) := opB0 λ _ _ _ _ _ _ _ q => lt_int q
theorem op_le : OpR X (compareOp .LtE) (rI0 λ i j => .bl (decide (i <= j))) := opB0 λ _ _ _ _ _ _ _ q => le_int q
theorem op_gt : OpR X (compareOp .Gt) (rI0 λ i j => .bl (decide (j < i))) := opB0 λ _ _ _ _ _ _ _ q => gt_int q
theorem op_ge : OpR X (compareOp .GtE) (rI0 λ i j => .bl (decide (j <= i))) := opB0 λ _ _ _ _ _ _ _ q => ge_int q
theorem op_in_str : OpR X (compareOp .In) (λ x y H Q => ∃ i j,x = .str i /\ y = .str j /\ Q (.bl (!(Builtin.Str.occurrences j i 0 j.length 1).isEmpty)) H) := by
 intro pins s σ H x y v u Q I rx ry h
 obtain ⟨i,j,rfl,rfl,q⟩ := h
 obtain ⟨t,rfl⟩ := rx
 obtain ⟨t',rfl⟩ := ry
 exact in_str (Q0B I q rfl)
theorem op_isN : OpR X (compareOp .Is) (λ x y H Q => y = .non /\ Q (.bl (decide (x = .non))) H) := by
 intro pins s σ H x y v u Q I rx ry h
 obtain ⟨rfl,q⟩ := h
 cases ry
 refine is_none_gen (Q0B I q ?_)
 cases x <;> first
  | (cases rx; rfl)
  | (obtain ⟨t,rfl⟩ := rx; rfl)
theorem nomark (b : Expr) {op : CmpOp} (h : op ≠ .In := by decide) (h2 : op ≠ .NotIn := by decide) : behindInMarks op b = false := by
 have e1 : (op == CmpOp.In) = false := by cases op <;> first | rfl | exact absurd rfl h
 have e2 : (op == CmpOp.NotIn) = false := by cases op <;> first | rfl | exact absurd rfl h2
 cases b <;> simp [behindInMarks,e1,e2]
def TruV (K : PySem.W.Frag) (x : V) (H : Hp) (k : Bool) : Prop :=
 match x with
 | .non => k = false
 | .bl b => k = b
 | .int i => k = (i != 0)
 | .str y => y.length <= sizeLine /\ k = ((y.length : Int) != 0)
 | .byt y => y.size <= sizeLine /\ k = ((y.size : Int) != 0)
 | .ref p => (∃ xs,SqL K H p xs /\ k = !xs.isEmpty) \/ (∃ xs,SqT K H p xs /\ k = !xs.isEmpty) \/ ∃ kvs,H p = some (.dK kvs) /\ k = !kvs.isEmpty
 | _ => False
theorem isEmpty_kv {κ : Type} {kvs : List (κ × V)} {vs : List (κ × Value)} (r : KV kvs vs) : (!vs.isEmpty) = !kvs.isEmpty := by
 cases r <;> rfl
theorem isEmpty_of {xs : List V} {its : List Value} (r : Vals xs its) : (!its.toArray.isEmpty) = !xs.isEmpty := by
 cases r <;> simp
theorem line63 : (sizeLine : Nat) < 2 ^ 63 := by rw [sizeLine_eq]; decide
theorem tru_ok : TruR X (λ x H Q => ∃ k,TruV X.K x H k /\ Q k H) := by
 intro pins s σ H x v Q I rx h
 obtain ⟨k,e,q⟩ := h
 have hl := line63
 have hs : sizeLine = 16777216 := sizeLine_eq
 cases x with
 | non =>
  cases rx
  have e' : k = false := e
  subst e'
  exact truthy_none ⟨H,I,q⟩
 | bl b =>
  cases rx
  have e' : k = b := e
  subst e'
  exact wpAny_truthy_bool ⟨H,I,q⟩
 | int i =>
  obtain ⟨t,rfl⟩ := rx
  have e' : k = (i != 0) := e
  subst e'
  exact PySem.P.truthy_int ⟨H,I,q⟩
 | str y =>
  obtain ⟨t,rfl⟩ := rx
  obtain ⟨hy,e'⟩ : y.length <= sizeLine /\ k = ((y.length : Int) != 0) := e
  subst e'
  exact PySem.P.truthy_str (by omega) ⟨H,I.tok _,q⟩
 | byt y =>
  obtain ⟨t,rfl⟩ := rx
  obtain ⟨hy,e'⟩ : y.size <= sizeLine /\ k = ((y.size : Int) != 0) := e
  subst e'
  exact PySem.W.truthy_bytes (by omega) ⟨H,I.tok _,q⟩
 | ref p =>
  cases rx
  have e' : (∃ xs,SqL X.K H p xs /\ k = !xs.isEmpty) \/ (∃ xs,SqT X.K H p xs /\ k = !xs.isEmpty) \/ ∃ kvs,H p = some (.dK kvs) /\ k = !kvs.isEmpty := e
  rcases e' with ⟨xs,hx,e'⟩ | ⟨xs,hx,e'⟩ | ⟨kvs,hx,e'⟩
  ·subst e'
   obtain ⟨its,r,pl,hz⟩ := I.list hx
   have hlen := r.length
   exact wpAny_truthy_list pl.isList (by simp only [List.size_toArray]; omega) ⟨H,I.tok _,by rw [isEmpty_of r]; exact q⟩
  ·subst e'
   obtain ⟨its,r,pl,hz⟩ := I.tuple hx
   have hlen := r.length
   exact truthy_tuple pl (by simp only [List.size_toArray]; omega) ⟨H,I.tok _,by rw [isEmpty_of r]; exact q⟩
  ·subst e'
   obtain ⟨hz,hS,vs,r,m⟩ : kvs.length <= sizeLine /\ (p == sysModules) = false /\ ∃ vs,KV kvs vs /\ s.heap.DictOf (Q0u X.prog X.w) p vs := I.hok p _ hx
   have hlen : kvs.length = vs.length := Paired.length r
   exact wpAny_truthy_dict hS m (by omega) ⟨H,I.tok _,by rw [isEmpty_kv r]; exact q⟩
 | _ => exact (show False from e).elim
theorem pt_truth (ha : PE X a ta) (he : ∀ whole,isTrue a X.env whole = (do let v <- whole; standAt a.pos; holding [v] (truthy v))) :
  PT X a (λ σ H Q => ta σ H λ x H' => ∃ k,TruV X.K x H' k /\ Q k H') := by
 intro pins s σ H Q I h
 exact isTrue_plain (thn (ha pins s σ H _ I h) λ v s1 ⟨x,H1,I1,r1,q1⟩ => tru_ok pins s1 σ H1 x v Q I1 r1 q1) (he _)
theorem op_add_str : OpR X (binaryOp .Add) (λ x y H Q => ∃ i j,x = .str i /\ y = .str j /\ i.length + j.length <= sizeLine /\ Q (.str (i ++ j)) H) := by
 intro pins s σ H x y v u Q I rx ry h
 obtain ⟨i,j,rfl,rfl,hz,q⟩ := h
 obtain ⟨t,rfl⟩ := rx
 obtain ⟨t',rfl⟩ := ry
 exact add_str (λ t' tk => ⟨.str (i ++ j),H,I.tok _,⟨_,rfl⟩,q⟩) hz
def PlainIxT (b : Expr) : Prop := ∀ o i,subscripted b false o i = operate [o,i] (getItem o i)
theorem pe_item_str (ha : PE X a ta) (hb : PE X b tb) (hs : PlainIxT b) :
  PE X (.Subscript a b pos) (tOp (λ x y H Q => ∃ z i c,x = .str z /\ y = .int i /\ 0 <= i /\ i < 2 ^ 63 /\ i < z.length /\ z.cps[i.toNat]? = some c /\ Q (.str ⟨#[c]⟩) H) ta tb) := by
 intro pins s σ H Q I h
 refine Subscript_ (binT ha hb I h λ v u s2 x y H2 I2 rx ry q => ?_)
 obtain ⟨z,i,c,rfl,rfl,h0,h63,h1,hc,q⟩ := q
 obtain ⟨t,rfl⟩ := rx
 obtain ⟨t',rfl⟩ := ry
 have e : seqIndex? i z.length = some i.toNat := PySem.StrLaws.seqIndex_nonneg h0 h1
 exact tail_any (typeIs_str s2 z t) slot_str_getitem.lookup (getItem_str (c := c) (by
  have e1 : decide (i < -(2 ^ 63 : Int)) = false := decide_eq_false (by omega)
  have e2 : decide (i >= 2 ^ 63) = false := decide_eq_false (by omega)
  rw [e1,e2] <;> rfl) (by rw [e]; exact hc) ⟨.str ⟨#[c]⟩,H2,I2.tok _,⟨_,rfl⟩,q⟩) (hs _ _)
theorem vals1 {x : V} {us : List Value} (r : Vals [x] us) : ∃ u,us = [u] /\ RelV x u := by
 cases r with
 | cons r1 r2 => cases r2; exact ⟨_,rfl,r1⟩
theorem vals2 {x y : V} {us : List Value} (r : Vals [x,y] us) : ∃ u w',us = [u,w'] /\ RelV x u /\ RelV y w' := by
 cases r with
 | cons r1 r2 =>
  cases r2 with
  | cons r3 r4 => cases r4; exact ⟨_,_,rfl,r1,r3⟩
theorem call_abs : CallR X (.builtin "abs") (λ xs H Q => ∃ i,xs = [.int i] /\ Q (.int (if i < 0 then -i else i)) H) := by
 intro pins s σ H xs us Q I r h
 obtain ⟨i,rfl,q⟩ := h
 obtain ⟨u,rfl,t,rfl⟩ := vals1 r
 exact call_abs_int λ u tk => ⟨.int (if i < 0 then -i else i),H,I.tok _,⟨_,rfl⟩,q⟩
theorem call_int1 : CallR X (.type "int") (λ xs H Q => (∃ i,xs = [.int i] /\ Q (.int i) H) \/ ∃ k,xs = [.bl k] /\ Q (.int (if k then 1 else 0)) H) := by
 intro pins s σ H xs us Q I r h
 rcases h with ⟨i,rfl,q⟩ | ⟨k,rfl,q⟩
 ·obtain ⟨u,rfl,t,rfl⟩ := vals1 r
  exact call_int_int ⟨.int i,H,I,⟨_,rfl⟩,q⟩
 ·obtain ⟨u,rfl,r1⟩ := vals1 r
  cases r1
  exact call_int_bool ⟨.int (if k then 1 else 0),H,I.tok _,⟨_,rfl⟩,q⟩
end
end L2
namespace L2
open PySem PySem.Spec PyProof.Rows
structure ObjM (h : Heap) (x dx C : Addr) (mA : Str -> Option Value) : Prop where
 obj : h.get? x = some (PySem.W.instObj C dx)
 ns : h.Ns1 dx mA
 ne : dx ≠ x
theorem lookIn_ns {h : Heap} {dx : Addr} {mA : Str -> Option Value} (n : h.Ns1 dx mA) : ∃ od,h.get? dx = some od /\ ∀ name,PySem.W.lookIn name od = some (mA name) := by
 obtain ⟨o,es,ep,ho,hd,hk,_,hm⟩ := n
 refine ⟨o,ho,λ name => ?_⟩
 have e := hm name
 unfold nsFind findBy at e
 rw [<- Array.find?_toList] at e
 unfold PySem.W.lookIn
 rw [hd]
 dsimp only
 split
 ·rename_i y q
  rw [q] at e
  exact congrArg some e
 ·rename_i q
  rw [q] at e
  have a : es.toList.any (·.refKey) = false := by
   rw [List.any_eq_false]
   intro y hy
   obtain ⟨z,t,hkey⟩ := hk y (Array.mem_toList_iff.mp hy)
   simp [DictEntry.refKey,hkey]
  have a' : ¬ es.toList.any (·.refKey) = true := by rw [a]; exact Bool.false_ne_true
  rw [if_neg a']
  exact congrArg some e
theorem ObjM.look {h : Heap} {x dx C : Addr} {mA : Str -> Option Value} (I : ObjM h x dx C mA) : ∃ od,PySem.W.InstAt h x (PySem.W.instObj C dx) C (some od) /\ ∀ name,PySem.W.lookIn name od = some (mA name) :=
 let ⟨od,ho,hl⟩ := lookIn_ns I.ns
 ⟨od,⟨I.obj,rfl,rfl,ho⟩,hl⟩
section
variable {prog : Program} {w : World} {A : Around} {E : Value -> Shared -> Prop} {s : Shared} {K : PySem.W.Frag} {x dx C f : Addr} {mA : Str -> Option Value} {name : Str} {v : Value}
theorem get_map {expr : Bool} {Q : Value -> Shared -> Prop} (X : K.In s.heap) (I : ObjM s.heap x dx C mA) (hg : PySem.W.plainGet K C name = true) (hh : PySem.W.hasDictIn K C = true)
  (ha : PySem.W.findIn K (.ref C) name = some none) (hv : mA name = some v) (hv' : PySem.W.handedIn v = true) (h : Q v { s with toks := s.toks + 1 }) :
  wpAny (model prog w) A (getAttr (.ref x) name expr) Q E s := by
 obtain ⟨od,J,hl⟩ := I.look
 exact PySem.W.get_value X J (PySem.W.plainGet_of hg).1 (PySem.W.findObj_own hh ha rfl (by rw [hl,hv])) hv' h
theorem get_meth {pl : Sem Bool} {Q : Value × List Value -> Shared -> Prop} (X : K.In s.heap) (I : ObjM s.heap x dx C mA) (hg : PySem.W.plainGet K C name = true)
  (hf : PySem.W.findIn K (.ref C) name = some (some (.ref f))) (ht : PySem.W.isFn K (.ref f) = true) (hv : mA name = none) (h : Q (.ref f,[.ref x]) s) :
  wpAny (model prog w) A (getMethod (.ref x) name pl) Q E s := by
 obtain ⟨od,J,hl⟩ := I.look
 exact PySem.W.method_fn X J (PySem.W.plainGet_of hg).1 (PySem.W.plainGet_of hg).2 hf (beq_iff_eq.mp ht) (by show (PySem.W.lookIn name od).map (·.isSome) = some false; rw [hl,hv]; rfl) h
theorem set_map {ns : List Str} {Q : Unit -> Shared -> Prop} (X : K.In s.heap) (I : ObjM s.heap x dx C mA)
  (hs : PySem.W.findIn K (.ref C) "__setattr__" = some (some (.builtin "object.__setattr__"))) (hp : PySem.W.plainOver K C = true) (ht : PySem.W.takerIn K C name = some none) (hh : PySem.W.hasDictIn K C = true)
  (hw : PySem.Within mA ns) (hsz : ns.length <= sizeLine)
  (h : ∀ h',ObjM h' x dx C (λ y => if y = name then some v else mA y) -> Heap.SameBut dx s.heap h' -> Q () { s with heap := h',toks := s.toks + 2 }) :
  wpAny (model prog w) A (setAttr (.ref x) name v) Q E s := by
 obtain ⟨od,J,hl⟩ := I.look
 refine PySem.W.set_plain X J hs (PySem.W.osa_open (s := { s with toks := s.toks + 1 }) (r := none) X J hp ht λ b => ?_)
 obtain ⟨cd,hc,hd'⟩ := PySem.W.any_some hh
 have hx : s.heap.get? x = some ⟨.ref C,some dx,.plain,#[]⟩ := I.obj
 refine wpAny_bind (wpAny_pure (wpAny_bind (wpAny_bind (wpAny_loadPart hx (wpAny_bind (PySem.W.Looks.here (s := { s with toks := s.toks + 1 }) (PySem.W.looks_clsIn X hc) ?_))))))
 rw [hd']
 refine wpAny_pure (a := some dx) (wpAny_bind (wpAny_pure (wpAny_bind ?_)))
 refine wpAny_nsSet1 (s := { s with toks := s.toks + 1 }) I.ns λ h' hn2 hs2 => ?_
 obtain ⟨oD,esD,epD,hoD,hdD,hcD⟩ := hn2.count (PySem.Within.cons name v hw)
 refine wpAny_bind (wpAny_lookBehind hoD (by rw [hdD]; exact pastItsLine_dict (Nat.le_trans hcD (by rw [List.length_cons]; omega))) ?_)
 exact wpAny_pure (h _ ⟨(hs2.2 _ (Ne.symm I.ne)).trans I.obj,hn2,I.ne⟩ hs2)
theorem make_map {R : Result -> Shared -> Prop} {vs : List Value} {kw : List (Str × Value)} (X : K.In s.heap) (hm : PySem.W.makesIn K C = true)
  (hi : PySem.W.findIn K (.ref C) "__init__" = some (some (.ref f))) (hf : PySem.W.typeIn K (.ref f) = some (.type "function"))
  (h : codeAny (model prog w) (A.under (.builtin "type.__call__" ⟨.ref C :: vs,kw⟩)) (.call (.ref f) ⟨.ref (s.heap.objs.size + 1) :: vs,kw⟩) (PySem.W.InitBack (s.heap.objs.size + 1) R)
   { s with heap := (s.heap.push PySem.W.emptyDict).push (PySem.W.instObj C s.heap.objs.size) }) :
  codeAny (model prog w) A (.call (.ref C) ⟨vs,kw⟩) R s := by
 obtain ⟨hh,g,d,t,os⟩ := s
 exact PySem.W.make_core (PySem.W.makes_of X hm) (PySem.W.looks_findIn X hi) (λ self => PySem.W.bind_fn X self hf) (.inl rfl) h
end
def putF (f : Str) (v : V) : List (Str × V) -> List (Str × V)
 | [] => [(f,v)]
 | (g,x) :: r => if g = f then (g,v) :: r else (g,x) :: putF f v r
theorem lookup_putF (f g : Str) (v : V) : ∀ fs : List (Str × V),(putF f v fs).lookup g = if g = f then some v else fs.lookup g
 | [] => by
  show List.lookup g [(f,v)] = _
  by_cases h : g = f
  ·have hb : (g == f) = true := beq_iff_eq.mpr h
   simp only [List.lookup,hb,if_pos h]
  ·have hb : (g == f) = false := beq_eq_false_iff_ne.mpr h
   simp only [List.lookup,hb,if_neg h]
 | (k,x) :: r => by
  have ih := lookup_putF f g v r
  rw [show putF f v ((k,x) :: r) = (if k = f then (k,v) :: r else (k,x) :: putF f v r) from rfl]
  by_cases hk : k = f
  ·rw [if_pos hk]
   by_cases h : g = k
   ·have hb : (g == k) = true := beq_iff_eq.mpr h
    simp only [List.lookup,hb,if_pos (h.trans hk)]
   ·have hb : (g == k) = false := beq_eq_false_iff_ne.mpr h
    simp only [List.lookup,hb,if_neg (λ e : g = f => h (e.trans hk.symm))]
  ·rw [if_neg hk]
   by_cases h : g = k
   ·have hb : (g == k) = true := beq_iff_eq.mpr h
    simp only [List.lookup,hb,if_neg (λ e : g = f => hk (h.symm.trans e))]
   ·have hb : (g == k) = false := beq_eq_false_iff_ne.mpr h
    simp only [List.lookup,hb]
    exact ih
theorem keys_putF (f : Str) (v : V) : ∀ fs : List (Str × V),f ∈ (putF f v fs).map (·.1) /\ ∀ g,g ∈ fs.map (·.1) -> g ∈ (putF f v fs).map (·.1)
 | [] => ⟨by simp [putF],λ g h => by simp at h⟩
 | (k,x) :: r => by
  obtain ⟨i1,i2⟩ := keys_putF f v r
  rw [show putF f v ((k,x) :: r) = (if k = f then (k,v) :: r else (k,x) :: putF f v r) from rfl]
  by_cases hk : k = f
  ·rw [if_pos hk]
   subst hk
   exact ⟨by simp,λ g h => by simpa using h⟩
  ·rw [if_neg hk]
   refine ⟨?_,λ g h => ?_⟩
   ·rw [List.map_cons]
    exact List.mem_cons_of_mem _ i1
   ·rw [List.map_cons] at h ⊢
    rcases List.mem_cons.mp h with e | e
    ·exact List.mem_cons.mpr (.inl e)
    ·exact List.mem_cons_of_mem _ (i2 g e)
theorem length_putF (f : Str) (v : V) : ∀ fs : List (Str × V),(putF f v fs).length <= fs.length + 1
 | [] => by simp [putF]
 | (k,x) :: r => by
  have ih := length_putF f v r
  rw [show putF f v ((k,x) :: r) = (if k = f then (k,v) :: r else (k,x) :: putF f v r) from rfl]
  by_cases hk : k = f
  ·rw [if_pos hk,List.length_cons,List.length_cons]; omega
  ·rw [if_neg hk,List.length_cons,List.length_cons]; omega
theorem RelO.some_of {v : V} {o : Option Value} (r : RelO (some v) o) : ∃ u,o = some u /\ RelV v u := by
 cases o with
 | none => exact (show False from r).elim
 | some u => exact ⟨u,rfl,r⟩
theorem RelO.none_of {o : Option Value} (r : RelO none o) : o = none := by
 cases o with
 | none => rfl
 | some u => exact (show False from r).elim
theorem handed_of {v : V} {u : Value} (r : RelV v u) : PySem.W.handedIn u = true := by
 cases v with
 | non => cases (show u = Value.none from r); rfl
 | bl b => cases (show u = Value.bool b from r); rfl
 | int i => obtain ⟨t,e⟩ := (show ∃ t,u = Value.int i t from r); cases e; rfl
 | str x => obtain ⟨t,e⟩ := (show ∃ t,u = Value.str x t from r); cases e; rfl
 | byt b => obtain ⟨t,e⟩ := (show ∃ t,u = Value.bytes b t from r); cases e; rfl
 | flt b => obtain ⟨t,e⟩ := (show ∃ t,u = Value.float b t from r); cases e; rfl
 | ref a => cases (show u = Value.ref a from r); rfl
 | ty n => cases (show u = Value.type n from r); rfl
section
variable {P : Program} {w : World} {H H' : Hp} {h h' : Heap} {a C dx : Addr} {fs fs' : List (Str × V)}
theorem ins_get (hok : HOk P w H h) (e : H a = some (.ins C dx fs)) : ∃ mA,ObjM h a dx C mA /\ (∀ f,RelO (fs.lookup f) (mA f)) /\ PySem.Within mA (fs.map (·.1)) /\ fs.length <= 1000 /\ H dx = some (.own a) := by
 obtain ⟨d,z,ne,ob,mA,n,r,q⟩ := (show Q1n P w H h a (.ins C dx fs) from hok a _ e)
 exact ⟨mA,⟨ob,n,ne⟩,r,q,z,d⟩
end
structure Cls (K : PySem.W.Frag) (C : Addr) : Prop where
 pg : PySem.W.plainGet K C Str.empty = true
 hd : PySem.W.hasDictIn K C = true
 po : PySem.W.plainOver K C = true
 sa : PySem.W.findIn K (.ref C) "__setattr__" = some (some (.builtin "object.__setattr__"))
theorem Cls.get {K : PySem.W.Frag} {C : Addr} (c : Cls K C) (f : Str) : PySem.W.plainGet K C f = true := c.pg
def Q1L (K : PySem.W.Frag) (C : Addr) (f : Str) : Prop := PySem.W.findIn K (.ref C) f = some none
theorem Q1L.taker {K : PySem.W.Frag} {C : Addr} {f : Str} (n : Q1L K C f) : PySem.W.takerIn K C f = some none := by
 unfold PySem.W.takerIn
 rw [show PySem.W.findIn K (.ref C) f = some none from n]
 rfl
structure Meth (K : PySem.W.Frag) (C : Addr) (m : Str) (f : Addr) : Prop where
 at_ : PySem.W.findIn K (.ref C) m = some (some (.ref f))
 fn : PySem.W.isFn K (.ref f) = true
 kp : PySem.W.keepIn K (.ref f) = true
section
variable {X : Cx} {pins : List (Addr × Obj)} {σ : St} {H : Hp} {s : Shared} {a C dx : Addr} {fs : List (Str × V)} {f : Str} {v : V} {A : Around} {E : Value -> Shared -> Prop}
theorem getattr_ok {b : Bool} {Q : Value -> Shared -> Prop} (I : Inv X pins σ H s) (e : H a = some (.ins C dx fs)) (c : Cls X.K C) (n : Q1L X.K C f) (l : fs.lookup f = some v)
  (h : ∀ u s',Inv X pins σ H s' -> RelV v u -> Q u s') : wpAny (model X.prog X.w) A (getAttr (.ref a) f b) Q E s := by
 obtain ⟨mA,O,r,_,_,_⟩ := ins_get I.hok e
 obtain ⟨u,hu,ru⟩ := RelO.some_of (v := v) (o := mA f) (by rw [<- l]; exact r f)
 exact get_map I.kIn O (c.get f) c.hd n hu (handed_of ru) (h u _ (I.tok _) ru)
theorem Q3E {m : Str} {g : Addr} {pl : Sem Bool} {Q : Value × List Value -> Shared -> Prop} (I : Inv X pins σ H s) (e : H a = some (.ins C dx fs)) (c : Cls X.K C) (k : Meth X.K C m g) (l : fs.lookup m = none)
  (h : Q (.ref g,[.ref a]) s) : wpAny (model X.prog X.w) A (getMethod (.ref a) m pl) Q E s := by
 obtain ⟨mA,O,r,_,_,_⟩ := ins_get I.hok e
 have hn : mA m = none := RelO.none_of (by rw [<- l]; exact r m)
 exact get_meth I.kIn O (c.get m) k.at_ k.fn hn h
theorem setattr_ok {y : V} {u : Value} {Q : Unit -> Shared -> Prop} (I : Inv X pins σ H s) (e : H a = some (.ins C dx fs)) (c : Cls X.K C) (n : Q1L X.K C f) (hl : fs.length < 1000) (ry : RelV y u)
  (h : ∀ s',Inv X pins σ (upd H a (.ins C dx (putF f y fs))) s' -> Q () s') : wpAny (model X.prog X.w) A (setAttr (.ref a) f u) Q E s := by
 obtain ⟨mA,O,r,wi,_,ho⟩ := ins_get I.hok e
 have hz : (fs.map (·.1)).length <= sizeLine := by rw [List.length_map,sizeLine_eq]; omega
 refine set_map I.kIn O c.sa c.po n.taker c.hd wi hz λ h' O' sb => h _ ?_
 have hd : ∃ o,h'.get? dx = some o := let ⟨o,_,_,e',_⟩ := O'.ns; ⟨o,e'⟩
 refine I.write (x := a) (e := dx) (by rw [e]; exact True.intro) (.inr ho) (λ b q hb z => (sb.2 b hb).trans z) hd ?_
 refine ⟨by rw [Q0i O.ne]; exact ho,?_,O.ne,O'.obj,_,O'.ns,λ g => ?_,λ g hg => ?_⟩
 ·have := length_putF f y fs; omega
 ·show RelO ((putF f y fs).lookup g) (if g = f then some u else mA g)
  rw [lookup_putF]
  by_cases q : g = f
  ·rw [if_pos q,if_pos q]; exact ry
  ·rw [if_neg q,if_neg q]; exact r g
 ·by_cases q : g = f
  ·rw [q]; exact (keys_putF f y fs).1
  ·refine (keys_putF f y fs).2 g (wi g λ z => hg ?_)
   show (if g = f then some u else mA g) = none
   rw [if_neg q]; exact z
theorem Inv.made (I : Inv X pins σ H s) : Inv X pins σ (upd (upd H s.heap.objs.size (.own (s.heap.objs.size + 1))) (s.heap.objs.size + 1) (.ins C s.heap.objs.size []))
  { s with heap := (s.heap.push PySem.W.emptyDict).push (PySem.W.instObj C s.heap.objs.size) } := by
 have e1 : (s.heap.push PySem.W.emptyDict).get? s.heap.objs.size = some PySem.W.emptyDict := Heap.get?_push_size s.heap rfl
 have e2 : ((s.heap.push PySem.W.emptyDict).push (PySem.W.instObj C s.heap.objs.size)).get? (s.heap.objs.size + 1) = some (PySem.W.instObj C s.heap.objs.size) := by
  have := Heap.get?_push_size (s.heap.push PySem.W.emptyDict) (o := PySem.W.instObj C s.heap.objs.size) rfl
  rwa [Heap.size_push] at this
 have e3 : (s.heap.push PySem.W.emptyDict).Ns s.heap.objs.size (λ _ => none) := ⟨PySem.W.emptyDict,#[],_,e1,rfl,(λ e he => absurd he (by simp)),λ _ => rfl⟩
 have I1 := I.laid (a := s.heap.objs.size) (o := .own (s.heap.objs.size + 1)) (h' := s.heap.push PySem.W.emptyDict) (t' := s.toks) (λ b u q => Heap.get?_push_of_some _ q) (Nat.le_refl _) ⟨_,e1⟩
 refine I1.laid (a := s.heap.objs.size + 1) (o := .ins C s.heap.objs.size []) (t' := s.toks) (λ b u q => Heap.get?_push_of_some _ q) (Nat.le_of_eq (Heap.size_push _ _)) ?_
 have ne : s.heap.objs.size ≠ s.heap.objs.size + 1 := Nat.ne_of_lt (Nat.lt_succ_self _)
 refine ⟨by rw [Q0i ne,Q0h],Nat.zero_le _,ne,e2,λ _ => none,(Heap.Ns1.of_empty e3).at λ o q => Heap.get?_push_of_some _ q,λ _ => True.intro,λ y hy => absurd rfl hy⟩
theorem attr_of {prog : Program} {w : World} {env : Env} {e : Expr} {f : Str} {pos : Pos} {s : Shared} {Q : Value -> Shared -> Prop} (hb : attributeBase e f env (eval e env) = eval e env)
  (h : wpAny (model prog w) A (eval e env) (λ o s₁ => wpAny (model prog w) A (getAttr o f true) Q E s₁) E s) : wpAny (model prog w) A (eval (.Attribute e f pos) env) Q E s :=
 Attribute_any_ h (by rw [arm_eval_Attribute,hb])
end
def tFld (K : PySem.W.Frag) (ta : TE) (f : Str) : TE := λ σ H Q => ta σ H λ x H1 => ∃ a C dx fs v,x = .ref a /\ H1 a = some (.ins C dx fs) /\ Cls K C /\ Q1L K C f /\ fs.lookup f = some v /\ Q v H1
section
variable {X : Cx} {o e value : Expr} {f : Str} {pos pos' tpos : Pos} {ta tv : TE}
theorem pe_fld (he : PE X e ta) (hb : attributeBase e f X.env (eval e X.env) = eval e X.env) : PE X (.Attribute e f pos) (tFld X.K ta f) := by
 intro pins s σ H Q I h
 refine attr_of hb (thn (he pins s σ H _ I h) λ u s1 ⟨x,H1,I1,rx,a,C,dx,fs,v,ex,ea,c,n,l,q⟩ => ?_)
 subst ex
 obtain rfl : u = Value.ref a := rx
 exact getattr_ok I1 ea c n l λ u' s2 I2 ru => ⟨v,H1,I2,ru,q⟩
end
section
variable {X : Cx} {pins : List (Addr × Obj)} {σ : St} {H : Hp} {s : Shared} {A : Around} {E : Value -> Shared -> Prop} {Q : Value -> Shared -> Prop} {c : Value} {b : Bool}
inductive TyOf (K : PySem.W.Frag) (H : Hp) : V -> Value -> Prop where
 | non : TyOf K H .non (.type "NoneType")
 | bl (x : Bool) : TyOf K H (.bl x) (.type "bool")
 | int (i : Int) : TyOf K H (.int i) (.type "int")
 | str (x : Str) : TyOf K H (.str x) (.type "str")
 | flt (x : UInt64) : TyOf K H (.flt x) (.type "float")
 | lst {a : Addr} {xs : List V} (e : H a = some (.lst xs)) : TyOf K H (.ref a) (.type "list")
 | frz {a : Addr} {o : Obj} {xs : List V} (e : H a = some (.frz o (.lst xs))) : TyOf K H (.ref a) (.type "list")
 | tup {a : Addr} {xs : List V} (e : H a = some (.tup xs)) : TyOf K H (.ref a) (.type "tuple")
 | dK {a : Addr} {kvs : List (Key × V)} (e : H a = some (.dK kvs)) : TyOf K H (.ref a) (.type "dict")
 | dT {a : Addr} {kvs : List (List Key × V)} (e : H a = some (.dT kvs)) : TyOf K H (.ref a) (.type "dict")
 | ins {a C dx : Addr} {fs : List (Str × V)} (e : H a = some (.ins C dx fs)) (cl : Cls K C) (ha : PySem.W.findIn K (.ref C) "__class__" = some (some (.builtin "object.__class__")))
   (hn : PySem.W.specialIn K (.builtin "object.__class__") "__get__" = some (some (.builtin "getset_descriptor.__get__"))) (htk : PySem.W.takesIn K (.builtin "object.__class__") = some true)
   (hm : PySem.W.mroIn K C (.type "object") = some true) : TyOf K H (.ref a) (.ref C)
end
end L2
namespace L2
open PySem PySem.Spec PyProof.Rows
structure Room (k : Nat) (A : Around) : Prop where
 hd : A.handled = none
 dp : A.depth + 3 * k + 5 < recursionLimit
 un : A.units + 16 * k + 200 < cLine
theorem Room.mono {j k : Nat} {A : Around} (r : Room k A) (h : j <= k) : Room j A := ⟨r.hd,by have := r.dp; omega,by have := r.un; omega⟩
theorem Room.deeper {k : Nat} {A : Around} (r : Room (k + 1) A) (env : Env) : Room k (A.deeper env) :=
 ⟨r.hd,by have := r.dp; show A.depth + 1 + 3 * k + 5 < _; omega,by have := r.un; show A.units + 3 + 16 * k + 200 < _; omega⟩
theorem make_depth {A : Around} {C : Addr} {us : List Value} {kw : List (Str × Value)} : (A.under (.builtin "type.__call__" ⟨.ref C :: us,kw⟩)).depth = A.depth + 1 := by
 first | rfl | simp [Around.under,Code.weight,Code.isCreation,Code.isGuard,Code.isCaller,Code.frames,Code.isFrame,guardIds]
theorem make_units {A : Around} {C : Addr} {us : List Value} {kw : List (Str × Value)} : (A.under (.builtin "type.__call__" ⟨.ref C :: us,kw⟩)).units = A.units + 1 := by
 first | rfl | simp [Around.under,Code.cUnits,Code.frames,Code.isFrame]
theorem Room.make {k : Nat} {A : Around} (r : Room (k + 1) A) (C : Addr) (us : List Value) (kw : List (Str × Value)) : Room k (A.under (.builtin "type.__call__" ⟨.ref C :: us,kw⟩)) :=
 ⟨r.hd,by have := r.dp; rw [make_depth]; omega,by have := r.un; rw [make_units]; omega⟩
theorem Room.depth {k : Nat} {A : Around} (r : Room k A) : A.depth < recursionLimit := by have := r.dp; omega
theorem Room.units {k : Nat} {A : Around} (r : Room k A) : A.units + 64 < cLine := by have := r.un; omega
def tNil : TA := λ _ H Q => Q [] H
def tCons (ta : TE) (tr : TA) : TA := λ σ H Q => ta σ H λ x H1 => tr σ H1 λ xs H2 => Q (x :: xs) H2
section
variable {X : Cx} {e : Expr} {es : List Expr} {te : TE} {t : TA} {pos : Pos}
theorem pa_nil : PA X [] tNil := λ _ _ _ _ H Q I h => Calls.spliced_nil ⟨[],H,I,.nil,h⟩
theorem Q2f (ha : PE X e te) (hr : PA X es t) (hs : starEach (e :: es) X.env = (false,eval e X.env) :: starEach es X.env := by rfl) : PA X (e :: es) (tCons te t) := by
 intro pos pins s σ H Q I h
 rw [hs]
 show wpAny _ _ (spliced ((false,eval e X.env) :: backTo pos (starEach es X.env))) _ _ s
 refine Calls.spliced_cons (thn (ha pins s σ H _ I h) λ u s1 ⟨x,H1,I1,r1,q1⟩ => ?_)
 exact thn (hr pos pins s1 σ H1 _ I1 q1) λ us s2 ⟨xs,H2,I2,r2,q2⟩ => ⟨x :: xs,H2,I2,.cons r1 r2,q2⟩
def tTup (t : TA) : TE := λ σ H Q => t σ H λ xs H1 => xs.length <= sizeLine /\ ∀ p,H1 p = none -> Q (.ref p) (upd H1 p (.tup xs))
def tLst (t : TA) : TE := λ σ H Q => t σ H λ xs H1 => xs.length <= sizeLine /\ ∀ p,H1 p = none -> Q (.ref p) (upd H1 p (.lst xs))
theorem pe_tup {x1} (h : PA X es t) : PE X (.Tuple es x1 pos) (tTup t) := by
 intro pins s σ H Q I hq
 refine wpAny_Tuple_spliced (thn (h pos pins s σ H _ I hq) λ us s1 ⟨xs,H1,I1,r,z,q⟩ => ⟨by rw [<- r.length]; exact z,?_⟩)
 have hf : H1 s1.heap.objs.size = none := I1.hok.fresh (Nat.le_refl _)
 refine ⟨.ref s1.heap.objs.size,upd H1 s1.heap.objs.size (.tup xs),I1.laid (t' := s1.toks) (λ b u e => Heap.get?_push_of_some _ e) (Nat.le_refl _) ?_,rfl,q _ hf⟩
 exact ⟨z,us,r,TupN.new _ _⟩
theorem pe_lst (h : PA X es t) : PE X (.List es pos) (tLst t) := by
 intro pins s σ H Q I hq
 refine wpAny_List_spliced (thn (h pos pins s σ H _ I hq) λ us s1 ⟨xs,H1,I1,r,z,q⟩ => ⟨by rw [<- r.length]; exact z,?_⟩)
 have hf : H1 s1.heap.objs.size = none := I1.hok.fresh (Nat.le_refl _)
 refine ⟨.ref s1.heap.objs.size,upd H1 s1.heap.objs.size (.lst xs),I1.laid (t' := s1.toks) (λ b u e => Heap.get?_push_of_some _ e) (Nat.le_refl _) ?_,rfl,q _ hf⟩
 exact ⟨z,us,0,r,Heap.get?_push_size _ rfl⟩
end
abbrev Sp := List V -> Hp -> VK -> XK -> Prop
abbrev CXT := List Env -> Hp -> Shared -> XK -> Value -> Shared -> Prop
structure Env0 (P : Program) (w : World) (K : PySem.W.Frag) (mg : Str -> Option Value) (base : Heap) (A : Around) (outer : List Env) (s : Shared) (H : Hp) : Prop where
 frames : A.frames = some outer
 mod : Mod K mg base
 bs : ∀ b o,base.get? b = some o -> s.heap.get? b = some o /\ H b = none
 bsz : base.objs.size <= s.heap.objs.size
 funs : s.heap.FunFrames base outer
 frf : ∀ b ∈ frs outer,H b = none
 hok : HOk P w H s.heap
 bare : AllBare s.gens
def CE (outer : List Env) (P : Program) (w : World) (H : Hp) (s : Shared) (Q : VK) (u : Value) (s' : Shared) : Prop :=
 ∃ v H',s'.os = s.os /\ AllBare s'.gens /\ Un (frs outer) [] H H' s.heap s'.heap /\ HOk P w H' s'.heap /\ RelV v u /\ Q v H'
def CR (CX : CXT) (outer : List Env) (P : Program) (w : World) (H : Hp) (s : Shared) (Q : VK) (E : XK) (r : Result) (s' : Shared) : Prop :=
 match r with
 | .ok (.ret u) => CE outer P w H s Q u s'
 | .ok _ => False
 | .error e => CX outer H s E e s'
structure FnOk (P : Program) (w : World) (K : PySem.W.Frag) (mg : Str -> Option Value) (base : Heap) (CX : CXT) (k : Nat) (f : Addr) (fd : FuncData) (ps : List Str) (sp : Sp) : Prop where
 len : ∀ vs H Q E,sp vs H Q E -> vs.length = ps.length
 run : ∀ (A : Around) (outer : List Env) (s : Shared) (H : Hp) (args : Args) (us : List Value) (vs : List V) (Q : VK) (E : XK),Room k A -> Env0 P w K mg base A outer s H -> BindsTo s fd args (ps.zip us) -> Vals vs us -> sp vs H Q E ->
  codeAny (model P w) A (.call (.ref f) args) (CR CX outer P w H s Q E) s
theorem Env0.make {P : Program} {w : World} {K : PySem.W.Frag} {mg : Str -> Option Value} {base : Heap} {A : Around} {outer : List Env} {s : Shared} {H : Hp} (e : Env0 P w K mg base A outer s H) (C : Addr) (us : List Value) (kw : List (Str × Value)) :
  Env0 P w K mg base (A.under (.builtin "type.__call__" ⟨.ref C :: us,kw⟩)) outer s H := ⟨by first | exact e.frames | (simpa [Around.under,Code.envs,Code.isFrame,pushEnvs] using e.frames),e.mod,e.bs,e.bsz,e.funs,e.frf,e.hok,e.bare⟩
section
variable {X : Cx} {pins : List (Addr × Obj)} {σ : St} {H : Hp} {s s' : Shared}
theorem Inv.env0 (I : Inv X pins σ H s) : Env0 X.prog X.w X.K X.mg X.base X.A X.stack s H :=
 ⟨I.ok.frames,I.ok.mod,I.bs,Nat.le_trans I.ok.bsz I.sz,I.stack,I.stkFree,I.hok,I.bare⟩
theorem Inv.after {Q : VK} {u : Value} (I : Inv X pins σ H s) (h : CE X.stack X.prog X.w H s Q u s') : EP X pins σ Q u s' := by
 obtain ⟨v,H',os,bare,un,hok,r,q⟩ := h
 obtain ⟨hh,g,d,t,os'⟩ := s'
 obtain rfl : os' = s.os := os
 exact ⟨v,H',I.call (h' := hh) (g' := g) (d' := d) (t' := t) (ch := []) un hok bare (λ b z => absurd z (by simp)),r,q⟩
end
def tCall (sp : Sp) (dvs : List V) (E : XK) (t : TA) : TE := λ σ H Q => t σ H λ vs H1 => sp (vs ++ dvs) H1 Q E
def tMeth (C : Addr) (m : Str) (sp : Sp) (dvs : List V) (E : XK) (ta : TE) (t : TA) : TE := λ σ H Q => ta σ H λ x H1 => ∃ a dx fs,x = .ref a /\ H1 a = some (.ins C dx fs) /\ fs.lookup m = none /\
 t σ H1 λ vs H2 => sp (x :: (vs ++ dvs)) H2 Q E
def tMake (C : Addr) (sp : Sp) (dvs : List V) (E : XK) (t : TA) : TE := λ σ H Q => t σ H λ vs H1 => ∀ x dx,H1 x = none -> H1 dx = none -> dx ≠ x ->
 sp (.ref x :: (vs ++ dvs)) (upd (upd H1 dx (.own x)) x (.ins C dx [])) (λ v H2 => v = .non /\ Q (.ref x) H2) E
def Q0F (K : PySem.W.Frag) (fd : FuncData) (ps : List Str) (ds : List Value) : Prop :=
 ∀ (s : Shared) (us : List Value),K.In s.heap -> (us ++ ds).length = ps.length -> BindsTo s fd ⟨us,[]⟩ (ps.zip (us ++ ds))
theorem Q0F.all {K : PySem.W.Frag} {fd : FuncData} {ps : List Str} (h : ∀ us : List Value,us.length = ps.length -> bindArgs fd ⟨us,[]⟩ = pure (ps.zip us)) : Q0F K fd ps [] := λ s us _ hl => by
 rw [List.append_nil] at hl ⊢
 exact .of_eq (h us hl)
def Q3N (CX : CXT) (X : Cx) (E : XK) : Prop := ∀ (pins : List (Addr × Obj)) (σ : St) (H : Hp) (s : Shared) (e : Value) (s' : Shared),Inv X pins σ H s -> CX X.stack H s E e s' -> X.xe e s'
section
variable {X : Cx} {CX : CXT} {k : Nat} {f C : Addr} {fd : FuncData} {ps : List Str} {sp : Sp} {dvs : List V} {ds : List Value} {E : XK} {x m : Str} {p pos apos : Pos} {e o : Expr} {es : List Expr} {ta : TE} {t : TA}
theorem run_fn {pins : List (Addr × Obj)} {σ : St} {H : Hp} {s : Shared} {Q : VK} {us : List Value} {vs : List V} (F : FnOk X.prog X.w X.K X.mg X.base CX k f fd ps sp) (hr : Room k X.A) (hb : Q0F X.K fd ps ds) (hd : Vals dvs ds) (hx : Q3N CX X E)
  (I : Inv X pins σ H s) (r : Vals vs us) (h : sp (vs ++ dvs) H Q E) : wpAny (model X.prog X.w) X.A (call (.ref f) us) (EP X pins σ Q) X.xe s := by
 have r2 : Vals (vs ++ dvs) (us ++ ds) := r.append hd
 have hl : (us ++ ds).length = ps.length := by rw [<- r2.length]; exact F.len _ _ _ _ h
 refine wpAny_call (codeAny_mono (F.run X.A X.stack s H ⟨us,[]⟩ (us ++ ds) (vs ++ dvs) Q E hr I.env0 (hb s us I.kIn hl) r2 h) λ r s' hq => ?_)
 cases r with
 | error e => exact hx pins σ H s e s' I hq
 | ok fl =>
  cases fl with
  | ret u => exact I.after hq
  | next => exact False.elim hq
  | brk => exact False.elim hq
  | cont => exact False.elim hq
theorem pe_call (F : FnOk X.prog X.w X.K X.mg X.base CX k f fd ps sp) (hr : Room k X.A) (hg : Gl X x) (hm : X.mg x = some (.ref f)) (hk : PySem.W.keepIn X.K (.ref f) = true) (hb : Q0F X.K fd ps ds) (hd : Vals dvs ds) (hx : Q3N CX X E)
  (ha : PA X (e :: es) t) (hdb : (x == ("__debug__" : Str)) = false := by decide) (he : starEach (e :: es) X.env = (false,eval e X.env) :: starEach es X.env := by rfl) (hpl : (backTo pos (starEach es X.env)).any (·.1) = false := by rfl) :
  PE X (.Call (.Name x p) (e :: es) [] pos) (tCall sp dvs E t) := by
 intro pins s σ H Q I h
 refine wpAny_Call_Name_kw (Q2v I hg hm ?_ hdb)
 refine PySem.W.callWith_K (h₀ := X.base) I.ok.mod.kin hk (thn (ha pos pins s σ H _ I h) λ us s1 ⟨vs,H1,I1,r,q⟩ => ⟨I1.kIn,?_⟩) he hpl
 exact run_fn F hr hb hd hx I1 r q
theorem pe_meth {pl : Sem Bool} (he : PE X o ta) (c : Cls X.K C) (hm : Meth X.K C m f) (F : FnOk X.prog X.w X.K X.mg X.base CX k f fd ps sp) (hr : Room k X.A) (hb : Q0F X.K fd ps ds) (hd : Vals dvs ds) (hx : Q3N CX X E) (ha : PA X (e :: es) t)
  (hst : starEach (e :: es) X.env = (false,eval e X.env) :: starEach es X.env := by rfl) (hpl : (backTo pos (starEach es X.env)).any (·.1) = false := by rfl)
  (ht : eval (.Call (.Attribute o m apos) (e :: es) [] pos) X.env = (do
   let ov <- eval o X.env
   standAt apos.atName
   let (f,first) <- holding [ov] (getMethod ov m pl)
   callWith pos f first (backTo pos (starEach (e :: es) X.env)) (backToKw pos (keywordEach [] X.env))) := by rfl) :
  PE X (.Call (.Attribute o m apos) (e :: es) [] pos) (tMeth C m sp dvs E ta t) := by
 intro pins s σ H Q I h
 refine PySem.W.methodCall_KW (pl := pl) (thn (he pins s σ H _ I h) λ u s1 ⟨x,H1,I1,rx,a,dx,fs,ex,ea,l,q⟩ => ?_) ht
 subst ex
 obtain rfl : u = Value.ref a := rx
 refine Q3E I1 ea c hm l ?_
 refine PySem.W.callWith_K (first := [.ref a]) (h₀ := X.base) I.ok.mod.kin hm.kp (thn (ha pos pins s1 σ H1 _ I1 q) λ us s2 ⟨vs,H2,I2,r,q2⟩ => ⟨I2.kIn,?_⟩) hst hpl
 exact run_fn (us := .ref a :: us) (vs := .ref a :: vs) F hr hb hd hx I2 (.cons rfl r) q2
theorem pe_meth0 {pl : Sem Bool} (he : PE X o ta) (c : Cls X.K C) (hm : Meth X.K C m f) (F : FnOk X.prog X.w X.K X.mg X.base CX k f fd ps sp) (hr : Room k X.A) (hb : Q0F X.K fd ps ds) (hd : Vals dvs ds) (hx : Q3N CX X E)
  (ht : eval (.Call (.Attribute o m apos) [] [] pos) X.env = (do
   let ov <- eval o X.env
   standAt apos.atName
   let (f,first) <- holding [ov] (getMethod ov m pl)
   callWith pos f first (backTo pos (starEach [] X.env)) (backToKw pos (keywordEach [] X.env))) := by rfl) :
  PE X (.Call (.Attribute o m apos) [] [] pos) (tMeth C m sp dvs E ta tNil) := by
 intro pins s σ H Q I h
 refine PySem.W.methodCall_KW (pl := pl) (thn (he pins s σ H _ I h) λ u s1 ⟨x,H1,I1,rx,a,dx,fs,ex,ea,l,q⟩ => ?_) ht
 subst ex
 obtain rfl : u = Value.ref a := rx
 refine Q3E I1 ea c hm l ?_
 exact PySem.W.callWith_K0 (first := [.ref a]) I1.kIn hm.kp (run_fn (us := [.ref a]) (vs := [.ref a]) F hr hb hd hx I1 (.cons rfl .nil) q)
structure Mk (K : PySem.W.Frag) (C f : Addr) : Prop where
 makes : PySem.W.makesIn K C = true
 init : PySem.W.findIn K (.ref C) "__init__" = some (some (.ref f))
 fn : PySem.W.isFn K (.ref f) = true
 kp : PySem.W.keepIn K (.ref C) = true
theorem run_make {pins : List (Addr × Obj)} {σ : St} {H : Hp} {s : Shared} {Q : VK} {us : List Value} {vs : List V} (M : Mk X.K C f) (F : FnOk X.prog X.w X.K X.mg X.base CX k f fd ps sp) (hr : Room (k + 1) X.A) (hb : Q0F X.K fd ps ds) (hd : Vals dvs ds)
  (hx : Q3N CX X E) (I : Inv X pins σ H s) (r : Vals vs us)
  (h : ∀ x dx,H x = none -> H dx = none -> dx ≠ x -> sp (.ref x :: (vs ++ dvs)) (upd (upd H dx (.own x)) x (.ins C dx [])) (λ v H2 => v = .non /\ Q (.ref x) H2) E) :
  wpAny (model X.prog X.w) X.A (call (.ref C) us) (EP X pins σ Q) X.xe s := by
 have hq := h (s.heap.objs.size + 1) s.heap.objs.size (I.hok.fresh (Nat.le_succ _)) (I.hok.fresh (Nat.le_refl _)) (Nat.ne_of_lt (Nat.lt_succ_self _))
 have I2 := Inv.made (C := C) I
 have r2 : Vals (V.ref (s.heap.objs.size + 1) :: (vs ++ dvs)) (Value.ref (s.heap.objs.size + 1) :: (us ++ ds)) := .cons rfl (r.append hd)
 have hl : (Value.ref (s.heap.objs.size + 1) :: us ++ ds).length = ps.length := by
  have e := r2.length
  rw [F.len _ _ _ _ hq] at e
  exact e.symm
 refine wpAny_call (make_map (f := f) I.kIn M.makes M.init (beq_iff_eq.mp M.fn) (codeAny_mono (F.run _ X.stack _ _ ⟨Value.ref (s.heap.objs.size + 1) :: us,[]⟩ (Value.ref (s.heap.objs.size + 1) :: (us ++ ds)) _ _ E (hr.make C us [])
  (I2.env0.make C us []) (hb _ (Value.ref (s.heap.objs.size + 1) :: us) I2.kIn hl) r2 hq) λ r s' hq' => ?_))
 cases r with
 | error e => exact hx pins σ _ _ e s' I2 hq'
 | ok fl =>
  cases fl with
  | ret u =>
   obtain ⟨v,H',I3,rv,ev,q3⟩ := I2.after hq'
   subst ev
   exact ⟨rv,⟨V.ref (s.heap.objs.size + 1),H',I3,rfl,q3⟩⟩
  | next => exact False.elim hq'
  | brk => exact False.elim hq'
  | cont => exact False.elim hq'
theorem pe_make (M : Mk X.K C f) (F : FnOk X.prog X.w X.K X.mg X.base CX k f fd ps sp) (hr : Room (k + 1) X.A) (hg : Gl X x) (hm : X.mg x = some (.ref C)) (hb : Q0F X.K fd ps ds) (hd : Vals dvs ds) (hx : Q3N CX X E)
  (ha : PA X (e :: es) t) (hdb : (x == ("__debug__" : Str)) = false := by decide) (he : starEach (e :: es) X.env = (false,eval e X.env) :: starEach es X.env := by rfl) (hpl : (backTo pos (starEach es X.env)).any (·.1) = false := by rfl) :
  PE X (.Call (.Name x p) (e :: es) [] pos) (tMake C sp dvs E t) := by
 intro pins s σ H Q I h
 refine wpAny_Call_Name_kw (Q2v I hg hm ?_ hdb)
 refine PySem.W.callWith_K (h₀ := X.base) I.ok.mod.kin M.kp (thn (ha pos pins s σ H _ I h) λ us s1 ⟨vs,H1,I1,r,q⟩ => ⟨I1.kIn,?_⟩) he hpl
 exact run_make M F hr hb hd hx I1 r q
end
section
variable {X : Cx} {CX : CXT} {k : Nat} {f C : Addr} {fd : FuncData} {ps ks : List Str} {sp : Sp} {E : XK} {x m : Str} {p pos apos kpos : Pos} {e o : Expr} {es : List Expr} {kws : List Keyword} {te ta : TE} {t tk : TA} {nm : Option Str}
variable {g : List Value -> List Value -> List Value} {gV : List V -> List V -> List V}
end
structure Q0o (N P : List Str) (sc : Scope) : Prop where
 kind : sc.kind = .function
 co : sc.isCoroutine = false
 gen : sc.isGenerator = false
 nd : N.Nodup
 pre : N.take P.length = P
 par : ∀ x ∈ P,sc.names.lookup x = some .local \/ sc.names.lookup x = some .cell
 nofree : ∀ y ∈ sc.names,y.2 ≠ .free
theorem bindL_out {kindOf : Str -> Option NameKind} {x : Str} : ∀ {binds : List (Str × Value)} {m : Str -> Option Value},(∀ v,(x,v) ∉ binds) -> bindL kindOf binds m x = m x
 | [],_,_ => rfl
 | (n,v) :: r,m,h => by
  unfold bindL
  rw [bindL_out λ w hw => h w (List.mem_cons_of_mem _ hw)]
  split
  ·have : x ≠ n := by rintro rfl; exact h v List.mem_cons_self
   simp [this]
  ·rfl
theorem bindC_out {kindOf : Str -> Option NameKind} {x : Str} : ∀ {binds : List (Str × Value)} {m : Str -> Option Value},(∀ v,(x,v) ∉ binds) -> bindC kindOf binds m x = m x
 | [],_,_ => rfl
 | (n,v) :: r,m,h => by
  unfold bindC
  rw [bindC_out λ w hw => h w (List.mem_cons_of_mem _ hw)]
  split
  ·rfl
  ·have : x ≠ n := by rintro rfl; exact h v List.mem_cons_self
   simp [this]
theorem bindL_get {kindOf : Str -> Option NameKind} {x : Str} {v : Value} : ∀ {P : List Str} {vs : List Value} {i : Nat} {m : Str -> Option Value},P.Nodup -> P[i]? = some x -> vs[i]? = some v -> kindOf x = some .local ->
  bindL kindOf (P.zip vs) m x = some v
 | [],_,_,_,_,h,_,_ => by simp at h
 | _ :: _,[],_,_,_,_,h,_ => by simp at h
 | p :: P,w :: vs,0,m,nd,h1,h2,hk => by
  simp at h1 h2; subst h1; subst h2
  show bindL kindOf ((p,w) :: P.zip vs) m p = _
  unfold bindL
  rw [bindL_out λ v hv => (List.nodup_cons.mp nd).1 (List.of_mem_zip hv).1,if_pos hk]
  simp
 | p :: P,w :: vs,i + 1,m,nd,h1,h2,hk => by
  show bindL kindOf ((p,w) :: P.zip vs) m x = _
  unfold bindL
  exact bindL_get (i := i) (List.nodup_cons.mp nd).2 (by simpa using h1) (by simpa using h2) hk
theorem bindC_get {kindOf : Str -> Option NameKind} {x : Str} {v : Value} : ∀ {P : List Str} {vs : List Value} {i : Nat} {m : Str -> Option Value},P.Nodup -> P[i]? = some x -> vs[i]? = some v -> kindOf x ≠ some .local ->
  bindC kindOf (P.zip vs) m x = some v
 | [],_,_,_,_,h,_,_ => by simp at h
 | _ :: _,[],_,_,_,_,h,_ => by simp at h
 | p :: P,w :: vs,0,m,nd,h1,h2,hk => by
  simp at h1 h2; subst h1; subst h2
  show bindC kindOf ((p,w) :: P.zip vs) m p = _
  unfold bindC
  rw [bindC_out λ v hv => (List.nodup_cons.mp nd).1 (List.of_mem_zip hv).1,if_neg hk]
  simp
 | p :: P,w :: vs,i + 1,m,nd,h1,h2,hk => by
  show bindC kindOf ((p,w) :: P.zip vs) m x = _
  unfold bindC
  exact bindC_get (i := i) (List.nodup_cons.mp nd).2 (by simpa using h1) (by simpa using h2) hk
def start (N : List Str) (vs : List V) : St := vs.map some ++ List.replicate (N.length - vs.length) none
def cxOf (CX : CXT) (P : Program) (w : World) (K : PySem.W.Frag) (mg : Str -> Option Value) (base : Heap) (N : List Str) (qual : Str) (scope : Scope) (f : Addr) (cd : Value) (A : Around) (outer : List Env) (s : Shared) (H : Hp) (E : XK) : Cx where
 prog := P
 w := w
 K := K
 mg := mg
 base := base
 A := A.deeper (envOfC qual scope s.heap.objs.size f cd)
 N := N
 s₀ := s
 H₀ := H
 env := envOfC qual scope s.heap.objs.size f cd
 outer := outer
 stack := envOfC qual scope s.heap.objs.size f cd :: outer
 ex := []
 calm := true
 fn := λ _ => true
 pn := []
 xe := λ e s' => wpAny (model P w) (A.deeper (envOfC qual scope s.heap.objs.size f cd)) (leaving (envOfC qual scope s.heap.objs.size f cd) e) (λ _ s'' => CX outer H s E e s'') (λ e' s'' => CX outer H s E e' s'') s'
theorem cell_has {sc : Scope} {n : Nat} {x : Str} (h : sc.names.lookup x = some .cell) : ∃ c,(cellsFrom n sc.names []).lookup x = some c := by
 have q := PySem.W.cellsFrom_some sc.names n [] (.inl h)
 exact Option.isSome_iff_exists.mp q
theorem inv_start {CX : CXT} {P : Program} {w : World} {K : PySem.W.Frag} {mg : Str -> Option Value} {base : Heap} {N ps : List Str} {qual : Str} {scope : Scope} {f : Addr} {cd : Value} {A : Around} {outer : List Env} {s s1 : Shared} {H : Hp} {E : XK} {us : List Value} {vs : List V}
  (S : Q0o N ps scope) (hd : A.handled = none) (e0 : Env0 P w K mg base A outer s H) (hl : vs.length = ps.length) (r : Vals vs us)
  (x : InCallC s s.heap.objs.size (bindL (envOfC qual scope s.heap.objs.size f cd).kindOf (ps.zip us) λ _ => none) (cellsFrom (s.heap.objs.size + 1) scope.names []) (bindC (envOfC qual scope s.heap.objs.size f cd).kindOf (ps.zip us) λ _ => none) s1) :
  Inv (cxOf CX P w K mg base N qual scope f cd A outer s H E) [] (start N vs) H s1 := by
 have hpl : ps.length <= N.length := by have := congrArg List.length S.pre; rw [List.length_take] at this; omega
 obtain ⟨h1,tk,rfl,hk⟩ := x.done
 have noA : ∀ b : Addr,b ∉ (cxOf CX P w K mg base N qual scope f cd A outer s H E).ex := λ b z => absurd (show b ∈ ([] : List Addr) from z) (by simp)
 refine ⟨⟨e0.mod,S.kind,rfl,rfl,Nat.le_refl _,λ y z c h1 h2 => ?_,λ y hy => ?_,λ y c _ h => ?_,λ _ => hd,Around.frames_deeper e0.frames,.inr ⟨rfl,rfl⟩,λ b z => absurd z (noA b),e0.bs,e0.bsz,λ b _ _ => noA b,λ b z => absurd z (noA b),e0.funs,e0.frf⟩,
  rfl,e0.bare,Un.kept hk,⟨_,x.toInCall.ns,λ i y v h1 h2 h3 => ?_⟩,λ y c h => ⟨_,x.cell y c h⟩,e0.hok.fresh (Nat.le_refl _),λ y c h => ?_,λ p hp => absurd (show p ∈ ([] : List (Addr × Obj)) from hp) (by simp),e0.hok.kept hk,?_⟩
 ·exact name_of_addr x.apart (PySem.mem_of_lookup h1) (PySem.mem_of_lookup h2)
 ·have hy : scope.names.lookup y = some .cell \/ scope.names.lookup y = some .free := hy
  rcases hy with hy | hy
  ·exact cell_has hy
  ·exact absurd rfl (S.nofree _ (PySem.mem_of_lookup hy))
 ·exact Nat.le_of_lt (x.above y c (PySem.mem_of_lookup h))
 ·have hi : i < vs.length := by
   unfold start at h2
   by_cases hi : i < vs.length
   ·exact hi
   ·rw [List.getElem?_append_right (by simpa using hi)] at h2
    rw [List.getElem?_replicate] at h2
    split at h2 <;> cases h2
  have ha : vs[i]? = some v := by
   unfold start at h2
   rw [List.getElem?_append_left (by simpa using hi),List.getElem?_map] at h2
   cases e : vs[i]? with
   | none => rw [e] at h2; cases h2
   | some a => rw [e] at h2; cases h2; rfl
  obtain ⟨u,hu,rv⟩ := r.get ha
  have hp : ps[i]? = some y := by
   rw [<- S.pre,List.getElem?_take_of_lt (by omega)]; exact h1
  have ndP : ps.Nodup := by rw [<- S.pre]; exact S.nd.sublist (List.take_sublist _ _)
  refine ⟨u,rv,?_⟩
  rcases S.par y (List.mem_of_getElem? hp) with k | k
  ·exact .inl ⟨k,bindL_get ndP hp hu k⟩
  ·obtain ⟨c,e⟩ := cell_has (n := s.heap.objs.size + 1) k
   refine .inr ⟨.inl k,c,e,?_⟩
   have q := x.cell y c e
   rw [bindC_get ndP hp hu (by show scope.names.lookup y ≠ _; rw [k]; decide)] at q
   exact q
 ·exact e0.hok.fresh (Nat.le_of_lt (x.above y c (PySem.mem_of_lookup h)))
 ·unfold start
  show _ = N.length
  rw [List.length_append,List.length_map,List.length_replicate]
  omega
theorem fn_of {CX : CXT} {P : Program} {w : World} {K : PySem.W.Frag} {mg : Str -> Option Value} {base : Heap} {k : Nat} {f : Addr} {name qual : Str} {params : Arguments} {body : List Stmt} {scope : Scope} {dV kV doc pm cdv ct oc : Value} {an od : Option Addr}
  {osl : Array (Option Value)} {N ps : List Str} {sp : Sp} (lk : K.lookup f = some ⟨oc,od,.func (PySem.W.fnOf name qual params body scope dV kV doc pm an cdv ct),osl⟩) (hcd : PySem.W.codeIn K cdv qual = true) (S : Q0o N ps scope)
  (len : ∀ vs H Q E,sp vs H Q E -> vs.length = ps.length)
  (hbody : ∀ (A : Around) (outer : List Env) (s : Shared) (H : Hp) (vs : List V) (Q : VK) (E : XK),Room k (A.deeper (envOfC qual scope s.heap.objs.size f cdv)) -> sp vs H Q E ->
   ∃ t,PSs (cxOf CX P w K mg base N qual scope f cdv A outer s H E) body t /\ t { nx := λ _ H' => Q .non H',rt := Q } (start N vs) H) :
  FnOk P w K mg base CX (k + 1) f (PySem.W.fnOf name qual params body scope dV kV doc pm an cdv ct) ps sp := by
 refine ⟨len,λ A outer s H args us vs Q E hr e0 hb r hsp => ?_⟩
 have hl := len _ _ _ _ hsp
 have KX : K.In s.heap := e0.mod.kin.keeps λ b o e => (e0.bs b o e).1
 have lim : s.heap.NoLimit := e0.mod.nolimit.keeps λ b o e => (e0.bs b o e).1
 have hkind : ∀ y ∈ ps.zip us,scope.names.lookup y.1 = some .local \/ (scope.names.lookup y.1 = some .cell /\ ((cellsFrom (s.heap.objs.size + 1) scope.names []).lookup y.1).isSome = true) := λ ⟨n,v⟩ hy => by
  rcases S.par n (List.of_mem_zip hy).1 with q | q
  ·exact .inl q
  ·exact .inr ⟨q,PySem.W.cellsFrom_some _ _ _ (.inl q)⟩
 refine codeAny_call_function hr.depth (KX _ _ lk) rfl S.co S.gen rfl (PySem.W.codeRec_of KX hcd) (hb _ _ _ _ ?_)
 refine wpAny_newFunctionEnv_cells S.kind hkind λ env he s1 x => ?_
 subst he
 refine ⟨lim.keeps x.toInCall.keep,codeAny_func ?_⟩
 obtain ⟨t,ht,hq⟩ := hbody A outer s H vs Q E (hr.deeper _) hsp
 have I : Inv (cxOf CX P w K mg base N qual scope f cdv A outer s H E) [] (start N vs) H s1 := inv_start S hr.hd e0 hl r x
 refine wpAny_mono (ht [] s1 (start N vs) H _ I hq) (λ fl s' hs => ?_) λ e s' hs => hs
 have fin : ∀ {σ' : St} {H' : Hp} {v : V} {u : Value},Inv (cxOf CX P w K mg base N qual scope f cdv A outer s H E) [] σ' H' s' -> RelV v u -> Q v H' -> CE outer P w H s Q u s' :=
  λ {σ' H' v u} J rv q => ⟨v,H',J.os,J.bare,J.base,J.hok,rv,q⟩
 cases fl with
 | ret u =>
  obtain ⟨v,σ',H',J,rv,q⟩ := hs
  exact fin J rv q
 | next =>
  obtain ⟨σ',H',J,q⟩ := hs
  exact fin (v := V.non) (u := Value.none) J rfl q
 | brk =>
  obtain ⟨_,_,_,q⟩ := hs
  exact False.elim q
 | cont =>
  obtain ⟨_,_,_,q⟩ := hs
  exact False.elim q
end L2
namespace L2
open PySem PySem.Spec PyProof.Rows
section
variable {X : Cx} {x : Str} {p pos : Pos} {e : Expr} {es : List Expr} {t : TA} {id T : String} {r : List V -> Hp -> VK -> Prop}
def tCB (r : List V -> Hp -> VK -> Prop) (t : TA) : TE := λ σ H Q => t σ H λ vs H1 => r vs H1 Q
theorem pe_callB (hc : CallR X (.builtin id) r) (hg : Gl X x) (hm : X.mg x = none) (hv : bootBuiltins x = some (.builtin id)) (ha : PA X (e :: es) t) (hn : x ≠ "__name__" := by decide) (hdb : (x == ("__debug__" : Str)) = false := by decide)
  (he : starEach (e :: es) X.env = (false,eval e X.env) :: starEach es X.env := by rfl) (hpl : (backTo pos (starEach es X.env)).any (·.1) = false := by rfl) : PE X (.Call (.Name x p) (e :: es) [] pos) (tCB r t) := by
 intro pins s σ H Q I h
 refine wpAny_Call_Name_kw (Q3p I hg hm hv ?_ hn hdb)
 exact PyProof.Rows.callWith_builtin1 (thn (ha pos pins s σ H _ I h) λ us s1 ⟨vs,H1,I1,r1,q1⟩ => hc pins s1 σ H1 vs us Q I1 r1 q1) he hpl
theorem pe_callTy (hc : CallR X (.type T) r) (hg : Gl X x) (hm : X.mg x = none) (hv : bootBuiltins x = some (.type T)) (ha : PA X (e :: es) t) (hn : x ≠ "__name__" := by decide) (hdb : (x == ("__debug__" : Str)) = false := by decide)
  (he : starEach (e :: es) X.env = (false,eval e X.env) :: starEach es X.env := by rfl) (hpl : (backTo pos (starEach es X.env)).any (·.1) = false := by rfl) : PE X (.Call (.Name x p) (e :: es) [] pos) (tCB r t) := by
 intro pins s σ H Q I h
 refine wpAny_Call_Name_kw (Q3p I hg hm hv ?_ hn hdb)
 exact PyProof.Rows.callWith_type1 (thn (ha pos pins s σ H _ I h) λ us s1 ⟨vs,H1,I1,r1,q1⟩ => hc pins s1 σ H1 vs us Q I1 r1 q1) he hpl
end
end L2
namespace HT
open PySem PyProof.Rows
def lexLt : List Int -> List Int -> Bool
 | [],[] => false
 | [],_ :: _ => true
 | _ :: _,[] => false
 | x :: xs,y :: ys => if x = y then lexLt xs ys else decide (x < y)
section
open PySem.SeqAt
open PySem.AutoSeq1 (wpAny_loadPart')
open PySem.MeetsSeq PySem.MeetsSeq2 PySem.MeetsSeq3
end
section
variable {prog : Program} {w : World} {A : Around} {E : Value -> Shared -> Prop} {s : Shared}
def sIx (n d : Nat) : Option Int -> Nat
 | none => d
 | some v => if v < 0 then (v + (n : Int)).toNat else min v.toNat n
theorem sIx_none (n d : Nat) : sIx n d none = d := rfl
theorem sIx_nat (n d k : Nat) : sIx n d (some (k : Int)) = min k n := by
 show (if (k : Int) < 0 then ((k : Int) + (n : Int)).toNat else min (k : Int).toNat n) = min k n
 rw [if_neg (by omega),Int.toNat_natCast]
end
end HT
namespace L2
open PySem PySem.Spec PyProof.Rows
abbrev TO := St -> Hp -> (Option Int -> Hp -> Prop) -> Prop
def PO (X : Cx) (e : Option Expr) (t : TO) : Prop :=
 ∀ (pins : List (Addr × Obj)) (s : Shared) (σ : St) (H : Hp) (Q : Option Int -> Hp -> Prop),Inv X pins σ H s -> t σ H Q ->
  wpAny (model X.prog X.w) X.A (evalPart e X.env) (λ u s' => ∃ o H',Inv X pins σ H' s' /\ IsPart u o /\ Q o H') X.xe s
def tNoPart : TO := λ _ H Q => Q none H
def tPart (t : TE) : TO := λ σ H Q => t σ H λ x H1 => ∃ i,x = .int i /\ Q (some i) H1
section
variable {X : Cx} {e : Expr} {te : TE} {lo hi : Option Expr} {tl th : TO} {pos p2 : Pos}
theorem po_none : PO X none tNoPart := by
 intro pins s σ H Q I h
 rw [evalPart_none]
 exact wpAny_pure ⟨none,H,I,.none,h⟩
theorem po_some (h : PE X e te) : PO X (some e) (tPart te) := by
 intro pins s σ H Q I hw
 rw [evalPart_some]
 refine thn (h pins s σ H _ I hw) λ u s1 ⟨x,H1,I1,r1,q1⟩ => ?_
 obtain ⟨i,rfl,q⟩ := q1
 obtain ⟨t,rfl⟩ := r1
 exact ⟨some i,H1,I1,.int i t,q⟩
def SlR (X : Cx) (r : V -> Option Int -> Option Int -> Hp -> VK -> Prop) : Prop :=
 ∀ (pins : List (Addr × Obj)) (s : Shared) (σ : St) (H : Hp) (x : V) (v vl vu : Value) (lo hi : Option Int) (sl : Addr) (Q : VK),Inv X pins σ H s -> RelV x v -> s.heap.IsSliceOf sl vl vu .none -> IsPart vl lo -> IsPart vu hi -> r x lo hi H Q ->
  ∃ T id,typeLookup (.type T) "__getitem__" = pure (some (.builtin id)) /\ s.TypeIs v T /\ wpAny (model X.prog X.w) X.A (getItem v (.ref sl)) (EP X pins σ Q) X.xe s
def tSl (r : V -> Option Int -> Option Int -> Hp -> VK -> Prop) (te : TE) (tl th : TO) : TE := λ σ H Q => te σ H λ x H1 => tl σ H1 λ l H2 => th σ H2 λ u H3 => r x l u H3 Q
theorem pe_slice {r : V -> Option Int -> Option Int -> Hp -> VK -> Prop} (hr : SlR X r) (he : PE X e te) (hl : PO X lo tl) (hu : PO X hi th) : PE X (.Subscript e (.Slice lo hi none p2) pos) (tSl r te tl th) := by
 intro pins s σ H Q I h
 refine Subscript_ (thn (he pins s σ H _ I h) λ v s1 ⟨x,H1,I1,r1,q1⟩ => ?_)
 refine wpAny_Slice (thn (hl pins s1 σ H1 _ I1 q1) λ vl s2 ⟨l,H2,I2,pl,q2⟩ => thn (hu pins s2 σ H2 _ I2 q2) λ vu s3 ⟨u,H3,I3,pu,q3⟩ => ?_)
 rw [evalPart_none]
 refine wpAny_pure ?_
 have I4 : Inv X pins σ H3 { s3 with heap := s3.heap.push { cls := .type "slice",data := .fields #[vl,vu,.none] } } := I3.kept (t' := s3.toks) λ b ob q => Heap.get?_push_of_some _ q
 obtain ⟨T,id,hT,ht,hg⟩ := hr pins { s3 with heap := s3.heap.push { cls := .type "slice",data := .fields #[vl,vu,.none] } } σ H3 x v vl vu l u s3.heap.objs.size Q I4 r1 (Heap.IsSliceOf.new ..) pl pu q3
 show wpAny (model X.prog X.w) X.A (subscriptTail e (.Slice lo hi none p2) v (.ref s3.heap.objs.size)) (EP X pins σ Q) X.xe { s3 with heap := s3.heap.push { cls := .type "slice",data := .fields #[vl,vu,.none] } }
 exact tail_any (ops := [.ref s3.heap.objs.size,v]) ht hT hg (by with_unfolding_all rfl)
def cutV (xs : List V) (lo hi : Option Int) : List V := (xs.drop (HT.sIx xs.length 0 lo)).take (HT.sIx xs.length xs.length hi - HT.sIx xs.length 0 lo)
theorem cutV_length (xs : List V) (lo hi : Option Int) : (cutV xs lo hi).length <= xs.length := by
 unfold cutV
 rw [List.length_take,List.length_drop]
 omega
end
end L2
namespace L2
open PySem PySem.Spec PyProof.Rows
def ixN (n : Nat) (i : Int) : Option Nat := if 0 <= i then (if i < n then some i.toNat else none) else if -(n : Int) <= i then some (i + n).toNat else none
def atI {α : Type} (xs : List α) (i : Int) : Option α := (ixN xs.length i).bind λ j => xs[j]?
theorem ixN_seq {n : Nat} {i : Int} {j : Nat} (h : ixN n i = some j) : seqIndex? i n = some j /\ j < n /\ -(n : Int) <= i /\ i < n := by
 unfold ixN at h
 by_cases h0 : 0 <= i
 ·rw [if_pos h0] at h
  by_cases h1 : i < n
  ·rw [if_pos h1] at h
   have e : i.toNat = j := Option.some.inj h
   exact ⟨by rw [seqIndex_of h0 h1,e],by omega,by omega,h1⟩
  ·rw [if_neg h1] at h; cases h
 ·rw [if_neg h0] at h
  by_cases h1 : -(n : Int) <= i
  ·rw [if_pos h1] at h
   have e : (i + n).toNat = j := Option.some.inj h
   exact ⟨by rw [seqIndex_neg (by omega) h1,e],by omega,h1,by omega⟩
  ·rw [if_neg h1] at h; cases h
theorem atI_get {α : Type} {xs : List α} {i : Int} {v : α} (h : atI xs i = some v) : ∃ j,seqIndex? i xs.length = some j /\ xs[j]? = some v /\ j < xs.length /\ -(xs.length : Int) <= i /\ i < xs.length := by
 unfold atI at h
 cases e : ixN xs.length i with
 | none => rw [e] at h; cases h
 | some j =>
  rw [e] at h
  obtain ⟨h1,h2,h3,h4⟩ := ixN_seq e
  exact ⟨j,h1,h,h2,h3,h4⟩
theorem Q2z {α : Type} {xs : List α} {j : Nat} {v : α} (h : xs[j]? = some v) : atI xs (j : Int) = some v := by
 have hj : j < xs.length := (List.getElem?_eq_some_iff.mp h).1
 have e : ixN xs.length (j : Int) = some j := by
  unfold ixN
  rw [if_pos (by omega),if_pos (by omega)]; simp
 unfold atI; rw [e]; exact h
def PlainIx (b : Expr) : Prop := ∀ o i,subscripted b false o i = operate [o,i] (getItem o i)
def IxR (X : Cx) (r : R2) : Prop :=
 ∀ (value slice : Expr) (pins : List (Addr × Obj)) (s : Shared) (σ : St) (H : Hp) (x y : V) (v u : Value) (Q : VK),Inv X pins σ H s -> RelV x v -> RelV y u -> r x y H Q ->
  subscripted slice false v u = operate [v,u] (getItem v u) -> wpAny (model X.prog X.w) X.A (subscriptTail value slice v u) (EP X pins σ Q) X.xe s
def MtR (X : Cx) (id : String) (r : V -> List V -> Hp -> VK -> Prop) : Prop :=
 ∀ (pins : List (Addr × Obj)) (s : Shared) (σ : St) (H : Hp) (x : V) (xs : List V) (v : Value) (us : List Value) (Q : VK),Inv X pins σ H s -> RelV x v -> Vals xs us -> r x xs H Q ->
  wpAny (model X.prog X.w) X.A (call (.builtin id) (v :: us)) (EP X pins σ Q) X.xe s
section
variable {X : Cx} {a b : Expr} {ta tb : TE} {pos : Pos}
def rIxL (K : PySem.W.Frag) : R2 := λ x y H Q => ∃ p xs i v,x = .ref p /\ y = .int i /\ SqL K H p xs /\ atI xs i = some v /\ Q v H
def rIxT (K : PySem.W.Frag) : R2 := λ x y H Q => ∃ p xs i v,x = .ref p /\ y = .int i /\ SqT K H p xs /\ atI xs i = some v /\ Q v H
theorem ix_list : IxR X (rIxL X.K) := by
 intro value slice pins s σ H x y v u Q I rx ry h hs
 obtain ⟨p,xs,i,z,rfl,rfl,hq,he,q⟩ := h
 cases rx
 obtain ⟨t,rfl⟩ := ry
 obtain ⟨its,r,pl,hz⟩ := I.list hq
 obtain ⟨j,h1,h2,h3,h4,h5⟩ := atI_get he
 obtain ⟨w,ew,rw'⟩ := r.get h2
 have hl := r.length
 have hn := line63
 have fin : EP X pins σ Q w s := ⟨z,H,I,rw',q⟩
 by_cases h0 : 0 <= i
 ·have hj : i.toNat = j := by
   rw [seqIndex_of h0 h5] at h1
   exact Option.some.inj h1
  exact item_listR pl.isList h0 (by omega) (by rw [hj]; simpa using ew) fin hs
 ·have hj : (i + (its.toArray.size : Int)).toNat = j := by
   rw [seqIndex_neg (by omega) h4] at h1
   rw [List.size_toArray,<- hl]
   exact Option.some.inj h1
  exact subscriptTail_builtinR (x := w) pl.isList.typeIs slot_list_getitem.lookup
   (wpAny_getItem_list_neg (Q := λ r s' => r = w /\ EP X pins σ Q r s') pl.isList (by omega) (by rw [List.size_toArray] <;> omega) (by omega) (by rw [hj]; simpa using ew) ⟨rfl,fin⟩) hs
theorem ix_tup : IxR X (rIxT X.K) := by
 intro value slice pins s σ H x y v u Q I rx ry h hs
 obtain ⟨p,xs,i,z,rfl,rfl,hq,he,q⟩ := h
 cases rx
 obtain ⟨t,rfl⟩ := ry
 obtain ⟨its,r,pl,hz⟩ := I.tuple hq
 obtain ⟨j,h1,h2,h3,h4,h5⟩ := atI_get he
 obtain ⟨w,ew,rw'⟩ := r.get h2
 have hl := r.length
 have hn := line63
 have fin : EP X pins σ Q w s := ⟨z,H,I,rw',q⟩
 exact subscriptTail_builtinR (x := w) pl.typeIs slot_tuple_getitem.lookup
  (getItem_tuple (j := j) (Q := λ r s' => r = w /\ EP X pins σ Q r s') pl (by omega) (by omega) (by rw [List.size_toArray,<- hl]; exact h1) (by simpa using ew) ⟨rfl,fin⟩) hs
theorem slice_bounds (lo hi : Option Int) (n : Nat) : (sliceBounds lo hi none n).1 = ((HT.sIx n 0 lo : Nat) : Int) /\ (sliceBounds lo hi none n).2.1 = ((HT.sIx n n hi : Nat) : Int) /\ (sliceBounds lo hi none n).2.2 = 1 := by
 refine ⟨?_,?_,rfl⟩
 ·cases lo with
  | none => simp [sliceBounds,HT.sIx]
  | some i =>
   simp only [sliceBounds,HT.sIx,Option.getD_none,show (1 : Int) > 0 by decide,if_true]
   by_cases h : i < 0
   ·simp only [h,if_true] <;> omega
   ·simp only [h,if_false] <;> omega
 ·cases hi with
  | none => simp [sliceBounds,HT.sIx]
  | some i =>
   simp only [sliceBounds,HT.sIx,Option.getD_none,show (1 : Int) > 0 by decide,if_true]
   by_cases h : i < 0
   ·simp only [h,if_true] <;> omega
   ·simp only [h,if_false] <;> omega
theorem slicePick_cut (its : List Value) (lo hi : Option Int) : slicePick its.toArray lo hi none = ((its.drop (HT.sIx its.length 0 lo)).take (HT.sIx its.length its.length hi - HT.sIx its.length 0 lo)).toArray := by
 obtain ⟨h1,h2,h3⟩ := slice_bounds lo hi its.toArray.size
 unfold slicePick
 rw [h1,h2,h3]
 simp only [sliceRange_one,pick_run,List.size_toArray] <;> rfl
def rSlL (K : PySem.W.Frag) : V -> Option Int -> Option Int -> Hp -> VK -> Prop := λ x lo hi H Q => ∃ a xs,x = .ref a /\ SqL K H a xs /\ ∀ p,H p = none -> Q (.ref p) (upd H p (.lst (cutV xs lo hi)))
theorem sl_list : SlR X (rSlL X.K) := by
 intro pins s σ H x v vl vu lo hi sl Q I rx hs pl pu h
 obtain ⟨a,xs,rfl,hx,q⟩ := h
 cases rx
 obtain ⟨its,r,ht,hz⟩ := I.list hx
 have hlen := r.length
 refine ⟨"list",_,slot_list_getitem.lookup,ht.isList.typeIs,?_⟩
 refine wpAny_getItem_list_slice ht.isList hs pl pu .none (by simp) ?_ (by rw [List.size_toArray] <;> omega)
 rw [slicePick_cut,<- hlen]
 refine ⟨.ref s.heap.objs.size,_,I.laid (t' := s.toks) (o := .lst (cutV xs lo hi)) (λ b ob q => Heap.get?_push_of_some _ q) (Nat.le_refl _) ?_,rfl,q _ (I.hok.fresh (Nat.le_refl _))⟩
 exact ⟨Nat.le_trans (cutV_length xs lo hi) hz,_,0,(r.drop (HT.sIx xs.length 0 lo)).take (HT.sIx xs.length xs.length hi - HT.sIx xs.length 0 lo),Heap.get?_push_size _ rfl⟩
theorem call_len_seq : CallR X (.builtin "len") (λ xs H Q => ∃ p ys,xs = [.ref p] /\ (SqL X.K H p ys \/ SqT X.K H p ys) /\ Q (.int ys.length) H) := by
 intro pins s σ H xs us Q I r h
 obtain ⟨p,ys,rfl,hq,q⟩ := h
 obtain ⟨u,rfl,rx⟩ := vals1 r
 cases rx
 have hn := line63
 rcases hq with hq | hq
 ·obtain ⟨its,r',pl,hz⟩ := I.list hq
  have hlen := r'.length
  exact Calls.call_len_list pl.isList (by simp only [List.size_toArray] <;> omega) ⟨.int ys.length,H,I.tok _,⟨s.toks + 1,by rw [List.size_toArray,hlen]⟩,q⟩
 ·obtain ⟨its,r',pl,hz⟩ := I.tuple hq
  have hlen := r'.length
  exact len_tuple pl (by simp only [List.size_toArray] <;> omega) ⟨.int ys.length,H,I.tok _,⟨s.toks + 1,by rw [List.size_toArray,hlen]⟩,q⟩
theorem call_len_str : CallR X (.builtin "len") (λ xs H Q => ∃ z,xs = [.str z] /\ z.length <= sizeLine /\ Q (.int z.length) H) := by
 intro pins s σ H xs us Q I r h
 obtain ⟨z,rfl,hz,q⟩ := h
 obtain ⟨u,rfl,t,rfl⟩ := vals1 r
 have hn := line63
 exact len_str (by omega) ⟨.int z.length,H,I.tok _,⟨_,rfl⟩,q⟩
theorem call_list_of : CallR X (.type "list") (λ xs H Q => ∃ p ys,xs = [.ref p] /\ (SqL X.K H p ys \/ SqT X.K H p ys) /\ ∀ l,H l = none -> Q (.ref l) (upd H l (.lst ys))) := by
 intro pins s σ H xs us Q I r h
 obtain ⟨p,ys,rfl,hq,q⟩ := h
 obtain ⟨u,rfl,rx⟩ := vals1 r
 cases rx
 have fin : ∀ (its : List Value),Vals ys its -> ys.length <= sizeLine -> ∀ (h' : Heap) (c' : Nat),(∀ b o',s.heap.get? b = some o' -> h'.get? b = some o') ->
   h'.get? s.heap.objs.size = some { cls := .type "list",dict := none,data := .seq its.toArray c',slots := #[] } -> EP X pins σ Q (.ref s.heap.objs.size) { s with heap := h' } := λ its r' hz h' c' kp e =>
  ⟨.ref s.heap.objs.size,_,I.laid (t' := s.toks) kp (Nat.le_refl _) (show Q1n X.prog X.w _ h' _ (.lst ys) from ⟨hz,its,c',r',e⟩),rfl,q _ (I.hok.fresh (Nat.le_refl _))⟩
 rcases hq with hq | hq
 ·obtain ⟨its,r',pl,hz⟩ := I.list hq
  have hlen := r'.length
  obtain ⟨o,ho,hc,n,hd⟩ := pl.isList
  exact call_list_seq p (.inl rfl) ho hc hd (λ h' c' kp e => fin its r' hz h' c' kp e) (by simp only [List.size_toArray] <;> omega)
 ·obtain ⟨its,r',pl,hz⟩ := I.tuple hq
  have hlen := r'.length
  obtain ⟨o,ho,hc,n,hd⟩ := pl
  exact call_list_seq p (.inr rfl) ho hc hd (λ h' c' kp e => fin its r' hz h' c' kp e) (by simp only [List.size_toArray] <;> omega)
theorem call_tuple_of : CallR X (.type "tuple") (λ xs H Q => ∃ p ys,xs = [.ref p] /\ ((SqL X.K H p ys /\ ∀ l,H l = none -> Q (.ref l) (upd H l (.tup ys))) \/ (SqT X.K H p ys /\ Q (.ref p) H))) := by
 intro pins s σ H xs us Q I r h
 obtain ⟨p,ys,rfl,h⟩ := h
 obtain ⟨u,rfl,rx⟩ := vals1 r
 cases rx
 rcases h with ⟨hq,q⟩ | ⟨hq,q⟩
 ·obtain ⟨its,r',pl,hz⟩ := I.list hq
  have hlen := r'.length
  refine call_tuple_list pl.isList (λ h' kp => ?_) (by simp only [List.size_toArray] <;> omega)
  have I1 : Inv X pins σ H { s with heap := h' } := I.kept (t' := s.toks) kp
  have I2 : Inv X pins σ (upd H h'.objs.size (.tup ys)) { s with heap := h'.push { cls := .type "tuple",data := .seq its.toArray } } :=
   I1.laid (t' := s.toks) (λ b o e => Heap.get?_push_of_some _ e) (Nat.le_refl _) (show Q1n X.prog X.w _ _ _ (.tup ys) from ⟨hz,its,r',TupN.new _ _⟩)
  exact ⟨.ref h'.objs.size,_,I2,rfl,q _ (I1.hok.fresh (Nat.le_refl _))⟩
 ·obtain ⟨its,r',pl,hz⟩ := I.tuple hq
  exact call_tuple_same pl ⟨.ref p,H,I,rfl,q⟩
def tyV (K : PySem.W.Frag) (T : String) (x : V) (H : Hp) : Prop := match x with
 | .str _ => T = "str"
 | .int _ => T = "int"
 | .ref p => (T = "list" /\ ∃ xs,SqL K H p xs) \/ (T = "tuple" /\ ∃ xs,SqT K H p xs) \/
   (T = "dict" /\ ((∃ kvs,H p = some (.dK kvs)) \/ ∃ kvs,H p = some (.dT kvs))) \/ (T = "set" /\ ∃ S n,H p = some (.set S n))
 | _ => False
theorem tyV_is {pins : List (Addr × Obj)} {σ : St} {H : Hp} {s : Shared} {T : String} {x : V} {v : Value} (I : Inv X pins σ H s) (r : RelV x v) (ty : tyV X.K T x H) :
  s.TypeIs v T /\ ∀ a,v = .ref a -> ∃ ob,s.heap.get? a = some ob /\ ob.dict = none := by
 cases x with
 | str z =>
  obtain ⟨t,rfl⟩ := r
  cases (show T = "str" from ty)
  exact ⟨typeIs_str s z t,λ _ e => nomatch e⟩
 | int i =>
  obtain ⟨t,rfl⟩ := r
  cases (show T = "int" from ty)
  exact ⟨typeIs_int s i t,λ _ e => nomatch e⟩
 | ref p =>
  cases r
  rcases ty with ⟨rfl,xs,hq⟩ | ⟨rfl,xs,hq⟩ | ⟨rfl,hk⟩ | ⟨rfl,S,n,hk⟩
  ·obtain ⟨its,_,pl,_⟩ := I.list hq
   refine ⟨pl.isList.typeIs,λ a e => ?_⟩
   cases e
   obtain ⟨o,n,e,c,hd,_⟩ := pl
   exact ⟨o,e,hd⟩
  ·obtain ⟨its,_,⟨o,e1,hd,hc,_⟩,_⟩ := I.tupN hq
   refine ⟨⟨o,e1,hc⟩,λ a e => ?_⟩
   cases e
   exact ⟨o,e1,hd⟩
  ·have z : ∃ o,s.heap.get? p = some o /\ o.ExactDict := by
    rcases hk with ⟨kvs,hk⟩ | ⟨kvs,hk⟩
    ·obtain ⟨_,_,_,_,o,_,_,e,ex,_⟩ := I.hok p _ hk
     exact ⟨o,e,ex⟩
    ·obtain ⟨_,_,_,_,o,_,_,e,ex,_⟩ := I.hok p _ hk
     exact ⟨o,e,ex⟩
   obtain ⟨o,e,ex⟩ := z
   refine ⟨⟨o,e,ex.1⟩,λ a e2 => ?_⟩
   cases e2
   exact ⟨o,e,ex.2.1⟩
  ·obtain ⟨o,_,_,_,e,ex,_⟩ := I.hok p _ hk
   refine ⟨⟨o,e,ex.1⟩,λ a e2 => ?_⟩
   cases e2
   exact ⟨o,e,ex.2.1⟩
 | _ => exact False.elim ty
def tBM (K : PySem.W.Frag) (T : String) (r : V -> List V -> Hp -> VK -> Prop) (to : TE) (t : TA) : TE := λ σ H Q => to σ H λ x H1 => tyV K T x H1 /\ t σ H1 λ xs H2 => r x xs H2 Q
variable {o e : Expr} {es : List Expr} {to : TE} {t : TA} {name : Str} {apos cpos : Pos} {T id : String} {r : V -> List V -> Hp -> VK -> Prop}
theorem pe_bm (pa : PlainAttrs T) (slot : Slot T name id) (hty : typeOf (.builtin id) = pure (.type "method_descriptor")) (hm : MtR X id r) (ho : PE X o to) (ha : PA X (e :: es) t)
  (hbase : attributeBase o name X.env (eval o X.env) = eval o X.env := by rfl)
  (hfew : ((backTo cpos (starEach (e :: es) X.env)).all (λ x => !x.1) && (backToKw cpos (keywordEach [] X.env)).all (λ x => x.1.isSome)
   && decide ((e :: es).length + ([] : List Keyword).length + (if ([] : List Keyword).isEmpty then 0 else 1) < 30)) = true := by rfl)
  (hline : (apos.endLine == cpos.line) = true := by rfl) (hs : starEach (e :: es) X.env = (false,eval e X.env) :: starEach es X.env := by rfl) (hplain : (backTo cpos (starEach es X.env)).any (·.1) = false := by rfl) :
  PE X (.Call (.Attribute o name apos) (e :: es) [] cpos) (tBM X.K T r to t) := by
 intro pins s σ H Q I h
 refine wpAny_Call_method_late hbase hfew hline rfl (thn (ho pins s σ H _ I h) λ v s1 ⟨x,H1,I1,r1,ty,q1⟩ => ?_)
 obtain ⟨h1,h2⟩ := tyV_is I1 r1 ty
 refine ⟨T,id,pa,slot,hty,h1,h2,?_⟩
 have hA := ha cpos pins s1 σ H1 _ I1 q1
 rw [hs] at hA ⊢
 refine Calls.callWith_builtin (by show (false || (backTo cpos (starEach es X.env)).any (·.1)) = false; rw [hplain] <;> rfl) (Calls.evalArgs_plain ?_)
 exact thn hA λ us s2 ⟨vs,H2,I2,r2,q2⟩ => hm pins s2 σ H2 x vs v us Q I2 r1 r2 q2
end
end L2
namespace L2
open PySem PySem.Spec PyProof.Rows
def MtM (X : Cx) (id : String) (r : V -> List V -> Hp -> VK -> Prop) : Prop :=
 ∀ (pins : List (Addr × Obj)) (s : Shared) (σ : St) (H : Hp) (x : V) (xs : List V) (v : Value) (us : List Value) (Q : VK),Inv X pins σ H s -> RelV x v -> Vals xs us -> r x xs H Q ->
  wpAny (model X.prog X.w) X.A (call (.builtin id) (v :: us)) (EP X pins σ Q) X.xe s
theorem Vals.one : ∀ {x : V} {us : List Value},Vals [x] us -> ∃ u,us = [u] /\ RelV x u
 | _,_,.cons r .nil => ⟨_,rfl,r⟩
theorem Vals.eraseIdx : ∀ {xs : List V} {us : List Value} (i : Nat),Vals xs us -> Vals (xs.eraseIdx i) (us.eraseIdx i)
 | _,_,_,.nil => .nil
 | _,_,0,.cons _ t => t
 | _,_,i + 1,.cons r t => .cons r (Vals.eraseIdx i t)
section
variable {X : Cx} {pins : List (Addr × Obj)} {σ : St} {H : Hp} {s : Shared} {l b : Addr} {xs ys zs : List V}
theorem Inv.lset {its its' : List Value} {n : Nat} {f : Array Value -> Array Value} {t' : Nat} (I : Inv X pins σ H s) (hH : H l = some (.lst xs))
  (e : s.heap.get? l = some { cls := .type "list",data := .seq its.toArray n }) (hf : f its.toArray = its'.toArray) (hv : Vals ys its') (hz : ys.length <= sizeLine) :
  Inv X pins σ (upd H l (.lst ys)) { s with heap := s.heap.update l (Obj.mapSeq f),toks := t' } := by
 have q := PySem.IsL.update e f
 rw [hf] at q
 refine I.write (x := l) (e := l) (by rw [hH]; exact trivial) (.inl rfl) (λ b' u hb hu => (Heap.get?_update_other s.heap (Obj.mapSeq f) (Ne.symm hb)).trans hu) ⟨_,q⟩ ?_
 exact ⟨hz,its',_,hv,q⟩
theorem Inv.lnew {its : List Value} {t' : Nat} (I : Inv X pins σ H s) (hv : Vals ys its) (hz : ys.length <= sizeLine) :
  Inv X pins σ (upd H s.heap.objs.size (.lst ys)) { s with heap := s.heap.push { cls := .type "list",data := .seq its.toArray },toks := t' } :=
 I.laid (λ _ _ q => Heap.get?_push_of_some _ q) (Nat.le_refl _) ⟨hz,its,0,hv,Heap.get?_push_size _ rfl⟩
theorem Inv.fresh (I : Inv X pins σ H s) : H s.heap.objs.size = none := I.hok.fresh (Nat.le_refl _)
theorem Inv.lstM (I : Inv X pins σ H s) (hH : H l = some (.lst xs)) : xs.length <= sizeLine /\ ∃ (its : List Value) (n : Nat),Vals xs its /\ xs.length = its.length /\ s.heap.get? l = some { cls := .type "list",data := .seq its.toArray n } := by
 obtain ⟨z,its,n,r,e⟩ := I.hok l _ hH
 exact ⟨z,its,n,r,r.length,e⟩
end
section
variable {X : Cx}
def rAppend : V -> List V -> Hp -> VK -> Prop := λ x vs H Q => ∃ l xs y,x = .ref l /\ vs = [y] /\ H l = some (.lst xs) /\ xs.length < sizeLine /\ Q .non (upd H l (.lst (xs ++ [y])))
theorem mt_append : MtM X "list.append" rAppend := by
 intro pins s σ H x vs v us Q I rx rv h
 obtain ⟨l,xs,y,rfl,rfl,hH,hz,q⟩ := h
 cases rx
 obtain ⟨u,rfl,ru⟩ := rv.one
 obtain ⟨z,its,n,r,hl,e⟩ := I.lstM hH
 refine call_meets F.slot_list_append ⟨_,e,rfl⟩ F.entry_list_append (F.args_list_append_2 _ _) (PySem.list_append l its.toArray n u (by rw [List.size_toArray]; omega)) ⟨e,?_⟩
 refine ⟨.non,_,I.lset (its' := its ++ [u]) hH e (by simp) (r.append (.cons ru .nil)) ?_,rfl,q⟩
 rw [List.length_append,List.length_singleton]
 omega
def rCat : R2 := λ x y H Q => ∃ l b xs zs,x = .ref l /\ y = .ref b /\ H l = some (.lst xs) /\ H b = some (.lst zs) /\ xs.length + zs.length <= sizeLine /\ ∀ p,H p = none -> Q (.ref p) (upd H p (.lst (xs ++ zs)))
theorem op_cat : OpR X (binaryOp .Add) rCat := by
 intro pins s σ H x y v u Q I rx ry h
 obtain ⟨l,b,xs,zs,rfl,rfl,hH,hB,hz,q⟩ := h
 cases rx
 cases ry
 obtain ⟨z,its,n,r,hl,e⟩ := I.lstM hH
 obtain ⟨z2,its2,n2,r2,hl2,e2⟩ := I.lstM hB
 refine PySem.P.add_list e e2 ?_ (by rw [List.size_toArray,List.size_toArray]; omega)
 have ea : its.toArray ++ its2.toArray = (its ++ its2).toArray := by simp
 rw [ea]
 exact ⟨.ref _,_,I.lnew (t' := s.toks) (r.append r2) (by rw [List.length_append]; omega),rfl,q _ I.fresh⟩
end
section
variable {prog : Program} {w : World} {A : Around} {E : Value -> Shared -> Prop} {s : Shared}
end
section
variable {X : Cx}
end
end L2
namespace Att
open PySem PySem.W PySem.Calls PyProof.Rows
theorem ints_of_wellAll {P : Params} {h : Heap} : ∀ (ns : List Int) (vs : List Value),WellAll P h vs (ns.map WData.int) -> IntsAre vs ns := by
 intro ns
 induction ns with
 | nil =>
  intro vs w
  rw [List.map_nil] at w
  cases w
  exact .nil
 | cons n ns ih =>
  intro vs w
  rw [List.map_cons] at w
  cases w with
  | cons a b =>
   cases a
   exact .cons _ _ (ih _ b)
theorem script_of {l : OpenLaw} {n : Nat} (hn : l.most = some n) {P : Params} {h : Heap} {args : List WData} {vals : List Value}
  (hpre : l.row.toRowW.claim.pre args = true) (hwl : WellAll P h vals args) :
  ∃ a vs ns,vals = [Value.ref a] /\ args = [WData.list (ns.map WData.int)] /\ h.get? a = some { cls := .type "list",data := .seq vs.toArray } /\ IntsAre vs ns /\ ns.length <= n := by
 have hsh : WShape.hasAll [] args [.list .int] = true := (pre_splitW hpre).1
 have hc : l.pre.holds [] { args := args } = true := (pre_splitW hpre).2
 obtain ⟨d,r,rfl,h1,h2⟩ := hasAllW_cons hsh
 obtain rfl := hasAllW_nil h2
 obtain ⟨xs,rfl,h3⟩ := hasW_list h1
 obtain ⟨ns,rfl⟩ := items_int h3
 have hlen : ns.length <= n := by
  unfold OpenLaw.pre at hc
  have h4 : (WTm.not (.lt (.lit (.int (n : Int))) (.len (.arg 0)))).holds [] { args := [.list (ns.map .int)] } = true := by
   have h4 := (holds_andW hc).1
   rw [hn] at h4
   exact h4
  have h5 := condW_of h4 (w_not (w_lt w_lit (w_len_list (w_arg rfl))))
  rw [List.length_map] at h5
  refine Nat.le_of_not_lt λ q => ?_
  have q' : (n : Int) < ((ns.length : Nat) : Int) := by omega
  first
   | (rw [decide_eq_true q'] at h5; exact absurd h5 (by decide))
   | (simp at h5; omega)
 cases hwl with
 | cons w1 w2 =>
  cases w2
  cases w1 with
  | list ho hall => exact ⟨_,_,ns,rfl,rfl,ho,ints_of_wellAll ns _ hall,hlen⟩
theorem post_true (l : OpenLaw) (args : List WData) : l.row.toRowW.claim.post args (.bool true) args = true :=
 postW_of (r := l.row.toRowW) (X := (true == true))
  (show WShape.has [] (.bool true) .bool = true by first | rfl | decide | simp [WShape.has,WShape.arms,WShape.armsAll])
  (show (WTm.eq .res (.lit (.bool true))).value [] { args := args,res := some (.bool true),after := args } = some (.bool (true == true)) from w_eq_bool (w_res rfl) w_lit) rfl
theorem attach_call {l : OpenLaw} {n : Nat} {q : Program} {loose : List Str} {XP : (Str -> Option Value) -> Heap -> Prop} {YP : World -> Heap -> Prop} {d : DefRec}
  (hn : l.most = some n) (hdf : d.params.defaults = [])
  (call : ∀ (w : World) (s₀ s₁ : Shared) (mg mb : Str -> Option Value) (fa : Addr) (o : Obj) (pm cd doc : Value) (a : Addr) (vs : List Value) (ns : List Int),
   Ground q loose [] XP w s₀ mg mb s₁.heap -> YP w s₁.heap ->
   s₁.heap.get? fa = some o -> o.data = .func (docDef d.name d.params d.body d.scope pm cd doc) -> s₁.heap.CodeRec cd d.name -> mg d.name = some (.ref fa) ->
   s₁.heap.get? a = some { cls := .type "list",data := .seq vs.toArray } -> IntsAre vs ns -> ns.length <= n -> s₁.gens = #[] ->
   codeAny (model l.prog w) callerA (.call (.ref fa) ⟨[.ref a],[]⟩) (λ r s' => r = .ok (.ret (.bool true)) /\ OldK s₁.heap s'.heap /\ s'.os = s₁.os /\ AllBare s'.gens) s₁) :
  WalkO q loose XP YP l.row.toRowW d [] (λ f vs => PySem.call f vs) := by
 intro w s₀ s₁ mg mb G Y fa o pm cd doc dV kV ho hd hcd hD hmg hg args vals as hpre hlay hrd hwl hlo
 obtain rfl : dV = .none := Dflts.none hD hdf
 obtain rfl : kV = .none := Dflts.noKw hD
 obtain ⟨a,vs,ns,rfl,rfl,hobj,hints,hlen⟩ := script_of hn hpre hwl
 refine enter_call (codeAny_mono (call w s₀ s₁ mg mb fa o pm cd doc a vs ns G Y ho (fd_plain hd) hcd hmg hobj hints hlen hg) λ r s' hq => ?_)
 obtain ⟨rfl,h2,h3,h4⟩ := hq
 exact ⟨.inl ⟨.bool true,.bool true,[],rfl,λ _ => rfl,.bool true,post_true l _,λ _ => ⟨List.Pairwise.nil,λ _ hm => (nomatch hm)⟩⟩,h2,h3,h4⟩
section
variable {prog : Program} {w : World} {A : Around} {E : Value -> Shared -> Prop} {s : Shared} {K : Frag}
end
end Att
namespace L2
open PySem PySem.Spec PyProof.Rows
theorem vals_ints : ∀ {vs : List Value} {ns : List Int},IntsAre vs ns -> Vals (ns.map V.int) vs
 | _,_,.nil => .nil
 | _,_,.cons n t h => .cons ⟨t,rfl⟩ (vals_ints h)
def Only (H : Hp) : Prop := ∀ b,H b = none \/ ∃ o xs,H b = some (.frz o (.lst xs))
theorem law_call {P : Program} {w : World} {K : PySem.W.Frag} {mg mb : Str -> Option Value} {CX : CXT} {k : Nat} {fa a : Addr} {fd : FuncData} {x : Str} {sp : Sp} {s₁ : Shared} {vs : List Value} {ns : List Int}
  (KX : K.In s₁.heap) (hns : s₁.heap.Ns mainGlobals mg) (hb : s₁.heap.Ns builtinsNs mb) (hbb : ∀ x : Str,x ≠ "__name__" -> mb x = bootBuiltins x) (hlim : s₁.heap.NoLimit) (hg : s₁.gens = #[])
  (ha : s₁.heap.get? a = some { cls := .type "list",data := .seq vs.toArray }) (hi : IntsAre vs ns) (hl : ns.length <= sizeLine) (hr : Room k callerA)
  (F : ∀ base : Heap,K.In base -> base.Ns mainGlobals mg -> FnOk P w K mg base CX k fa fd [x] sp) (hbind : ∀ (s : Shared) (u : Value),BindsTo s fd ⟨[u],[]⟩ [(x,u)])
  (hsp : ∀ H : Hp,Only H -> SqL K H a (ns.map V.int) -> sp [.ref a] H (λ v _ => v = .bl true) λ _ _ _ => False)
  (hCX : ∀ H e s',CX [] H s₁ (λ _ _ _ => False) e s' -> False) :
  codeAny (model P w) callerA (.call (.ref fa) ⟨[.ref a],[]⟩) (λ r s' => r = .ok (.ret (.bool true)) /\ OldK s₁.heap s'.heap /\ s'.os = s₁.os /\ AllBare s'.gens) s₁ := by
 have rv := vals_ints hi
 have lenV := hi.length
 -- from an abstract heap in which nothing but the script may be tracked
 have core : ∀ H : Hp,Only H -> SqL K H a (ns.map V.int) -> HOk P w H s₁.heap -> (∀ b,H b ≠ none -> b = a) -> (H a ≠ none -> K.lookup a = none) ->
   codeAny (model P w) callerA (.call (.ref fa) ⟨[.ref a],[]⟩) (λ r s' => r = .ok (.ret (.bool true)) /\ OldK s₁.heap s'.heap /\ s'.os = s₁.os /\ AllBare s'.gens) s₁ := by
  intro H hO hS hok hA hK
  have base_of : ∀ {b : Addr} {o : Obj},s₁.heap.get? b = some o -> H b = none -> (hidT s₁.heap H).get? b = some o := λ e n => hidT_get e n
  have noA : ∀ {b : Addr} {o : Obj} {es : Array DictEntry} {ep : Nat},s₁.heap.get? b = some o -> o.data = .dict es ep -> H b = none := λ {b o es ep} e d => by
   cases q : H b with
   | none => rfl
   | some u =>
    have e' : b = a := hA b (by rw [q]; simp)
    subst e'
    rw [ha] at e; cases e
    have d' : Data.seq vs.toArray _ = Data.dict es ep := d
    cases d'
  have nsK : ∀ {b : Addr} {m : Str -> Option Value},s₁.heap.Ns b m -> (hidT s₁.heap H).Ns b m := λ {b m} ⟨o,es,ep,e,d,r⟩ => ⟨o,es,ep,base_of e (noA e d),d,r⟩
  have hKb : K.In (hidT s₁.heap H) := λ b o e => base_of (KX b o e) (by
   cases q : H b with
   | none => rfl
   | some u =>
    have e' : b = a := hA b (by rw [q]; simp)
    subst e'
    rw [hK (by rw [q]; simp)] at e; cases e)
  have hM : Mod K mg (hidT s₁.heap H) := ⟨hKb,nsK hns,⟨mb,nsK hb,hbb⟩,let ⟨mc,h1,h2⟩ := hlim; ⟨mc,nsK h1,h2⟩⟩
  have e0 : Env0 P w K mg (hidT s₁.heap H) callerA [] s₁ H := ⟨rfl,hM,λ b o e => of_hidT e,Nat.le_of_eq (hidT_size _ _),trivial,λ b hb => absurd (show b ∈ ([] : List Addr) from hb) (by simp),hok,.of_eq hg⟩
  refine codeAny_mono ((F _ hKb (nsK hns)).run callerA [] s₁ H ⟨[.ref a],[]⟩ [.ref a] [.ref a] _ _ hr e0 (hbind s₁ (.ref a)) (.cons rfl .nil) (hsp H hO hS)) λ r s' h => ?_
  cases r with
  | error e => exact (hCX H e s' h).elim
  | ok fl =>
   cases fl with
   | next => exact False.elim h
   | brk => exact False.elim h
   | cont => exact False.elim h
   | ret u =>
    obtain ⟨v,H',os,bare,un,hok',r',q⟩ := h
    have q' : v = .bl true := q
    subst q'
    obtain rfl : u = Value.bool true := r'
    refine ⟨rfl,OldK.of_keep λ b o e => ?_,os,bare⟩
    cases q : H b with
    | none => exact un.keep b o e q (by intro z; exact absurd (show b ∈ ([] : List Addr) from z) (by simp)) (by simp)
    | some u =>
     rcases hO b with z | ⟨ob,xs,z⟩
     ·rw [q] at z; cases z
     ·have z2 := un.frzs b ob _ z
      obtain ⟨e1,_⟩ := hok b _ z
      obtain ⟨e2,_⟩ := hok' b _ z2
      rw [e] at e1; cases e1
      exact e2
 cases hk : K.lookup a with
 | some o =>
  -- the script is one of the module's own objects
  have e := KX a o hk
  rw [ha] at e
  cases e
  refine core (λ _ => none) (λ _ => .inl rfl) (.inr ⟨_,vs.toArray,_,hk,rfl,rfl,rfl,by rw [List.size_toArray,lenV]; exact hl,by simpa using rv⟩) (λ b u z => by have z' : (none : Option HO) = some u := z; cases z') (λ b z => absurd rfl z) λ z => absurd rfl z
 | none =>
  refine core (λ b => if b = a then some (.frz { cls := .type "list",data := .seq vs.toArray } (.lst (ns.map V.int))) else none) (λ b => ?_) (.inl (.inr ⟨{ cls := .type "list",data := .seq vs.toArray },if_pos rfl⟩)) (λ b u z => ?_) (λ b z => ?_) λ _ => hk
  ·by_cases hb : b = a
   ·exact .inr ⟨_,_,if_pos hb⟩
   ·exact .inl (if_neg hb)
  ·by_cases hb : b = a
   ·have z' := (if_pos hb).symm.trans z
    cases z'
    subst hb
    exact ⟨ha,by rw [List.length_map]; exact hl,vs,_,rv,ha⟩
   ·have z' := (if_neg hb).symm.trans z
    cases z'
  ·by_cases hb : b = a
   ·exact hb
   ·exact absurd (if_neg hb) z
end L2
namespace L2
open PySem PySem.Spec PyProof.Rows
theorem walk_of {l : PySem.W.OpenLaw} {n k : Nat} {q : Program} {loose : List Str} {XP : (Str -> Option Value) -> Heap -> Prop} {YP : World -> Heap -> Prop} {d : DefRec} {K : Params -> PySem.W.Frag} {CX : World -> CXT} {sp : World -> Sp} {x : Str}
  (hn : l.most = some n) (hn2 : n <= sizeLine) (hdf : d.params.defaults = []) (hr : Room k callerA)
  (hY : ∀ (w : World) (h : Heap),YP w h -> (K w.params).In h)
  (F : ∀ (w : World) (mg : Str -> Option Value) (fa : Addr) (h : Heap),(K w.params).In h -> h.Ns mainGlobals mg -> mg d.name = some (.ref fa) ->
   ∃ fd : FuncData,(∀ (s : Shared) (u : Value),BindsTo s fd ⟨[u],[]⟩ [(x,u)]) /\
    ∀ base : Heap,(K w.params).In base -> base.Ns mainGlobals mg -> FnOk l.prog w (K w.params) mg base (CX w) k fa fd [x] (sp w))
  (hsp : ∀ (w : World) (H : Hp) (a : Addr) (ns : List Int),ns.length <= n -> Only H -> SqL (K w.params) H a (ns.map V.int) -> sp w [.ref a] H (λ v _ => v = .bl true) λ _ _ _ => False)
  (hCX : ∀ (w : World) (H : Hp) (s : Shared) (e : Value) (s' : Shared),CX w [] H s (λ _ _ _ => False) e s' -> False) :
  PySem.W.WalkO q loose XP YP l.row.toRowW d [] (λ f vs => PySem.call f vs) := by
 refine Att.attach_call hn hdf λ w s₀ s₁ mg mb fa o pm cd doc a vs ns G Y ho hd hcd hmg hobj hints hlen hg => ?_
 have KX := hY w _ Y
 obtain ⟨fd,hb,hF⟩ := F w mg fa _ KX G.T.g hmg
 exact law_call KX G.T.g G.T.b G.T.builtins G.T.nolimit hg hobj hints (Nat.le_trans hlen hn2) hr hF hb (λ H hO hS => hsp w H a ns hlen hO hS) λ H e s' => hCX w H s₁ e s'
end L2
namespace L2
open PySem PySem.Spec PyProof.Rows
def Q1N (s : Stmt) (j : Nat) : Stmt := match s with
 | .ClassDef _ _ _ body _ _ _ _ _ _ _ => body.getD j (.Pass ⟨0,0,0,0⟩)
 | _ => .Pass ⟨0,0,0,0⟩
def Q0q (s : Stmt) : Arguments := match s with
 | .FunctionDef _ a _ _ _ _ _ _ _ _ => a
 | _ => { posonlyargs := [],args := [],vararg := none,kwonlyargs := [],kw_defaults := [],kwarg := none,defaults := [] }
def Q0l (s : Stmt) : List Stmt := match s with
 | .FunctionDef _ _ b _ _ _ _ _ _ _ => b
 | _ => []
def Q0f (s : Stmt) : Scope := match s with
 | .FunctionDef _ _ _ _ _ _ sc _ _ _ => sc
 | _ => { kind := .function,names := [],isGenerator := false,isCoroutine := false }
abbrev CX0 : CXT := λ _ _ _ _ _ _ => False
abbrev E0 : XK := λ _ _ _ => False
theorem pass0 {X : Cx} : Q3N CX0 X E0 := λ _ _ _ _ _ _ _ h => h.elim
structure Fun (K : PySem.W.Frag) (x qual : Str) (st : Stmt) (f : Addr) (fd : FuncData) : Prop where
 ex : ∃ (oc : Value) (od : Option Addr) (kV doc pm : Value) (an : Option Addr) (cdv ct : Value) (osl : Array (Option Value)),
  fd = PySem.W.fnOf x qual (Q0q st) (Q0l st) (Q0f st) .none kV doc pm an cdv ct /\ K.lookup f = some ⟨oc,od,.func fd,osl⟩ /\ PySem.W.codeIn K cdv qual = true
 kp : PySem.W.keepIn K (.ref f) = true
section
variable {P : Program} {w : World} {K : PySem.W.Frag} {mg : Str -> Option Value} {base : Heap}
theorem Fun.ok {x qual : Str} {st : Stmt} {f : Addr} {fd : FuncData} {N ps : List Str} {k : Nat} {sp : Sp} (F : Fun K x qual st f fd) (S : Q0o N ps (Q0f st)) (len : ∀ vs H Q E,sp vs H Q E -> vs.length = ps.length)
  (hbody : ∀ (cdv : Value) (A : Around) (outer : List Env) (s : Shared) (H : Hp) (vs : List V) (Q : VK) (E : XK),Room k (A.deeper (envOfC qual (Q0f st) s.heap.objs.size f cdv)) -> sp vs H Q E ->
   ∃ t,PSs (cxOf CX0 P w K mg base N qual (Q0f st) f cdv A outer s H E).nox (Q0l st) t /\ t { nx := λ _ H' => Q .non H',rt := Q } (start N vs) H) : FnOk P w K mg base CX0 (k + 1) f fd ps sp := by
 obtain ⟨oc,od,kV,doc,pm,an,cdv,ct,osl,rfl,lk,hcd⟩ := F.ex
 refine fn_of lk hcd S len λ A outer s H vs Q E hr hsp => ?_
 obtain ⟨t,h,q⟩ := hbody cdv A outer s H vs Q E hr hsp
 exact ⟨t,h.nox,q⟩
theorem Fun.binds {x qual : Str} {st : Stmt} {f : Addr} {fd : FuncData} {ps : List Str} (F : Fun K x qual st f fd)
  (h : ∀ (kV doc pm : Value) (an : Option Addr) (cdv ct : Value) (us : List Value),us.length = ps.length -> bindArgs (PySem.W.fnOf x qual (Q0q st) (Q0l st) (Q0f st) .none kV doc pm an cdv ct) ⟨us,[]⟩ = pure (ps.zip us)) : Q0F K fd ps [] := by
 obtain ⟨oc,od,kV,doc,pm,an,cdv,ct,osl,rfl,lk,hcd⟩ := F.ex
 exact .all (h kV doc pm an cdv ct)
theorem Q0y {x qual : Str} {st : Stmt} {f : Addr} {oc : Value} {od an : Option Addr} {osl : Array (Option Value)} {kV doc pm cdv ct : Value} (l : K.lookup f = some ⟨oc,od,.func (PySem.W.fnOf x qual (Q0q st) (Q0l st) (Q0f st) .none kV doc pm an cdv ct),osl⟩)
  (c : PySem.W.codeIn K cdv qual = true) (k : PySem.W.keepIn K (.ref f) = true) : Fun K x qual st f (PySem.W.fnOf x qual (Q0q st) (Q0l st) (Q0f st) .none kV doc pm an cdv ct) := ⟨⟨oc,od,kV,doc,pm,an,cdv,ct,osl,rfl,l,c⟩,k⟩
end
theorem small1000 {n : Nat} (h : n <= 1000) : n < sizeLine := Nat.lt_of_le_of_lt h (by decide)
section
variable {X : Cx}
end
theorem iteF {A B : Prop} (h : B) : if false = true then A else B := by
 rw [if_neg Bool.false_ne_true]
 exact h
theorem iteT {A B : Prop} (h : A) : if true = true then A else B := by
 rw [if_pos rfl]
 exact h
def Same (H H' : Hp) : Prop := ∀ b o,H b = some o -> H' b = some o
theorem Same.refl (H : Hp) : Same H H := λ _ _ h => h
theorem Same.trans {H H1 H2 : Hp} (a : Same H H1) (b : Same H1 H2) : Same H H2 := λ c o h => b c o (a c o h)
theorem Same.free {H H' : Hp} (e : Same H H') {l : Addr} (h : H' l = Option.none) : H l = Option.none := by
 cases q : H l with
 | none => rfl
 | some o =>
  rw [e l o q] at h
  cases h
theorem Same.seq {K : PySem.W.Frag} {H H' : Hp} {a : Addr} {xs : List V} (e : Same H H') (h : SqL K H a xs) : SqL K H' a xs := by
 rcases h with (h | ⟨o,h⟩) | h
 ·exact .inl (.inl (e _ _ h))
 ·exact .inl (.inr ⟨o,e _ _ h⟩)
 ·exact .inr h
end L2
namespace L2
open PySem PySem.Spec PyProof.Rows
section
variable {κ : Type} [DecidableEq κ]
def valV (kvs : List (κ × V)) (k : κ) : Option V := (kvs.find? λ kv => decide (kv.1 = k)).map (·.2)
def putK (kvs : List (κ × V)) (k : κ) (v : V) : List (κ × V) :=
 if (kvs.any λ kv => decide (kv.1 = k)) = true then kvs.map (λ kv => if kv.1 = k then (kv.1,v) else kv) else kvs ++ [(k,v)]
def dropK (kvs : List (κ × V)) (k : κ) : List (κ × V) := kvs.filter λ kv => decide (kv.1 ≠ k)
theorem valV_pos {p : κ × V} {r : List (κ × V)} {k : κ} (e : p.1 = k) : valV (p :: r) k = some p.2 := by simp [valV,List.find?_cons,e]
theorem valV_neg {p : κ × V} {r : List (κ × V)} {k : κ} (e : ¬ p.1 = k) : valV (p :: r) k = valV r k := by simp [valV,List.find?_cons,e]
theorem valV_any (k : κ) : ∀ kvs : List (κ × V),(kvs.any λ kv => decide (kv.1 = k)) = (valV kvs k).isSome
 | [] => rfl
 | p :: r => by
  rw [List.any_cons]
  by_cases e : p.1 = k
  ·simp only [valV_pos e,decide_eq_true e,Bool.true_or,Option.isSome_some]
  ·rw [valV_neg e,decide_eq_false e,Bool.false_or]; exact valV_any k r
theorem Q2U (kvs : List (κ × V)) (k : κ) (v : V) : (putK kvs k v).length <= kvs.length + 1 := by
 unfold putK
 split
 ·rw [List.length_map]; omega
 ·rw [List.length_append,List.length_cons,List.length_nil]; omega
theorem RelO.isSome_eq {o : Option V} {u : Option Value} (r : RelO o u) : o.isSome = u.isSome := by
 cases o with
 | none => cases u with
  | none => rfl
  | some _ => exact (show False from r).elim
 | some _ => cases u with
  | none => exact (show False from r).elim
  | some _ => rfl
theorem RelO.getD {o : Option V} {u : Option Value} {d : V} {d' : Value} (r : RelO o u) (rd : RelV d d') : RelV (o.getD d) (u.getD d') := by
 cases o with
 | none => cases u with
  | none => exact rd
  | some _ => exact (show False from r).elim
 | some _ => cases u with
  | none => exact (show False from r).elim
  | some _ => exact r
theorem KV.val {kvs : List (κ × V)} {vs : List (κ × Value)} (r : KV kvs vs) (k : κ) : RelO (valV kvs k) (valueAt vs k) := by
 unfold KV at r
 induction r with
 | nil => exact True.intro
 | @cons p q ps qs h t ih =>
  obtain ⟨h1,h2⟩ := h
  by_cases e : p.1 = k
  ·have e' : q.1 = k := h1.symm.trans e
   have b : valueAt (q :: qs) k = some q.2 := by simp [valueAt,List.find?_cons,e']
   rw [valV_pos e,b]; exact h2
  ·have e' : ¬ q.1 = k := λ z => e (h1.trans z)
   have b : valueAt (q :: qs) k = valueAt qs k := by simp [valueAt,List.find?_cons,e']
   rw [valV_neg e,b]; exact ih
theorem KV.any {kvs : List (κ × V)} {vs : List (κ × Value)} (r : KV kvs vs) (k : κ) : (kvs.any λ kv => decide (kv.1 = k)) = vs.any λ kv => decide (kv.1 = k) := by
 unfold KV at r
 induction r with
 | nil => rfl
 | cons h t ih => rw [List.any_cons,List.any_cons,ih,h.1]
theorem KV.repl {kvs : List (κ × V)} {vs : List (κ × Value)} (r : KV kvs vs) (k : κ) {y : V} {u : Value} (ry : RelV y u) :
  KV (kvs.map λ kv => if kv.1 = k then (kv.1,y) else kv) (vs.map λ kv => if kv.1 = k then (kv.1,u) else kv) := by
 unfold KV at r ⊢
 induction r with
 | nil => exact .nil
 | @cons p q ps qs h t ih =>
  rw [List.map_cons,List.map_cons]
  refine .cons ?_ ih
  obtain ⟨h1,h2⟩ := h
  by_cases e : p.1 = k
  ·rw [if_pos e,if_pos (h1.symm.trans e)]; exact ⟨h1,ry⟩
  ·rw [if_neg e,if_neg (λ z => e (h1.trans z))]; exact ⟨h1,h2⟩
theorem KV.put {kvs : List (κ × V)} {vs : List (κ × Value)} (r : KV kvs vs) (k : κ) {y : V} {u : Value} (ry : RelV y u) : KV (putK kvs k y) (stored vs k u) := by
 unfold putK stored
 rw [r.any k]
 by_cases e : (vs.any λ kv => decide (kv.1 = k)) = true
 ·rw [if_pos e,if_pos e]; exact r.repl k ry
 ·rw [if_neg e,if_neg e]; exact Paired.snoc r ⟨rfl,ry⟩
theorem KV.drop {kvs : List (κ × V)} {vs : List (κ × Value)} (r : KV kvs vs) (k : κ) : KV (dropK kvs k) (without vs k) := by
 unfold KV at r ⊢
 unfold dropK without
 induction r with
 | nil => exact .nil
 | @cons p q ps qs h t ih =>
  obtain ⟨h1,h2⟩ := h
  rw [List.filter_cons,List.filter_cons]
  by_cases e : p.1 = k
  ·have a : ¬ decide (p.1 ≠ k) = true := by simp [e]
   have b : ¬ decide (q.1 ≠ k) = true := by simp [h1.symm.trans e]
   rw [if_neg a,if_neg b]; exact ih
  ·have e' : ¬ q.1 = k := λ z => e (h1.trans z)
   have a : decide (p.1 ≠ k) = true := by simp [e]
   have b : decide (q.1 ≠ k) = true := by simp [e']
   rw [if_pos a,if_pos b]; exact .cons ⟨h1,h2⟩ ih
theorem KV.length {kvs : List (κ × V)} {vs : List (κ × Value)} (r : KV kvs vs) : kvs.length = vs.length := Paired.length r
theorem dropK_le (kvs : List (κ × V)) (k : κ) : (dropK kvs k).length <= kvs.length := List.length_filter_le _ _
end
theorem kV_is {P : Program} {w : World} {k : Key} {u : Value} (r : RelV (kV k) u) : (Q0u P w).is k u = true := by
 cases k with
 | inl i => obtain ⟨t,e⟩ := (show ∃ t,u = Value.int i t from r); subst e; exact mixKind_int P w i t
 | inr x => obtain ⟨t,e⟩ := (show ∃ t,u = Value.str x t from r); subst e; exact mixKind_str P w x t
theorem items_are {P : Program} {w : World} : ∀ {ks : List Key} {us : List Value},Vals (ks.map kV) us -> ItemsAre (Q0u P w) ks us
 | [],_,r => by rw [List.map_nil] at r; cases r; exact .nil
 | k :: ks,_,r => by
  rw [List.map_cons] at r
  cases r with
  | cons h t => exact .cons (kV_is h) (items_are t)
abbrev KT (H : Hp) : List (List Key × V) -> List (List Key × Addr × Value) -> Prop := Paired λ p q => p.1 = q.1 /\ H q.2.1 = some (.tup (p.1.map kV)) /\ RelV p.2 q.2.2
theorem KT.val {H : Hp} {kvs : List (List Key × V)} {xs : List (List Key × Addr × Value)} (r : KT H kvs xs) (k : List Key) : RelO (valV kvs k) ((atKey xs k).map (·.2)) := by
 induction r with
 | nil => exact True.intro
 | @cons p q ps qs h t ih =>
  obtain ⟨h1,_,h2⟩ := h
  by_cases e : p.1 = k
  ·have e' : q.1 = k := h1.symm.trans e
   have b : atKey (q :: qs) k = some q.2 := by simp [atKey,List.find?_cons,e']
   rw [valV_pos e,b]; exact h2
  ·have e' : ¬ q.1 = k := λ z => e (h1.trans z)
   have b : atKey (q :: qs) k = atKey qs k := by simp [atKey,List.find?_cons,e']
   rw [valV_neg e,b]; exact ih
theorem KT.repl {H : Hp} {kvs : List (List Key × V)} {xs : List (List Key × Addr × Value)} (r : KT H kvs xs) (k : List Key) {y : V} {u : Value} (ry : RelV y u) :
  KT H (kvs.map λ kv => if kv.1 = k then (kv.1,y) else kv) (xs.map (putAt k u)) := by
 induction r with
 | nil => exact .nil
 | @cons p q ps qs h t ih =>
  rw [List.map_cons,List.map_cons]
  refine .cons ?_ ih
  obtain ⟨h1,h2,h3⟩ := h
  unfold putAt
  by_cases e : p.1 = k
  ·rw [if_pos e,if_pos (h1.symm.trans e)]; exact ⟨h1,h2,ry⟩
  ·rw [if_neg e,if_neg (λ z => e (h1.trans z))]; exact ⟨h1,h2,h3⟩
theorem KT.put {H : Hp} {kvs : List (List Key × V)} {xs : List (List Key × Addr × Value)} (r : KT H kvs xs) (k : List Key) {b : Addr} {y : V} {u : Value} (hb : H b = some (.tup (k.map kV))) (ry : RelV y u) :
  KT H (putK kvs k y) (storedH xs k b u) := by
 have e : (kvs.any λ kv => decide (kv.1 = k)) = (atKey xs k).isSome := by
  rw [valV_any,(r.val k).isSome_eq,Option.isSome_map]
 unfold putK storedH
 rw [e]
 by_cases q : (atKey xs k).isSome = true
 ·rw [if_pos q,if_pos q]; exact r.repl k ry
 ·rw [if_neg q,if_neg q]; exact Paired.snoc r ⟨rfl,hb,ry⟩
theorem KT.keeps {H H' : Hp} {kvs : List (List Key × V)} {xs : List (List Key × Addr × Value)} (r : KT H kvs xs) (ht : ∀ b ys,H b = some (.tup ys) -> H' b = some (.tup ys)) : KT H' kvs xs :=
 Paired.mapP r λ _ _ z => ⟨z.1,ht _ _ z.2.1,z.2.2⟩
section
variable {P : Program} {w : World} {H : Hp} {h : Heap} {a : Addr}
theorem rd_of {u : HO} (ok : HOk P w H h) (e : Rd H a u) : Q1n P w H h a u := e.ok ok
theorem Q3V {kvs : List (Key × V)} (ok : HOk P w H h) (e : Rd H a (.dK kvs)) : kvs.length <= sizeLine /\ (a == sysModules) = false /\ ∃ vs,KV kvs vs /\ h.DictOf (Q0u P w) a vs :=
 show Q1n P w H h a (.dK kvs) from rd_of ok e
theorem dk_of {kvs : List (Key × V)} (ok : HOk P w H h) (e : H a = some (.dK kvs)) : kvs.length <= sizeLine /\ (a == sysModules) = false /\ ∃ vs,KV kvs vs /\ h.DictOf (Q0u P w) a vs := Q3V ok (.inl e)
theorem key_of {ks : List Key} (ok : HOk P w H h) (e : H a = some (.tup (ks.map kV))) : (tupleKind (Q0u P w)).is h ks a := by
 obtain ⟨_,its,r,o,h1,_,h2,n,h3⟩ := (show Q1n P w H h a (.tup (ks.map kV)) from ok a _ e)
 exact ⟨o,its.toArray,n,h1,h2,h3,by simpa using items_are r⟩
theorem dt_rd {kvs : List (List Key × V)} (ok : HOk P w H h) (e : Rd H a (.dT kvs)) : kvs.length <= sizeLine /\ (a == sysModules) = false /\
  ∃ xs,KT H kvs xs /\ h.DictOfH (tupleKind (Q0u P w)) a xs := by
 obtain ⟨z,y,xs,r,o,es,ep,h1,h2,h3,h4,h5⟩ := (show Q1n P w H h a (.dT kvs) from rd_of ok e)
 refine ⟨z,y,xs,r,o,es,ep,h1,h2,h3,h4,λ x hx => ?_,h5⟩
 have all : ∀ {l : List (List Key × V)} {m : List (List Key × Addr × Value)},KT H l m -> ∀ x ∈ m,(tupleKind (Q0u P w)).is h x.1 x.2.1 := by
  intro l m q
  induction q with
  | nil => intro x hx; exact nomatch hx
  | @cons p q ps qs hq t ih =>
   intro x hx
   rcases List.mem_cons.mp hx with e | hx
   ·subst e
    exact key_of ok (by rw [<- hq.1]; exact hq.2.1)
   ·exact ih x hx
 exact all r x hx
theorem dt_of {kvs : List (List Key × V)} (ok : HOk P w H h) (e : H a = some (.dT kvs)) : kvs.length <= sizeLine /\ (a == sysModules) = false /\
  ∃ xs,KT H kvs xs /\ h.DictOfH (tupleKind (Q0u P w)) a xs := dt_rd ok (.inl e)
end
def DGet (H : Hp) (a : Addr) (y : V) (r : Option V) : Prop :=
 (∃ kvs k,Rd H a (.dK kvs) /\ y = kV k /\ r = valV kvs k) \/ ∃ kvs k b,Rd H a (.dT kvs) /\ y = .ref b /\ H b = some (.tup (k.map kV)) /\ r = valV kvs k
def DPut (H : Hp) (a : Addr) (y v : V) (H' : Hp) : Prop :=
 (∃ kvs k,H a = some (.dK kvs) /\ y = kV k /\ kvs.length < sizeLine /\ H' = upd H a (.dK (putK kvs k v))) \/
 ∃ kvs k b,H a = some (.dT kvs) /\ y = .ref b /\ H b = some (.tup (k.map kV)) /\ kvs.length < sizeLine /\ H' = upd H a (.dT (putK kvs k v))
theorem DPut.k {H : Hp} {a : Addr} {kvs : List (Key × V)} {k : Key} {v : V} (e : H a = some (.dK kvs)) (hl : kvs.length < sizeLine) : DPut H a (kV k) v (upd H a (.dK (putK kvs k v))) := .inl ⟨kvs,k,e,rfl,hl,rfl⟩
section
variable {X : Cx} {pins : List (Addr × Obj)} {σ : St} {H : Hp} {s : Shared} {a : Addr} {y v : V} {u r : Value} {o : Option V} {A : Around} {E : Value -> Shared -> Prop}
theorem Inv.big (I : Inv X pins σ H s) : sysModules < s.heap.objs.size := by
 have h : mainGlobals < s.heap.objs.size := (I.mod.glob.keeps I.bk).lt
 exact Nat.lt_trans (by decide) h
theorem d_getItem {Q : Value -> Shared -> Prop} (hu : A.units + 1 < cLine) (I : Inv X pins σ H s) (g : DGet H a y (some v)) (ry : RelV y u) (h : ∀ w' s',Inv X pins σ H s' -> RelV v w' -> Q w' s') :
  wpAny (model X.prog X.w) A (getItem (.ref a) u) Q E s := by
 rcases g with ⟨kvs,k,e,ey,l⟩ | ⟨kvs,k,b,e,ey,eb,l⟩
 ·subst ey
  obtain ⟨z,hd,vs,rel,dd⟩ := Q3V I.hok e
  obtain ⟨w',hw,rw'⟩ := RelO.some_of (v := v) (o := valueAt vs k) (by rw [l]; exact rel.val k)
  exact wpAny_getItem_of (kV_is ry) dd.mapOf hw (h w' _ (I.tok _) rw')
 ·subst ey
  cases (show u = Value.ref b from ry)
  obtain ⟨z,hd,xs,rel,dd⟩ := dt_rd I.hok e
  obtain ⟨w',hw,rw'⟩ := RelO.some_of (v := v) (o := (atKey xs k).map (·.2)) (by rw [l]; exact rel.val k)
  obtain ⟨p,hp,hp2⟩ := Option.map_eq_some_iff.mp hw
  refine wpAny_getItem_heap (tupleKind_room_in1 hu) (key_of I.hok eb) dd hp ?_
  rw [hp2]
  exact h w' _ (I.tok _) rw'
theorem d_in {Q : Value -> Shared -> Prop} (hu : A.units + 1 < cLine) (I : Inv X pins σ H s) (g : DGet H a y o) (ry : RelV y u) (h : ∀ s',Inv X pins σ H s' -> Q (.bool o.isSome) s') :
  wpAny (model X.prog X.w) A (compareOp .In u (.ref a)) Q E s := by
 rcases g with ⟨kvs,k,e,ey,l⟩ | ⟨kvs,k,b,e,ey,eb,l⟩
 ·subst ey
  obtain ⟨z,hd,vs,rel,dd⟩ := Q3V I.hok e
  refine wpAny_in_of (kV_is ry) hd dd.mapOf ?_
  rw [<- (rel.val k).isSome_eq,<- l]
  exact h _ (I.tok _)
 ·subst ey
  cases (show u = Value.ref b from ry)
  obtain ⟨z,hd,xs,rel,dd⟩ := dt_rd I.hok e
  refine wpAny_in_heap (tupleKind_room_in1 hu) (key_of I.hok eb) hd dd ?_
  have q := (rel.val k).isSome_eq
  rw [Option.isSome_map] at q
  rw [<- q,<- l]
  exact h _ (I.tok _)
theorem d_notIn {Q : Value -> Shared -> Prop} (hu : A.units + 1 < cLine) (I : Inv X pins σ H s) (g : DGet H a y o) (ry : RelV y u) (h : ∀ s',Inv X pins σ H s' -> Q (.bool (!o.isSome)) s') :
  wpAny (model X.prog X.w) A (compareOp .NotIn u (.ref a)) Q E s := by
 rcases g with ⟨kvs,k,e,ey,l⟩ | ⟨kvs,k,b,e,ey,eb,l⟩
 ·subst ey
  obtain ⟨z,hd,vs,rel,dd⟩ := Q3V I.hok e
  refine wpAny_notIn_of (kV_is ry) hd dd.mapOf ?_
  rw [<- (rel.val k).isSome_eq,<- l]
  exact h _ (I.tok _)
 ·subst ey
  cases (show u = Value.ref b from ry)
  obtain ⟨z,hd,xs,rel,dd⟩ := dt_rd I.hok e
  refine wpAny_notIn_heap (tupleKind_room_in1 hu) (key_of I.hok eb) hd dd ?_
  have q := (rel.val k).isSome_eq
  rw [Option.isSome_map] at q
  rw [<- q,<- l]
  exact h _ (I.tok _)
theorem d_write {h' : Heap} {t' : Nat} {ob : HO} (I : Inv X pins σ H s) (mu : Mut (H a)) (hs : Heap.SameBut a s.heap h') (he : ∃ q,h'.get? a = some q) (new : Q1n X.prog X.w (upd H a ob) h' a ob) :
  Inv X pins σ (upd H a ob) { s with heap := h',toks := t' } :=
 I.write (x := a) (e := a) mu (.inl rfl) (λ b q hb z => (hs.2 b hb).trans z) he new
theorem dk_new {P : Program} {w : World} {H' : Hp} {h' : Heap} {kvs : List (Key × V)} {vs : List (Key × Value)} (z : kvs.length <= sizeLine) (hd : (a == sysModules) = false) (rel : KV kvs vs) (dd : h'.DictOf (Q0u P w) a vs) :
  Q1n P w H' h' a (.dK kvs) := ⟨z,hd,vs,rel,dd⟩
theorem d_setItem {H' : Hp} {Q : Unit -> Shared -> Prop} (hu : A.units + 1 < cLine) (I : Inv X pins σ H s) (g : DPut H a y v H') (ry : RelV y u) (rv : RelV v r) (h : ∀ s',Inv X pins σ H' s' -> Q () s') :
  wpAny (model X.prog X.w) A (setItem (.ref a) u r) Q E s := by
 rcases g with ⟨kvs,k,e,ey,l,eH⟩ | ⟨kvs,k,b,e,ey,eb,l,eH⟩
 ·subst ey eH
  obtain ⟨z,hd,vs,rel,dd⟩ := dk_of I.hok e
  have hz : vs.length <= sizeLine := by rw [<- rel.length]; exact z
  have hl : (putK kvs k v).length <= sizeLine := by have := Q2U kvs k v; omega
  refine wpAny_setItem_pairs (hsz := hz) (kV_is ry) dd λ h' dd' hs => h _ ?_
  have he : ∃ q,h'.get? a = some q := let ⟨q,_,_,hq,_⟩ := dd'; ⟨q,hq⟩
  exact d_write I (by rw [e]; exact True.intro) hs he (dk_new hl hd (rel.put k rv) dd')
 ·subst ey eH
  cases (show u = Value.ref b from ry)
  obtain ⟨z,hd,xs,rel,dd⟩ := dt_of I.hok e
  have hz : xs.length <= sizeLine := by rw [<- Paired.length rel]; exact z
  have hl : (putK kvs k v).length <= sizeLine := by have := Q2U kvs k v; omega
  refine wpAny_setItem_heap (hsz := hz) (tupleKind_room_in1 hu) (key_of I.hok eb) dd λ h' dd' hs => h _ ?_
  obtain ⟨q,es,ep,hq,h2,h3,h4,_,h5⟩ := dd'
  refine d_write I (by rw [e]; exact True.intro) hs ⟨q,hq⟩ ⟨hl,hd,_,(rel.put k eb rv).keeps λ c ys ec => ?_,q,es,ep,hq,h2,h3,h4,h5⟩
  rw [Q0i (ne_of ec e (λ z => nomatch z))]
  exact ec
end
section
variable {X : Cx} {pins : List (Addr × Obj)} {σ : St} {H : Hp} {s : Shared} {a : Addr} {kvs : List (Key × V)} {k : Key} {u : Value} {A : Around} {E : Value -> Shared -> Prop}
theorem d_pop {v : V} {more : List Value} {Q : Value -> Shared -> Prop} (I : Inv X pins σ H s) (e : H a = some (.dK kvs)) (ry : RelV (kV k) u) (l : valV kvs k = some v) (hm : more = [] \/ ∃ x,more = [x])
  (h : ∀ w' s',Inv X pins σ (upd H a (.dK (dropK kvs k))) s' -> RelV v w' -> Q w' s') : wpAny (model X.prog X.w) A (call (.builtin "dict.pop") (.ref a :: u :: more)) Q E s := by
 obtain ⟨z,hd,vs,rel,dd⟩ := dk_of I.hok e
 obtain ⟨w',hw,rw'⟩ := RelO.some_of (v := v) (o := valueAt vs k) (by rw [<- l]; exact rel.val k)
 have hp : (keyPart u).isSome = true := by
  cases k with
  | inl i => obtain ⟨t,q⟩ := (show ∃ t,u = Value.int i t from ry); subst q; rfl
  | inr x => obtain ⟨t,q⟩ := (show ∃ t,u = Value.str x t from ry); subst q; rfl
 have ha : argsOk "dict.pop" ⟨.ref a :: u :: more,[]⟩ := by
  rcases hm with q | ⟨x,q⟩
  ·subst q; exact PySem.F.args_dict_pop_2 _ _
  ·subst q; exact PySem.F.args_dict_pop_3 _ _ _
 refine call_meetsIn PySem.F.slot_dict_pop dd.typeIs PySem.F.entry_dict_pop ha (meets_dict_pop_there (Q0u X.prog X.w) a (kV_is ry) more hm hp)
  ⟨vs,w',dd,by rw [<- rel.length]; exact z,hw,λ h' dd' hs => h w' _ ?_ rw'⟩
 have he : ∃ q,h'.get? a = some q := let ⟨q,_,_,hq,_⟩ := dd'; ⟨q,hq⟩
 exact d_write I (by rw [e]; exact True.intro) hs he (dk_new (Nat.le_trans (dropK_le kvs k) z) hd (rel.drop k) dd')
end
def NoSl (i : Expr) : Prop := ∀ ov iv,subscripted i false ov iv = operate [ov,iv] (getItem ov iv)
theorem subD_of {prog : Program} {w : World} {A : Around} {E : Value -> Shared -> Prop} {s : Shared} {env : Env} {value slice : Expr} {pos : Pos} {T id : String} {Q : Value -> Shared -> Prop}
  (hl : typeLookup (.type T) "__getitem__" = pure (some (.builtin id))) (hs : NoSl slice)
  (h : wpAny (model prog w) A (eval value env) (λ o s₁ => wpAny (model prog w) A (eval slice env) (λ i s₂ => s₂.TypeIs o T /\ wpAny (model prog w) A (getItem o i) Q E s₂) E s₁) E s) :
  wpAny (model prog w) A (eval (.Subscript value slice pos) env) Q E s := by
 refine Subscript_ (wpAny_mono h (λ o s₁ h₁ => wpAny_mono h₁ (λ i s₂ h₂ => ?_) λ _ _ x => x) λ _ _ x => x)
 obtain ⟨hT,h₂⟩ := h₂
 unfold subscriptTail
 refine wpAny_bind ?_
 rw [getitemInPython_of_ne hT.not_modules]
 refine wpAny_bind (wpAny_specialOf hT hl ?_)
 have fin : wpAny (model prog w) A (subscripted slice false o i) (λ r s₃ => wpAny (model prog w) A (letTemporaryGo value o r >>= λ _ => pure r) Q E s₃) E s₂ := by
  rw [hs o i]
  exact wpAny_operating (wpAny_mono h₂ (λ r s₃ h₃ => wpAny_bind (wpAny_letTemporaryGo (wpAny_pure h₃))) λ _ _ x => x)
 first
  | exact wpAny_pure (wpAny_bind fin)
  | exact wpAny_bind (wpAny_pure (wpAny_bind fin))
  | exact wpAny_bind fin
theorem dict_typeIs {X : Cx} {pins : List (Addr × Obj)} {σ : St} {H : Hp} {s : Shared} {a : Addr} {y : V} {o : Option V} (I : Inv X pins σ H s) (g : DGet H a y o) : s.TypeIs (.ref a) "dict" := by
 rcases g with ⟨kvs,k,e,_,_⟩ | ⟨kvs,k,b,e,_,_,_⟩
 ·obtain ⟨_,_,vs,_,dd⟩ := Q3V I.hok e
  exact dd.typeIs
 ·obtain ⟨_,_,xs,_,dd⟩ := dt_rd I.hok e
  exact dd.typeIs
def tDGet (td ty : TE) : TE := λ σ H Q => td σ H λ x H1 => ty σ H1 λ y H2 => ∃ a v,x = .ref a /\ DGet H2 a y (some v) /\ Q v H2
def sDPut (td ty tv : TE) : TS := λ D σ H => tv σ H λ v H1 => td σ H1 λ x H2 => ty σ H2 λ y H3 => ∃ a H4,x = .ref a /\ DPut H3 a y v H4 /\ D.nx σ H4
section
variable {X : Cx} {o i e value : Expr} {pos pos' tpos : Pos} {td ty tv : TE}
theorem pe_dget (hu : X.A.units + 1 < cLine) (ho : PE X o td) (hi : PE X i ty) (hs : NoSl i) : PE X (.Subscript o i pos) (tDGet td ty) := by
 intro pins s σ H Q I h
 refine subD_of PySem.F.slot_dict_getitem.lookup hs (thn (ho pins s σ H _ I h) λ u s1 ⟨x,H1,I1,rx,q1⟩ => thn (hi pins s1 σ H1 _ I1 q1) λ iv s2 ⟨y,H2,I2,ry,a,v,ex,g,q2⟩ => ?_)
 subst ex
 obtain rfl : u = Value.ref a := rx
 exact ⟨dict_typeIs I2 g,d_getItem hu I2 g ry λ w' s3 I3 rw' => ⟨v,H2,I3,rw',q2⟩⟩
theorem ps_dput (hu : X.A.units + 1 < cLine) (ho : PE X o td) (hi : PE X i ty) (hv : PE X value tv) (hs : swapsWith value (some (.Subscript o i pos')) pos.line X.env = pure false) :
  PS X (.Assign [.Subscript o i pos'] value pos) (sDPut td ty tv) := by
 intro pins s σ H D I h
 refine wpAny_Assign_Subscript (thn (hv pins s σ H _ I h) λ r s1 ⟨v,H1,I1,rv,q1⟩ => thn (ho pins s1 σ H1 _ I1 q1) λ u s2 ⟨x,H2,I2,rx,q2⟩ => thn (hi pins s2 σ H2 _ I2 q2) λ iv s3 ⟨y,H3,I3,ry,a,H4,ex,g,q3⟩ => ?_) hs
 subst ex
 obtain rfl : u = Value.ref a := rx
 exact d_setItem hu I3 g ry rv λ s4 I4 => ⟨σ,H4,I4,q3⟩
end
theorem dk_empty {P : Program} {w : World} {H : Hp} (h : Heap) (hb : sysModules < h.objs.size) : Q1n P w H (h.push { cls := .type "dict",data := .dict #[] }) h.objs.size (.dK []) :=
 ⟨Nat.zero_le _,beq_eq_false_iff_ne.mpr (Ne.symm (Nat.ne_of_lt hb)),[],.nil,Heap.DictOf.new h⟩
def tDNewK : TE := λ _ H Q => ∀ p,H p = none -> Q (.ref p) (upd H p (.dK []))
section
variable {X : Cx} {pos : Pos}
theorem pe_dnewK : PE X (.Dict [] [] pos) tDNewK := λ pins s σ H Q I h =>
 wpAny_Dict_empty ⟨.ref s.heap.objs.size,_,I.laid (a := s.heap.objs.size) (o := .dK []) (t' := s.toks) (λ _ _ q => Heap.get?_push_of_some _ q) (Nat.le_refl _) (dk_empty s.heap I.big),rfl,h _ (I.hok.fresh (Nat.le_refl _))⟩
end
def tPairs : List (TE × TE) -> St -> Hp -> (List (V × V) -> Hp -> Prop) -> Prop
 | [],_,H,Q => Q [] H
 | (tk,tv) :: r,σ,H,Q => tk σ H λ x H1 => tv σ H1 λ y H2 => tPairs r σ H2 λ ps H3 => Q ((x,y) :: ps) H3
abbrev VV : List (V × V) -> List (Value × Value) -> Prop := Paired λ p q => RelV p.1 q.1 /\ RelV p.2 q.2
def PPs (X : Cx) (pos : Pos) (keys : List (Option Expr)) (values : List Expr) (trs : List (TE × TE)) : Prop :=
 ∀ (pins : List (Addr × Obj)) (s : Shared) (σ : St) (H : Hp) (Q : List (V × V) -> Hp -> Prop),Inv X pins σ H s -> tPairs trs σ H Q ->
  wpAny (model X.prog X.w) X.A (evalPairs (pairTrees keys values X.env pos)) (λ vs s' => ∃ ps H',Inv X pins σ H' s' /\ VV ps vs /\ Q ps H') X.xe s
theorem pps_nil {X : Cx} {pos : Pos} : PPs X pos [] [] [] := λ pins s σ H Q I h => pairTrees_nil_walk ⟨[],H,I,.nil,h⟩
theorem pps_cons {X : Cx} {pos : Pos} {k v : Expr} {ks : List (Option Expr)} {vs : List Expr} {tk tv : TE} {trs : List (TE × TE)} (hk : PE X k tk) (hv : PE X v tv) (hr : PPs X pos ks vs trs) :
  PPs X pos (some k :: ks) (v :: vs) ((tk,tv) :: trs) := λ pins s σ H Q I h =>
 pairTrees_cons_walk (thn (hk pins s σ H _ I h) λ u s1 ⟨x,H1,I1,rx,q1⟩ => thn (hv pins s1 σ H1 _ I1 q1) λ w2 s2 ⟨y,H2,I2,ry,q2⟩ =>
  thn (hr pins s2 σ H2 _ I2 q2) λ ws s3 ⟨ps,H3,I3,rel,q3⟩ => ⟨(x,y) :: ps,H3,I3,.cons ⟨rx,ry⟩ rel,q3⟩)
def Q3L (kvs more : List (Key × V)) : List (Key × V) := more.foldl (λ acc kv => putK acc kv.1 kv.2) kvs
theorem KV.merge : ∀ {more : List (Key × V)} {rs : List (Key × Value)} {kvs : List (Key × V)} {vs : List (Key × Value)},KV more rs -> KV kvs vs -> KV (Q3L kvs more) (merged vs rs) := by
 intro more rs kvs vs r
 unfold KV at r
 induction r generalizing kvs vs with
 | nil => intro q; exact q
 | @cons p q ps qs h t ih =>
  intro r0
  have e : KV (putK kvs p.1 p.2) (stored vs q.1 q.2) := by
   have := r0.put p.1 h.2
   rw [<- h.1]; exact this
  exact ih e
theorem Q3o : ∀ (more kvs : List (Key × V)),(Q3L kvs more).length <= kvs.length + more.length
 | [],kvs => by show kvs.length <= kvs.length + 0; omega
 | p :: r,kvs => by
  have h1 := Q3o r (putK kvs p.1 p.2)
  have h2 := Q2U kvs p.1 p.2
  show (Q3L (putK kvs p.1 p.2) r).length <= _
  rw [List.length_cons]; omega
theorem carries_of {P : Program} {w : World} : ∀ {kvs : List (Key × V)} {ws : List (Value × Value)},VV (kvs.map λ kv => (kV kv.1,kv.2)) ws -> ∃ rs,Carries (Q0u P w) ws rs /\ KV kvs rs
 | [],_,r => by rw [List.map_nil] at r; cases r; exact ⟨[],True.intro,.nil⟩
 | p :: kvs,_,r => by
  rw [List.map_cons] at r
  cases r with
  | @cons a b as bs h t =>
   obtain ⟨rs,c,q⟩ := carries_of (P := P) (w := w) t
   obtain ⟨b1,b2⟩ := b
   exact ⟨(p.1,b2) :: rs,⟨kV_is h.1,rfl,c⟩,.cons ⟨rfl,h.2⟩ q⟩
def tDisp (trs : List (TE × TE)) : TE := λ σ H Q => ∀ p,H p = none -> tPairs trs σ (upd H p (.dK [])) λ ps H2 => H2 p = some (.dK []) /\ ∃ kvs : List (Key × V),ps = kvs.map (λ kv => (kV kv.1,kv.2)) /\ kvs.length <= 15 /\ Q (.ref p) (upd H2 p (.dK (Q3L [] kvs)))
theorem pe_disp {X : Cx} {pos : Pos} {keys : List (Option Expr)} {values : List Expr} {trs : List (TE × TE)} (h : PPs X pos keys values trs) (hall : keys.all (·.isSome) = true) (hl : keys.length = values.length) (h0 : keys ≠ [])
  (h15 : keys.length <= 15) : PE X (.Dict keys values pos) (tDisp trs) := by
 intro pins s σ H Q I q
 have hn := I.hok.fresh (Nat.le_refl s.heap.objs.size)
 have I1 := I.laid (a := s.heap.objs.size) (o := .dK []) (h' := s.heap.push { cls := .type "dict",data := .dict #[] }) (t' := s.toks) (λ _ _ q => Heap.get?_push_of_some _ q) (Nat.le_refl _) (dk_empty s.heap I.big)
 refine wpAny_Dict_walk (knd := Q0u X.prog X.w) hall hl h0 h15 (thn (h pins _ σ _ _ I1 (q _ hn)) λ ws s2 ⟨ps,H2,I2,rel,e,kvs,ep,lk,q2⟩ => ?_)
 subst ep
 obtain ⟨rs,c,rk⟩ := carries_of (P := X.prog) (w := X.w) rel
 obtain ⟨z,hd,vs0,r0,dd⟩ := dk_of I2.hok e
 cases r0
 refine ⟨rs,c,dd,λ h' dd' hs => ⟨.ref s.heap.objs.size,_,?_,rfl,q2⟩⟩
 have hz : (Q3L [] kvs).length <= sizeLine := by
  have h1 := Q3o kvs []
  rw [List.length_nil] at h1
  rw [sizeLine_eq]; omega
 have he : ∃ q,h'.get? s.heap.objs.size = some q := let ⟨q,_,_,hq,_⟩ := dd'; ⟨q,hq⟩
 exact d_write I2 (by rw [e]; exact True.intro) hs he (dk_new hz hd (rk.merge .nil) dd')
structure M1 (X : Cx) (o : Expr) (m : Str) (apos : Pos) (e : Expr) (cpos : Pos) : Prop where
 base : attributeBase o m X.env (eval o X.env) = eval o X.env
 few : ((backTo cpos (starEach [e] X.env)).all (λ x => !x.1) && (backToKw cpos (keywordEach [] X.env)).all (λ x => x.1.isSome)
  && decide (([e] : List Expr).length + ([] : List Keyword).length + (if ([] : List Keyword).isEmpty then 0 else 1) < 30)) = true
 line : (apos.endLine == cpos.line) = true
 trees : backTo cpos (starEach [e] X.env) = [(false,eval e X.env)]
def IsD (H : Hp) (a : Addr) : Prop := (∃ kvs,Rd H a (.dK kvs)) \/ ∃ kvs,Rd H a (.dT kvs)
theorem isD_at {X : Cx} {pins : List (Addr × Obj)} {σ : St} {H : Hp} {s : Shared} {a : Addr} (I : Inv X pins σ H s) (d : IsD H a) :
  s.TypeIs (.ref a) "dict" /\ (∀ b,Value.ref a = .ref b -> ∃ ob,s.heap.get? b = some ob /\ ob.dict = none) /\ (a == sysModules) = false := by
 rcases d with ⟨kvs,e⟩ | ⟨kvs,e⟩
 ·obtain ⟨_,hd,vs,_,dd⟩ := Q3V I.hok e
  refine ⟨dd.typeIs,λ b q => ?_,hd⟩
  cases q
  obtain ⟨ob,_,_,h1,h2,_⟩ := dd
  exact ⟨ob,h1,h2.2.1⟩
 ·obtain ⟨_,hd,xs,_,dd⟩ := dt_rd I.hok e
  refine ⟨dd.typeIs,λ b q => ?_,hd⟩
  cases q
  obtain ⟨ob,_,_,h1,h2,_⟩ := dd
  exact ⟨ob,h1,h2.2.1⟩
section
variable {X : Cx} {pins : List (Addr × Obj)} {σ : St} {H : Hp} {s : Shared} {a : Addr} {y d : V} {u r : Value} {o : Option V} {A : Around} {E : Value -> Shared -> Prop}
theorem d_get1 {Q : Value -> Shared -> Prop} (hu : A.units + 1 < cLine) (I : Inv X pins σ H s) (g : DGet H a y o) (ry : RelV y u) (h : ∀ w' s',Inv X pins σ H s' -> RelV (o.getD .non) w' -> Q w' s') :
  wpAny (model X.prog X.w) A (call (.builtin "dict.get") [.ref a,u]) Q E s := by
 rcases g with ⟨kvs,k,e,ey,l⟩ | ⟨kvs,k,b,e,ey,eb,l⟩
 ·subst ey
  obtain ⟨z,hd,vs,rel,dd⟩ := Q3V I.hok e
  refine call_meetsIn PySem.F.slot_dict_get dd.typeIs PySem.F.entry_dict_get (PySem.F.args_dict_get_2 _ _) (meets_dict_get (Q0u X.prog X.w) a (kV_is ry) hd) ⟨_,dd.mapOf,h _ _ (I.tok _) ?_⟩
  rw [l]
  exact (rel.val k).getD rfl
 ·subst ey
  cases (show u = Value.ref b from ry)
  obtain ⟨z,hd,xs,rel,dd⟩ := dt_rd I.hok e
  refine call_meetsIn PySem.F.slot_dict_get dd.typeIs PySem.F.entry_dict_get (PySem.F.args_dict_get_2 _ _) (meetsH_dict_get (tupleKind (Q0u X.prog X.w)) a b hd) ⟨tupleKind_room_in1 hu,k,xs,key_of I.hok eb,dd,h _ _ (I.tok _) ?_⟩
  rw [l]
  exact (rel.val k).getD rfl
end
def tDGet1 (td ty : TE) : TE := λ σ H Q => td σ H λ x H1 => ∃ a,x = .ref a /\ IsD H1 a /\ ty σ H1 λ y H2 => ∃ o,DGet H2 a y o /\ Q (o.getD .non) H2
def tDPop1 (td ty : TE) : TE := λ σ H Q => td σ H λ x H1 => ∃ a,x = .ref a /\ IsD H1 a /\ ty σ H1 λ y H2 => ∃ kvs k v,H2 a = some (.dK kvs) /\ y = kV k /\ valV kvs k = some v /\ Q v (upd H2 a (.dK (dropK kvs k)))
section
variable {X : Cx} {o e f : Expr} {apos cpos : Pos} {td ty tx : TE}
theorem pe_dget1 (hu : X.A.units + 1 < cLine) (ho : PE X o td) (he : PE X e ty) (m : M1 X o "get" apos e cpos) : PE X (.Call (.Attribute o "get" apos) [e] [] cpos) (tDGet1 td ty) := by
 intro pins s σ H Q I h
 refine wpAny_Call_method m.base m.few m.line PySem.F.plainAttrs_dict PySem.F.slot_dict_get PySem.F.type_dict_get (thn (ho pins s σ H _ I h) λ u s1 ⟨x,H1,I1,rx,a,ex,d,q1⟩ => ?_)
 subst ex
 obtain rfl : u = Value.ref a := rx
 obtain ⟨t1,t2,_⟩ := isD_at I1 d
 refine ⟨t1,t2,?_⟩
 rw [m.trees]
 refine Calls.callWith_builtin rfl (Calls.evalArgs_plain (Calls.spliced_cons (thn (he pins s1 σ H1 _ I1 q1) λ iv s2 ⟨y,H2,I2,ry,ov,g,q2⟩ => Calls.spliced_nil ?_)))
 exact d_get1 hu I2 g ry λ w' s3 I3 rw' => ⟨_,H2,I3,rw',q2⟩
theorem pe_dpop1 (ho : PE X o td) (he : PE X e ty) (m : M1 X o "pop" apos e cpos) : PE X (.Call (.Attribute o "pop" apos) [e] [] cpos) (tDPop1 td ty) := by
 intro pins s σ H Q I h
 refine wpAny_Call_method m.base m.few m.line PySem.F.plainAttrs_dict PySem.F.slot_dict_pop PySem.F.type_dict_pop (thn (ho pins s σ H _ I h) λ u s1 ⟨x,H1,I1,rx,a,ex,d,q1⟩ => ?_)
 subst ex
 obtain rfl : u = Value.ref a := rx
 obtain ⟨t1,t2,_⟩ := isD_at I1 d
 refine ⟨t1,t2,?_⟩
 rw [m.trees]
 refine Calls.callWith_builtin rfl (Calls.evalArgs_plain (Calls.spliced_cons (thn (he pins s1 σ H1 _ I1 q1) λ iv s2 ⟨y,H2,I2,ry,kvs,k,v,ea,ey,l,q2⟩ => Calls.spliced_nil ?_)))
 subst ey
 exact d_pop I2 ea ry l (.inl rfl) λ w' s3 I3 rw' => ⟨v,_,I3,rw',q2⟩
end
section
variable {X : Cx} {pins : List (Addr × Obj)} {σ : St} {H : Hp} {s : Shared} {a : Addr} {kvs : List (Key × V)} {A : Around} {E : Value -> Shared -> Prop}
theorem d_copyOf {Q : Value -> Shared -> Prop} (I : Inv X pins σ H s) (e : Rd H a (.dK kvs)) (h : ∀ p s',H p = none -> Inv X pins σ (upd H p (.dK kvs)) s' -> Q (.ref p) s') : wpAny (model X.prog X.w) A (call (.type "dict") [.ref a]) Q E s := by
 obtain ⟨z,hd,vs,rel,dd⟩ := Q3V I.hok e
 refine kt_call_dict hd dd (by rw [<- rel.length]; exact z) λ h' dd' hs => ?_
 refine h _ _ (I.hok.fresh (Nat.le_refl _)) (I.laid (a := s.heap.objs.size) (o := .dK kvs) (t' := s.toks) (λ b q hq => ?_) (Nat.le_refl _) (dk_new z (beq_eq_false_iff_ne.mpr (Ne.symm (Nat.ne_of_lt I.big))) rel dd'))
 exact (hs.2 b (Nat.ne_of_lt (Heap.lt_size hq))).trans (Heap.get?_push_of_some _ hq)
end
section
variable {X : Cx} {pins : List (Addr × Obj)} {σ : St} {H : Hp} {s : Shared} {a : Addr} {y : V} {u : Value} {A : Around} {E : Value -> Shared -> Prop}
end
section
variable {X : Cx}
end
section
variable {κ : Type} [DecidableEq κ]
end
end L2
namespace DL
open PySem PySem.Spec PyProof.Rows L2
inductive D where
 | non | bl (b : Bool) | int (i : Int) | str (x : Str) | tup (xs : List D) | lst (xs : List D) | scr (xs : List D) | ptr (n : Nat) | ty (n : String) | fn (a : Addr) | dct (ks : List Key) (xs : List D)
structure Wd where
 g : Hp
 l : List Addr
structure Ext (G G' : Wd) : Prop where
 g : Same G.g G'.g
 l : ∃ t,G'.l = G.l ++ t
theorem Ext.refl (G : Wd) : Ext G G := ⟨Same.refl _,[],(List.append_nil _).symm⟩
theorem Ext.trans {G G' G'' : Wd} (a : Ext G G') (b : Ext G' G'') : Ext G G'' := ⟨a.g.trans b.g,by
 obtain ⟨t,e⟩ := a.l; obtain ⟨u,e'⟩ := b.l; exact ⟨t ++ u,by rw [e',e,List.append_assoc]⟩⟩
theorem Ext.at {G G' : Wd} {n : Nat} {a : Addr} (e : Ext G G') (h : G.l[n]? = some a) : G'.l[n]? = some a := by
 obtain ⟨t,e⟩ := e.l
 rw [e,List.getElem?_append_left (List.getElem?_eq_some_iff.mp h).1,h]
mutual
inductive Is (K : PySem.W.Frag) (G : Wd) : D -> V -> Prop
 | non : Is K G .non .non
 | bl (b : Bool) : Is K G (.bl b) (.bl b)
 | int (i : Int) : Is K G (.int i) (.int i)
 | str (x : Str) : Is K G (.str x) (.str x)
 | tup {a : Addr} {ds : List D} {vs : List V} (h : SqT K G.g a vs) (r : Iss K G ds vs) : Is K G (.tup ds) (.ref a)
 | lst {a : Addr} {ds : List D} {vs : List V} (h : G.g a = some (.lst vs)) (r : Iss K G ds vs) : Is K G (.lst ds) (.ref a)
 | scr {a : Addr} {ds : List D} {vs : List V} (h : SqL K G.g a vs) (r : Iss K G ds vs) : Is K G (.scr ds) (.ref a)
 | ptr {a : Addr} (n : Nat) (h : G.l[n]? = some a) : Is K G (.ptr n) (.ref a)
 | ty (n : String) : Is K G (.ty n) (.ty n)
 | fn (a : Addr) : Is K G (.fn a) (.ref a)
 | dct {a : Addr} {ks : List Key} {ds : List D} {vs : List V} {ob : Obj} (h : G.g a = some (.frz ob (.dK (ks.zip vs)))) (hl : ks.length = vs.length) (r : Iss K G ds vs) : Is K G (.dct ks ds) (.ref a)
inductive Iss (K : PySem.W.Frag) (G : Wd) : List D -> List V -> Prop
 | nil : Iss K G [] []
 | cons {d : D} {v : V} {ds : List D} {vs : List V} (h : Is K G d v) (r : Iss K G ds vs) : Iss K G (d :: ds) (v :: vs)
end
theorem Q1c {K : PySem.W.Frag} {H H' : Hp} {a : Addr} {xs : List V} (e : Same H H') (h : SqT K H a xs) : SqT K H' a xs := by
 rcases h with (h | ⟨o,h⟩) | h
 ·exact .inl (.inl (e _ _ h))
 ·exact .inl (.inr ⟨o,e _ _ h⟩)
 ·exact .inr h
mutual
theorem Is.ext {K : PySem.W.Frag} {G G' : Wd} (e : Ext G G') : ∀ {d : D} {v : V},Is K G d v -> Is K G' d v
 | _,_,.non => .non
 | _,_,.bl b => .bl b
 | _,_,.int i => .int i
 | _,_,.str x => .str x
 | _,_,.tup h r => .tup (Q1c e.g h) (Iss.ext e r)
 | _,_,.lst h r => .lst (e.g _ _ h) (Iss.ext e r)
 | _,_,.scr h r => .scr (e.g.seq h) (Iss.ext e r)
 | _,_,.ptr n h => .ptr n (e.at h)
 | _,_,.ty n => .ty n
 | _,_,.fn n => .fn n
 | _,_,.dct h hl r => .dct (e.g _ _ h) hl (Iss.ext e r)
theorem Iss.ext {K : PySem.W.Frag} {G G' : Wd} (e : Ext G G') : ∀ {ds : List D} {vs : List V},Iss K G ds vs -> Iss K G' ds vs
 | _,_,.nil => .nil
 | _,_,.cons h r => .cons (Is.ext e h) (Iss.ext e r)
end
section
variable {K : PySem.W.Frag} {G G' : Wd}
theorem Iss.length : ∀ {ds : List D} {vs : List V},Iss K G ds vs -> ds.length = vs.length
 | _,_,.nil => rfl
 | _,_,.cons _ r => by rw [List.length_cons,List.length_cons,r.length]
theorem Iss.append : ∀ {ds es : List D} {vs us : List V},Iss K G ds vs -> Iss K G es us -> Iss K G (ds ++ es) (vs ++ us)
 | _,_,_,_,.nil,q => q
 | _,_,_,_,.cons h r,q => .cons h (Iss.append r q)
theorem Iss.get : ∀ {ds : List D} {vs : List V} {i : Nat} {d : D},Iss K G ds vs -> ds[i]? = some d -> ∃ v,vs[i]? = some v /\ Is K G d v
 | _,_,_,_,.nil,e => by simp at e
 | _,_,0,_,.cons h r,e => by simp at e; subst e; exact ⟨_,rfl,h⟩
 | _,_,i + 1,d,.cons h r,e => by
  obtain ⟨v,e1,h1⟩ := Iss.get (i := i) (d := d) r (by simpa using e)
  exact ⟨v,by simpa using e1,h1⟩
theorem Iss.getV : ∀ {ds : List D} {vs : List V} {i : Nat} {v : V},Iss K G ds vs -> vs[i]? = some v -> ∃ d,ds[i]? = some d /\ Is K G d v
 | _,_,_,_,.nil,e => by simp at e
 | _,_,0,_,.cons h r,e => by simp at e; subst e; exact ⟨_,rfl,h⟩
 | _,_,i + 1,d,.cons h r,e => by
  obtain ⟨v,e1,h1⟩ := Iss.getV (i := i) (v := d) r (by simpa using e)
  exact ⟨v,by simpa using e1,h1⟩
theorem Iss.take : ∀ {ds : List D} {vs : List V} (n : Nat),Iss K G ds vs -> Iss K G (ds.take n) (vs.take n)
 | _,_,0,_ => .nil
 | _,_,_ + 1,.nil => .nil
 | _,_,n + 1,.cons h r => .cons h (Iss.take n r)
theorem Iss.drop : ∀ {ds : List D} {vs : List V} (n : Nat),Iss K G ds vs -> Iss K G (ds.drop n) (vs.drop n)
 | _,_,0,h => h
 | _,_,_ + 1,.nil => .nil
 | _,_,n + 1,.cons h r => Iss.drop n r
theorem Iss.ints : ∀ {ns : List Int},Iss K G (ns.map D.int) (ns.map V.int)
 | [] => .nil
 | n :: ns => .cons (.int n) (Iss.ints (ns := ns))
theorem Iss.toInts : ∀ {ns : List Int} {vs : List V},Iss K G (ns.map D.int) vs -> vs = ns.map V.int
 | [],_,.nil => rfl
 | n :: ns,_,.cons h r => by cases h; rw [Iss.toInts r]; rfl
end
def _root_.L2.ctxOf (o : Obj) : Option Value := match o.data with | .fields vs => vs[2]? | _ => none
inductive MO where
 | lst (xs : List D)
 | ins (C : Addr) (fs : List (Str × D))

 | exc (C : Addr) (fs : List (Str × D)) (h : Option Addr := none)

 | dct (ks : List Key) (xs : List D)

 | pin (ob : Obj) (vs : List V) (ks : List Key) (xs : List D)
abbrev Sto := List (Option MO)
inductive FsIs (K : PySem.W.Frag) (G : Wd) : List (Str × D) -> List (Str × V) -> Prop
 | nil : FsIs K G [] []
 | cons {f : Str} {d : D} {v : V} {fs : List (Str × D)} {vs : List (Str × V)} (h : Is K G d v) (r : FsIs K G fs vs) : FsIs K G ((f,d) :: fs) ((f,v) :: vs)
theorem FsIs.ext {K : PySem.W.Frag} {G G' : Wd} (e : Ext G G') : ∀ {fs : List (Str × D)} {vs : List (Str × V)},FsIs K G fs vs -> FsIs K G' fs vs
 | _,_,.nil => .nil
 | _,_,.cons h r => .cons (h.ext e) (FsIs.ext e r)
def MOk (K : PySem.W.Frag) (G : Wd) (H : Hp) (p : Addr) : MO -> Prop
 | .lst xs => ∃ vs,H p = some (.lst vs) /\ Iss K G xs vs
 | .ins C fs => ∃ dx vs,H p = some (.ins C dx vs) /\ FsIs K G fs vs
 | .exc C fs h => ∃ ob,H p = some (.ext λ h => h.get? p = some ob) /\ (ob.cls = .ref C /\ ∃ ws,ob.data = .fields ws) /\ (fs = [] \/ ∃ dx vs,ob.dict = some dx /\ G.g dx = some (.xd vs) /\ FsIs K G fs vs) /\ ∀ a,h = some a -> p = a /\ L2.ctxOf ob = some .none
 | .dct ks xs => ∃ vs,H p = some (.dK (ks.zip vs)) /\ ks.length = vs.length /\ Iss K G xs vs
 | .pin ob vs ks xs => H p = some (.frz ob (.dK (ks.zip vs))) /\ ks.length = vs.length /\ Iss K G xs vs
structure SA (K : PySem.W.Frag) (G : Wd) (H : Hp) (O : Sto) : Prop where
 sub : Same G.g H
 len : G.l.length = O.length
 nd : G.l.Nodup
 liv : ∀ a ∈ G.l,∃ o,H a = some o
 mt : ∀ (n : Nat) (m : MO),O[n]? = some (some m) -> ∃ a,G.l[n]? = some a /\ G.g a = none /\ MOk K G H a m
section
variable {K : PySem.W.Frag} {G G' : Wd} {H H' : Hp} {O : Sto}
theorem MOk.ext {p : Addr} {m : MO} (e : Ext G G') (q : H' p = H p) (h : MOk K G H p m) : MOk K G' H' p m := by
 cases m with
 | lst xs => obtain ⟨vs,h1,h2⟩ := h; exact ⟨vs,by rw [q]; exact h1,h2.ext e⟩
 | ins C fs => obtain ⟨dx,vs,h1,h2⟩ := h; exact ⟨dx,vs,by rw [q]; exact h1,h2.ext e⟩
 | exc C fs ha =>
  obtain ⟨ob,h1,h2,h3,h4⟩ := h
  refine ⟨ob,by rw [q]; exact h1,h2,h3.imp id ?_,h4⟩
  rintro ⟨dx,vs,a1,a2,a3⟩
  exact ⟨dx,vs,a1,e.g _ _ a2,a3.ext e⟩
 | dct ks xs => obtain ⟨vs,h1,hl,h2⟩ := h; exact ⟨vs,by rw [q]; exact h1,hl,h2.ext e⟩
 | pin ob vs ks xs => obtain ⟨h1,hl,h2⟩ := h; exact ⟨by rw [q]; exact h1,hl,h2.ext e⟩
theorem MOk.some {p : Addr} {m : MO} (h : MOk K G H p m) : ∃ o,H p = some o := by
 cases m with
 | lst xs => obtain ⟨vs,h1,h2⟩ := h; exact ⟨_,h1⟩
 | ins C fs => obtain ⟨dx,vs,h1,h2⟩ := h; exact ⟨_,h1⟩
 | exc C fs ha => obtain ⟨ob,h1,_⟩ := h; exact ⟨_,h1⟩
 | dct ks xs => obtain ⟨vs,h1,_⟩ := h; exact ⟨_,h1⟩
 | pin ob vs ks xs => exact ⟨_,h.1⟩
theorem SA.free {p : Addr} (s : SA K G H O) (h : H p = none) : G.g p = none := s.sub.free h
theorem SA.grow (s : SA K G H O) (e : Same H H') : SA K G H' O :=
 ⟨s.sub.trans e,s.len,s.nd,λ a ha => let ⟨o,h⟩ := s.liv a ha; ⟨o,e _ _ h⟩,λ n m h => by
  obtain ⟨a,h1,h2,h3⟩ := s.mt n m h
  obtain ⟨o,h4⟩ := h3.some
  exact ⟨a,h1,h2,h3.ext (Ext.refl _) (by rw [h4,e _ _ h4])⟩⟩
theorem Q2e {p : Addr} {o : HO} (h : H p = none) : Same H (upd H p o) := λ b u q => by
 rw [Q0i]; exact q
 rintro rfl; rw [h] at q; cases q
theorem SA.laid {p : Addr} {o : HO} (s : SA K G H O) (h : H p = none) : Ext G ⟨upd G.g p o,G.l⟩ /\ SA K ⟨upd G.g p o,G.l⟩ (upd H p o) O := by
 have e : Ext G ⟨upd G.g p o,G.l⟩ := ⟨Q2e (s.free h),[],(List.append_nil _).symm⟩
 refine ⟨e,⟨λ b u q => ?_,s.len,s.nd,λ a ha => let ⟨o,q⟩ := s.liv a ha; ⟨o,Q2e h _ _ q⟩,λ n m hq => ?_⟩⟩
 ·by_cases hb : b = p
  ·subst hb
   have q : upd G.g b o b = some u := q
   rw [Q0h] at q; rw [Q0h]; exact q
  ·have q : upd G.g p o b = some u := q
   rw [Q0i hb] at q ⊢; exact s.sub b u q
 ·obtain ⟨a,h1,h2,h3⟩ := s.mt n m hq
  have ne : a ≠ p := by
   rintro rfl; obtain ⟨o,h4⟩ := h3.some; rw [h] at h4; cases h4
  exact ⟨a,h1,by show upd G.g p o a = none; rw [Q0i ne]; exact h2,h3.ext e (Q0i ne)⟩
theorem SA.new {p : Addr} {o : HO} {m : MO} (s : SA K G H O) (h : H p = none) (r : MOk K ⟨G.g,G.l ++ [p]⟩ (upd H p o) p m) : Ext G ⟨G.g,G.l ++ [p]⟩ /\ SA K ⟨G.g,G.l ++ [p]⟩ (upd H p o) (O ++ [some m]) := by
 have e : Ext G ⟨G.g,G.l ++ [p]⟩ := ⟨Same.refl _,[p],rfl⟩
 have hp : p ∉ G.l := λ z => by obtain ⟨o,q⟩ := s.liv p z; rw [h] at q; cases q
 refine ⟨e,⟨s.sub.trans (Q2e h),?_,?_,?_,?_⟩⟩
 ·simp [s.len]
 ·exact List.nodup_append.mpr ⟨s.nd,List.nodup_cons.mpr ⟨List.not_mem_nil,List.nodup_nil⟩,λ a ha b hb => by
   rw [List.mem_singleton] at hb; subst hb; rintro rfl; exact hp ha⟩
 ·intro a ha
  rcases List.mem_append.mp ha with ha | ha
  ·obtain ⟨u,q⟩ := s.liv a ha; exact ⟨u,Q2e h _ _ q⟩
  ·rw [List.mem_singleton] at ha; subst ha; exact ⟨_,Q0h⟩
 ·intro n m' hq
  by_cases hn : n < O.length
  ·rw [List.getElem?_append_left hn] at hq
   obtain ⟨a,h1,h2,h3⟩ := s.mt n m' hq
   have ne : a ≠ p := by rintro rfl; exact hp (List.mem_of_getElem? h1)
   exact ⟨a,e.at h1,h2,h3.ext e (Q0i ne)⟩
  ·have e1 : n = O.length := by
    have := (List.getElem?_eq_some_iff.mp hq).1
    rw [List.length_append,List.length_singleton] at this
    omega
   subst e1
   rw [List.getElem?_append_right (Nat.le_refl _),Nat.sub_self] at hq
   cases hq
   exact ⟨p,by show (G.l ++ [p])[O.length]? = _; rw [<- s.len,List.getElem?_append_right (Nat.le_refl _),Nat.sub_self]; rfl,s.free h,r⟩
theorem SA.put {n : Nat} {p : Addr} {o : HO} {m m' : MO} (s : SA K G H O) (h : O[n]? = some (some m)) (hp : G.l[n]? = some p) (r : MOk K G (upd H p o) p m') : SA K G (upd H p o) (O.set n (some m')) := by
 obtain ⟨a,h1,h2,h3⟩ := s.mt n m h
 obtain rfl : p = a := Option.some.inj (hp.symm.trans h1)
 refine ⟨λ b u q => ?_,by simp [s.len],s.nd,λ b hb => ?_,λ k m2 hk => ?_⟩
 ·rw [Q0i]; exact s.sub b u q
  rintro rfl; rw [h2] at q; cases q
 ·by_cases hbp : b = p
  ·subst hbp; exact ⟨_,Q0h⟩
  ·obtain ⟨u,q⟩ := s.liv b hb; exact ⟨u,by rw [Q0i hbp]; exact q⟩
 ·by_cases hkn : n = k
  ·subst hkn
   rw [List.getElem?_set_self (List.getElem?_eq_some_iff.mp h).1] at hk
   cases hk
   exact ⟨p,hp,h2,r⟩
  ·rw [List.getElem?_set_ne hkn] at hk
   obtain ⟨b,g1,g2,g3⟩ := s.mt k m2 hk
   have ne : b ≠ p := by
    rintro rfl
    exact hkn ((List.getElem?_inj (List.getElem?_eq_some_iff.mp hp).1 s.nd).mp (hp.trans g1.symm))
   exact ⟨b,g1,g2,g3.ext (Ext.refl _) (Q0i ne)⟩
theorem SA.frozen {n : Nat} {xs : List D} (s : SA K G H O) (h : O[n]? = some (some (.lst xs))) : ∃ G' p,Ext G G' /\ SA K G' H (O.set n none) /\ G.l[n]? = some p /\ Is K G' (.lst xs) (.ref p) := by
 obtain ⟨p,hp,g,vs,h1,r⟩ := s.mt n _ h
 have e : Ext G ⟨upd G.g p (.lst vs),G.l⟩ := ⟨Q2e g,[],(List.append_nil _).symm⟩
 refine ⟨⟨upd G.g p (.lst vs),G.l⟩,p,e,⟨λ b u q => ?_,by simp [s.len],s.nd,s.liv,λ k m hq => ?_⟩,hp,.lst Q0h (r.ext e)⟩
 ·by_cases hb : b = p
  ·subst hb
   have q : upd G.g b _ b = some u := q
   rw [Q0h] at q; cases q; exact h1
  ·have q : upd G.g p _ b = some u := q
   rw [Q0i hb] at q; exact s.sub b u q
 ·by_cases hkn : n = k
  ·subst hkn
   rw [List.getElem?_set_self (List.getElem?_eq_some_iff.mp h).1] at hq
   cases hq
  ·rw [List.getElem?_set_ne hkn] at hq
   obtain ⟨b,g1,g2,g3⟩ := s.mt k m hq
   have ne : b ≠ p := by
    rintro rfl
    exact hkn ((List.getElem?_inj (List.getElem?_eq_some_iff.mp hp).1 s.nd).mp (hp.trans g1.symm))
   exact ⟨b,g1,by show upd G.g p _ b = none; rw [Q0i ne]; exact g2,g3.ext e rfl⟩
end
abbrev Rho := List (Option D)
structure EnvR (K : PySem.W.Frag) (G : Wd) (σ : L2.St) (ρ : Rho) : Prop where
 len : σ.length = ρ.length
 get : ∀ (i : Nat) (d : D),ρ[i]? = some (some d) -> ∃ v,σ[i]? = some (some v) /\ Is K G d v
theorem EnvR.ext {K : PySem.W.Frag} {G G' : Wd} {σ : L2.St} {ρ : Rho} (e : Ext G G') (h : EnvR K G σ ρ) : EnvR K G' σ ρ :=
 ⟨h.len,λ i d q => let ⟨v,h1,h2⟩ := h.get i d q; ⟨v,h1,h2.ext e⟩⟩
theorem EnvR.set {K : PySem.W.Frag} {G : Wd} {σ : L2.St} {ρ : Rho} {d : D} {v : V} (i : Nat) (h : EnvR K G σ ρ) (q : Is K G d v) : EnvR K G (σ.set i (some v)) (ρ.set i (some d)) := by
 refine ⟨by simp [h.len],λ j e hj => ?_⟩
 by_cases hij : i = j
 ·subst hij
  by_cases hl : i < ρ.length
  ·rw [List.getElem?_set_self hl] at hj
   cases hj
   exact ⟨v,List.getElem?_set_self (by rw [h.len]; exact hl),q⟩
  ·rw [List.getElem?_eq_none (by simp; omega)] at hj; cases hj
 ·rw [List.getElem?_set_ne hij] at hj ⊢
  exact h.get j e hj
def Ev (X : Cx) (ρ : Rho) (O : Sto) (e : Expr) (R : D -> Sto -> Prop) : Prop :=
 ∀ G,PE X e (λ σ H Q => SA X.K G H O /\ EnvR X.K G σ ρ /\ ∀ v d O' G' H',Ext G G' -> SA X.K G' H' O' -> Is X.K G' d v -> R d O' -> Q v H')
def EvP (X : Cx) (ρ : Rho) (O : Sto) (e : Expr) (d : D) : Prop :=
 ∀ G,PE X e (λ σ H Q => SA X.K G H O /\ EnvR X.K G σ ρ /\ ∀ v G' H',Ext G G' -> SA X.K G' H' O -> Is X.K G' d v -> Q v H')
def EvT (X : Cx) (ρ : Rho) (O : Sto) (e : Expr) (b : Bool) : Prop :=
 ∀ G,PT X e (λ σ H Q => SA X.K G H O /\ EnvR X.K G σ ρ /\ ∀ G' H',Ext G G' -> SA X.K G' H' O -> Q b H')
def EvW (X : Cx) (ρ : Rho) (O : Sto) (e : Expr) (b : Bool) : Prop :=
 ∀ G,PW X e (λ σ H Q => SA X.K G H O /\ EnvR X.K G σ ρ /\ ∀ G' H',Ext G G' -> SA X.K G' H' O -> Q b H')
def EvAs (X : Cx) (ρ : Rho) (O : Sto) (es : List Expr) (R : List D -> Sto -> Prop) : Prop :=
 ∀ G,PA X es (λ σ H Q => SA X.K G H O /\ EnvR X.K G σ ρ /\ ∀ vs ds O' G' H',Ext G G' -> SA X.K G' H' O' -> Iss X.K G' ds vs -> R ds O' -> Q vs H')
theorem _root_.L2.PE.imp {X : Cx} {e : Expr} {t u : TE} (h : PE X e t) (k : ∀ σ H Q,u σ H Q -> t σ H Q) : PE X e u := λ pins s σ H Q I q => h pins s σ H Q I (k _ _ _ q)
theorem _root_.L2.PT.imp {X : Cx} {e : Expr} {t u : TT} (h : PT X e t) (k : ∀ σ H Q,u σ H Q -> t σ H Q) : PT X e u := λ pins s σ H Q I q => h pins s σ H Q I (k _ _ _ q)
theorem _root_.L2.PA.imp {X : Cx} {es : List Expr} {t u : TA} (h : PA X es t) (k : ∀ σ H Q,u σ H Q -> t σ H Q) : PA X es u := λ pos pins s σ H Q I q => h pos pins s σ H Q I (k _ _ _ q)
theorem _root_.L2.PS.imp {X : Cx} {e : Stmt} {t u : TS} (h : PS X e t) (k : ∀ D σ H,u D σ H -> t D σ H) : PS X e u := λ pins s σ H D I q => h pins s σ H D I (k _ _ _ q)
theorem _root_.L2.PSs.imp {X : Cx} {e : List Stmt} {t u : TS} (h : PSs X e t) (k : ∀ D σ H,u D σ H -> t D σ H) : PSs X e u := λ pins s σ H D I q => h pins s σ H D I (k _ _ _ q)
section
variable {X : Cx} {ρ : Rho} {O : Sto} {e a b c : Expr} {d da db : D} {R : D -> Sto -> Prop} {pos : Pos}
theorem EvP.ev (h : EvP X ρ O e d) (r : R d O) : Ev X ρ O e R := λ G => (h G).imp λ σ H Q ⟨s,n,k⟩ => ⟨s,n,λ v G' H' e1 s' i => k v d O G' H' e1 s' i r⟩
theorem Ev.evp (h : Ev X ρ O e λ d' O' => d' = d /\ O' = O) : EvP X ρ O e d := λ G => (h G).imp λ σ H Q ⟨s,n,k⟩ => ⟨s,n,λ v d' O' G' H' e1 s' i r => by obtain ⟨rfl,rfl⟩ := r; exact k v G' H' e1 s' i⟩
theorem EvP.cast {d' : D} (h : EvP X ρ O e d) (q : d = d') : EvP X ρ O e d' := q ▸ h
theorem EvW.t (h : EvW X ρ O e b') : EvT X ρ O e b' := λ G => (h G).pt
theorem EvT.cast {k k' : Bool} (h : EvT X ρ O e k) (q : k = k') : EvT X ρ O e k' := q ▸ h
theorem Q0b (i : Nat) {x : Str} {p : Pos} (hr : ρ[i]? = some (some d) := by rfl) (hN : X.N[i]? = some x := by rfl) (hv : Vis X.env.scope x := by first | exact Or.inl rfl | exact Or.inr (Or.inl rfl) | exact Or.inr (Or.inr rfl))
  (hd : (x == ("__debug__" : Str)) = false := by decide) (hcd : (x == ("__classdict__" : Str)) = false := by decide) : EvP X ρ O (.Name x p) d := λ G =>
 PE.imp (pe_var hN hv hd hcd) λ σ H Q ⟨s,n,k⟩ => by
  obtain ⟨v,e1,i1⟩ := n.get i d hr
  exact ⟨v,e1,k v G H (Ext.refl _) s i1⟩
theorem Q0d {i : Int} {j : Nat} : EvP X ρ O (.Constant (.int i) j pos) (.int i) := λ G => PE.imp pe_int λ σ H Q ⟨s,n,k⟩ => k _ G H (Ext.refl _) s (.int i)
theorem Q2a {i : Bool} {j : Nat} : EvP X ρ O (.Constant (.bool i) j pos) (.bl i) := λ G => PE.imp pe_bl λ σ H Q ⟨s,n,k⟩ => k _ G H (Ext.refl _) s (.bl i)
theorem ev_non {j : Nat} : EvP X ρ O (.Constant .none j pos) .non := λ G => PE.imp pe_non λ σ H Q ⟨s,n,k⟩ => k _ G H (Ext.refl _) s .non
theorem Q0k {x : Str} {j : Nat} : EvP X ρ O (.Constant (.str x) j pos) (.str x) := λ G => PE.imp pe_str λ σ H Q ⟨s,n,k⟩ => k _ G H (Ext.refl _) s (.str x)
def Op2 (X : Cx) (O : Sto) (f : Value -> Value -> Sem Value) (da db d : D) : Prop :=
 ∀ G,OpR X f (λ v u H Q => SA X.K G H O /\ Is X.K G da v /\ Is X.K G db u /\ ∀ w G' H',Ext G G' -> SA X.K G' H' O -> Is X.K G' d w -> Q w H')
theorem Op2.of {f : Value -> Value -> Sem Value} {r : R2} (ho : OpR X f r)
  (k : ∀ G v u H Q,SA X.K G H O -> Is X.K G da v -> Is X.K G db u -> (∀ w G' H',Ext G G' -> SA X.K G' H' O -> Is X.K G' d w -> Q w H') -> r v u H Q) : Op2 X O f da db d :=
 λ G pins s σ H x y v u Q I rx ry ⟨h1,h2,h3,h4⟩ => ho pins s σ H x y v u Q I rx ry (k G _ _ _ _ h1 h2 h3 h4)
theorem Q0j {op : Operator} (ha : EvP X ρ O a da) (hb : EvP X ρ O b db) (ho : Op2 X O (binaryOp op) da db d) : EvP X ρ O (.BinOp a op b pos) d := λ G pins s σ H Q I ⟨h1,h2,h3⟩ =>
 wpAny_BinOp (binT (ta := λ σ H Q => SA X.K G H O /\ EnvR X.K G σ ρ /\ ∀ v G' H',Ext G G' -> SA X.K G' H' O -> Is X.K G' da v -> Q v H') (ha G)
  (tb := λ σ H Q => ∃ G1 v0,SA X.K G1 H O /\ EnvR X.K G1 σ ρ /\ ∀ v G' H',Ext G1 G' -> SA X.K G' H' O -> Is X.K G' db v -> Q v H') (λ pins s σ H Q I ⟨G1,_,q⟩ => hb G1 pins s σ H Q I q) I
  (R := λ x y H2 => ∃ G2,Ext G G2 /\ SA X.K G2 H2 O /\ Is X.K G2 da x /\ Is X.K G2 db y)
  ⟨h1,h2,λ v G1 H1 e1 s1 i1 => ⟨G1,(0 : Nat),s1,h2.ext e1,λ u G2 H2 e2 s2 i2 => ⟨G2,e1.trans e2,s2,i1.ext e2,i2⟩⟩⟩
  λ v u s2 x y H2 I2 rx ry ⟨G2,e2,s2',i1,i2⟩ => ho G2 pins s2 σ H2 x y v u Q I2 rx ry ⟨s2',i1,i2,λ w G3 H3 e3 s3 i3 => h3 w G3 H3 (e2.trans e3) s3 i3⟩)
theorem o_int {f : Value -> Value -> Sem Value} {g : Int -> Int -> Int} {i j : Int} (ho : OpR X f (rI0 λ i j => .int (g i j))) : Op2 X O f (.int i) (.int j) (.int (g i j)) :=
 .of ho λ G v u H Q s h1 h2 k => by cases h1; cases h2; exact ⟨i,j,rfl,rfl,k _ G H (Ext.refl _) s (.int _)⟩
theorem o_intC {f : Value -> Value -> Sem Value} {C : Int -> Int -> Prop} {g : Int -> Int -> Int} {i j : Int} (ho : OpR X f (rI C λ i j => .int (g i j))) (hc : C i j) : Op2 X O f (.int i) (.int j) (.int (g i j)) :=
 .of ho λ G v u H Q s h1 h2 k => by cases h1; cases h2; exact ⟨i,j,rfl,rfl,hc,k _ G H (Ext.refl _) s (.int _)⟩
theorem o_intB {f : Value -> Value -> Sem Value} {g : Int -> Int -> Bool} {i j : Int} (ho : OpR X f (rI0 λ i j => .bl (g i j))) : Op2 X O f (.int i) (.int j) (.bl (g i j)) :=
 .of ho λ G v u H Q s h1 h2 k => by cases h1; cases h2; exact ⟨i,j,rfl,rfl,k _ G H (Ext.refl _) s (.bl _)⟩
theorem Q1Y {i j : Int} : Op2 X O (binaryOp .Add) (.int i) (.int j) (.int (i + j)) := o_int op_add
theorem o_sub {i j : Int} : Op2 X O (binaryOp .Sub) (.int i) (.int j) (.int (i - j)) := o_int op_sub
theorem op_mulG : OpR X (binaryOp .Mult) (rI IntMulOk λ i j => .int (i * j)) := opI λ _ _ _ _ _ _ _ hc q => mul_int q hc
theorem Q3m {i j : Int} (h : IntMulOk i j) : Op2 X O (binaryOp .Mult) (.int i) (.int j) (.int (i * j)) := o_intC op_mulG h
theorem Q3U {i j : Int} (h : CDiv i j) : Op2 X O (binaryOp .FloorDiv) (.int i) (.int j) (.int (i / j)) := o_intC op_fdiv h
theorem Q1p {i j : Int} (h : 0 < j) : Op2 X O (binaryOp .Mod) (.int i) (.int j) (.int (i % j)) := o_intC (C := λ _ j => 0 < j) op_mod h
theorem o_pow {i j : Int} (h : CPow i j) : Op2 X O (binaryOp .Pow) (.int i) (.int j) (.int (i ^ j.toNat)) := o_intC op_pow h
theorem cmp_lt {i j : Int} : Op2 X O (compareOp .Lt) (.int i) (.int j) (.bl (decide (i < j))) := o_intB op_lt
theorem cmp_le {i j : Int} : Op2 X O (compareOp .LtE) (.int i) (.int j) (.bl (decide (i <= j))) := o_intB op_le
theorem cmp_gt {i j : Int} : Op2 X O (compareOp .Gt) (.int i) (.int j) (.bl (decide (j < i))) := o_intB op_gt
theorem cmp_ge {i j : Int} : Op2 X O (compareOp .GtE) (.int i) (.int j) (.bl (decide (j <= i))) := o_intB op_ge
theorem dec_V {i j : Int} : decide (V.int i = V.int j) = decide (i = j) := by
 by_cases h : i = j
 ·subst h; rw [decide_eq_true rfl,decide_eq_true rfl]
 ·rw [decide_eq_false h,decide_eq_false]; intro z; injection z with z; exact h z
theorem Q0v {i j : Int} : Op2 X O (compareOp .Eq) (.int i) (.int j) (.bl (decide (i = j))) :=
 .of op_eq λ G v u H Q s h1 h2 k => by cases h1; cases h2; exact ⟨rfl,by rw [dec_V]; exact k _ G H (Ext.refl _) s (.bl _)⟩
theorem cmp_neI {i j : Int} : Op2 X O (compareOp .NotEq) (.int i) (.int j) (.bl (!decide (i = j))) :=
 .of op_ne λ G v u H Q s h1 h2 k => by cases h1; cases h2; exact ⟨rfl,by rw [dec_V]; exact k _ G H (Ext.refl _) s (.bl _)⟩
def isN : D -> Bool
 | .non => true
 | _ => false
theorem isN_of {K : PySem.W.Frag} {G : Wd} {v : V} (h : Is K G d v) : decide (v = V.non) = isN d := by
 cases h <;> first | rfl | exact decide_eq_false (λ z => by cases z)
theorem cmp_is : Op2 X O (compareOp .Is) da .non (.bl (isN da)) :=
 .of op_isN λ G v u H Q s h1 h2 k => by cases h2; exact ⟨rfl,by rw [isN_of h1]; exact k _ G H (Ext.refl _) s (.bl _)⟩
theorem ev_cmp {op : CmpOp} (ha : EvP X ρ O a da) (hb : EvP X ρ O b db) (ho : Op2 X O (compareOp op) da db d) (hm : behindInMarks op b = false := by first | exact nomark _ | (with_unfolding_all rfl)) : EvP X ρ O (.Compare a [op] [b] pos) d := λ G pins s σ H Q I ⟨h1,h2,h3⟩ =>
 wpAny_Compare1 (binT (ta := λ σ H Q => SA X.K G H O /\ EnvR X.K G σ ρ /\ ∀ v G' H',Ext G G' -> SA X.K G' H' O -> Is X.K G' da v -> Q v H') (ha G)
  (tb := λ σ H Q => ∃ G1 v0,SA X.K G1 H O /\ EnvR X.K G1 σ ρ /\ ∀ v G' H',Ext G1 G' -> SA X.K G' H' O -> Is X.K G' db v -> Q v H') (λ pins s σ H Q I ⟨G1,_,q⟩ => hb G1 pins s σ H Q I q) I
  (R := λ x y H2 => ∃ G2,Ext G G2 /\ SA X.K G2 H2 O /\ Is X.K G2 da x /\ Is X.K G2 db y)
  ⟨h1,h2,λ v G1 H1 e1 s1 i1 => ⟨G1,(0 : Nat),s1,h2.ext e1,λ u G2 H2 e2 s2 i2 => ⟨G2,e1.trans e2,s2,i1.ext e2,i2⟩⟩⟩
  λ v u s2 x y H2 I2 rx ry ⟨G2,e2,s2',i1,i2⟩ => ho G2 pins s2 σ H2 x y v u Q I2 rx ry ⟨s2',i1,i2,λ w G3 H3 e3 s3 i3 => h3 w G3 H3 (e2.trans e3) s3 i3⟩) hm
theorem Q0n {op : CmpOp} {k : Bool} (ha : EvP X ρ O a da) (hb : EvP X ρ O b db) (ho : Op2 X O (compareOp op) da db (.bl k)) (hm : behindInMarks op b = false := by first | exact nomark _ | (with_unfolding_all rfl)) : EvT X ρ O (.Compare a [op] [b] pos) k := λ G pins s σ H Q I ⟨h1,h2,h3⟩ => by
 refine wpAny_isTrue_Compare1 (thn (ha G pins s σ H _ I ⟨h1,h2,λ v G1 H1 e1 s1 i1 => (⟨G1,e1,s1,i1⟩ : ∃ G1,Ext G G1 /\ SA X.K G1 H1 O /\ Is X.K G1 da v)⟩) λ v s1 ⟨x,H1,I1,r1,G1,e1,sa1,i1⟩ =>
  thn (hb G1 pins s1 σ H1 _ I1 ⟨sa1,h2.ext e1,λ u G2 H2 e2 s2 i2 => (⟨G2,e2,s2,i2⟩ : ∃ G2,Ext G1 G2 /\ SA X.K G2 H2 O /\ Is X.K G2 db u)⟩) λ u s2 ⟨y,H2,I2,r2,G2,e2,sa2,i2⟩ =>
  thn (ho G2 pins s2 σ H2 x y v u _ I2 r1 r2 ⟨sa2,i1.ext e2,i2,λ w G3 H3 e3 s3 i3 => (⟨G3,e3,s3,i3⟩ : ∃ G3,Ext G2 G3 /\ SA X.K G3 H3 O /\ Is X.K G3 (.bl k) w)⟩) λ c s3 ⟨z,H3,I3,r3,G3,e3,sa3,i3⟩ => ?_) hm
 cases i3
 cases r3
 exact wpAny_truthy_bool ⟨H3,I3,h3 G3 H3 ((e1.trans e2).trans e3) sa3⟩
theorem Q2V {k : Bool} (ha : EvP X ρ O a (.bl k)) (he : ∀ whole,isTrue a X.env whole = (do let v <- whole; standAt a.pos; holding [v] (truthy v)) := by intro _; rfl) : EvT X ρ O a k := λ G =>
 (pt_truth (ha G) he).imp λ σ H Q ⟨h1,h2,h3⟩ => ⟨h1,h2,λ v G' H' e1 s1 i1 => by cases i1; exact ⟨k,rfl,h3 G' H' e1 s1⟩⟩
theorem Q2m {k : Bool} (ha : EvT X ρ O a k) : EvT X ρ O (.UnaryOp .Not a pos) (!k) := λ G =>
 (pt_not (ha G)).imp λ σ H Q ⟨h1,h2,h3⟩ => ⟨h1,h2,λ G' H' e1 s1 => h3 G' H' e1 s1⟩
theorem ew_and1 {k : Bool} (ha : EvT X ρ O a k) : EvW X ρ O (.BoolOp .And [a] pos) k := λ G => pw_and1 (ha G)
theorem ew_or1 {k : Bool} (ha : EvT X ρ O a k) : EvW X ρ O (.BoolOp .Or [a] pos) k := λ G => pw_or1 (ha G)
theorem ew_and {k l : Bool} {rest : List Expr} (ha : EvT X ρ O a k) (hb : k = true -> EvW X ρ O (.BoolOp .And (b :: rest) pos) l) : EvW X ρ O (.BoolOp .And (a :: b :: rest) pos) (k && l) := λ G wh pins s σ H Q I ⟨h1,h2,h3⟩ => by
 refine isTrue_and (thn (ha G pins s σ H (λ c H1 => c = k /\ ∃ G1,Ext G G1 /\ SA X.K G1 H1 O) I ⟨h1,h2,λ G1 H1 e1 s1 => ⟨rfl,G1,e1,s1⟩⟩) ?_)
 rintro c s1 ⟨H1,I1,rfl,G1,e1,sa1⟩
 cases c with
 | false => exact ⟨H1,I1,h3 G1 H1 e1 sa1⟩
 | true => exact hb rfl G1 wh pins s1 σ H1 Q I1 ⟨sa1,h2.ext e1,λ G2 H2 e2 s2 => h3 G2 H2 (e1.trans e2) s2⟩
theorem ew_or {k l : Bool} {rest : List Expr} (ha : EvT X ρ O a k) (hb : k = false -> EvW X ρ O (.BoolOp .Or (b :: rest) pos) l) : EvW X ρ O (.BoolOp .Or (a :: b :: rest) pos) (k || l) := λ G wh pins s σ H Q I ⟨h1,h2,h3⟩ => by
 refine isTrue_or (thn (ha G pins s σ H (λ c H1 => c = k /\ ∃ G1,Ext G G1 /\ SA X.K G1 H1 O) I ⟨h1,h2,λ G1 H1 e1 s1 => ⟨rfl,G1,e1,s1⟩⟩) ?_)
 rintro c s1 ⟨H1,I1,rfl,G1,e1,sa1⟩
 cases c with
 | true => exact ⟨H1,I1,h3 G1 H1 e1 sa1⟩
 | false => exact hb rfl G1 wh pins s1 σ H1 Q I1 ⟨sa1,h2.ext e1,λ G2 H2 e2 s2 => h3 G2 H2 (e1.trans e2) s2⟩
theorem ev_one {op : BoolOp} (ha : EvP X ρ O a d) : EvP X ρ O (.BoolOp op [a] pos) d := λ G => pe_one (ha G)
theorem ev_and {k l : Bool} {rest : List Expr} (ha : EvP X ρ O a (.bl k)) (hb : k = true -> EvP X ρ O (.BoolOp .And (b :: rest) pos) (.bl l)) : EvP X ρ O (.BoolOp .And (a :: b :: rest) pos) (.bl (k && l)) := λ G pins s σ H Q I ⟨h1,h2,h3⟩ => by
 refine BoolOp_and (thn (ha G pins s σ H (λ v H1 => ∃ G1,Ext G G1 /\ SA X.K G1 H1 O /\ Is X.K G1 (.bl k) v) I ⟨h1,h2,λ v G1 H1 e1 s1 i1 => ⟨G1,e1,s1,i1⟩⟩) ?_)
 rintro v s1 ⟨x,H1,I1,r1,G1,e1,sa1,i1⟩
 cases i1
 cases r1
 refine wpAny_truthy_bool ?_
 cases k with
 | false => exact ⟨.bl false,H1,I1,rfl,h3 _ G1 H1 e1 sa1 (.bl _)⟩
 | true => exact hb rfl G1 pins s1 σ H1 Q I1 ⟨sa1,h2.ext e1,λ w G2 H2 e2 s2 i2 => h3 w G2 H2 (e1.trans e2) s2 i2⟩
theorem ev_or {k l : Bool} {rest : List Expr} (ha : EvP X ρ O a (.bl k)) (hb : k = false -> EvP X ρ O (.BoolOp .Or (b :: rest) pos) (.bl l)) : EvP X ρ O (.BoolOp .Or (a :: b :: rest) pos) (.bl (k || l)) := λ G pins s σ H Q I ⟨h1,h2,h3⟩ => by
 refine BoolOp_or (thn (ha G pins s σ H (λ v H1 => ∃ G1,Ext G G1 /\ SA X.K G1 H1 O /\ Is X.K G1 (.bl k) v) I ⟨h1,h2,λ v G1 H1 e1 s1 i1 => ⟨G1,e1,s1,i1⟩⟩) ?_)
 rintro v s1 ⟨x,H1,I1,r1,G1,e1,sa1,i1⟩
 cases i1
 cases r1
 refine wpAny_truthy_bool ?_
 cases k with
 | true => exact ⟨.bl true,H1,I1,rfl,h3 _ G1 H1 e1 sa1 (.bl _)⟩
 | false => exact hb rfl G1 pins s1 σ H1 Q I1 ⟨sa1,h2.ext e1,λ w G2 H2 e2 s2 i2 => h3 w G2 H2 (e1.trans e2) s2 i2⟩
theorem ev_not {k : Bool} (ha : EvP X ρ O a (.bl k)) : EvP X ρ O (.UnaryOp .Not a pos) (.bl (!k)) := λ G => (pe_not (ha G)).imp λ σ H Q ⟨h1,h2,h3⟩ => ⟨h1,h2,λ v G1 H1 e1 s1 i1 => by
 cases i1
 exact ⟨k,rfl,h3 _ G1 H1 e1 s1 (.bl _)⟩⟩
theorem ev_chain {op op' : CmpOp} {k l : Bool} {dc : D} (ha : EvP X ρ O a da) (hb : EvP X ρ O b db) (hc : EvP X ρ O c dc) (ho : Op2 X O (compareOp op) da db (.bl k)) (ho' : k = true -> Op2 X O (compareOp op') db dc (.bl l))
  (hm : lastMarks [op,op'] [b,c] = false := by with_unfolding_all rfl) : EvP X ρ O (.Compare a [op,op'] [b,c] pos) (.bl (k && l)) := λ G pins s σ H Q I ⟨h1,h2,h3⟩ => by
 refine Compare_chain (thn (ha G pins s σ H (λ v H1 => ∃ G1,Ext G G1 /\ SA X.K G1 H1 O /\ Is X.K G1 da v) I ⟨h1,h2,λ v G1 H1 e1 s1 i1 => ⟨G1,e1,s1,i1⟩⟩) ?_) hm
 rintro v s1 ⟨x,H1,I1,r1,G1,e1,sa1,i1⟩
 refine chain_link (thn (hb G1 pins s1 σ H1 (λ v H2 => ∃ G2,Ext G1 G2 /\ SA X.K G2 H2 O /\ Is X.K G2 db v) I1 ⟨sa1,h2.ext e1,λ v G2 H2 e2 s2 i2 => ⟨G2,e2,s2,i2⟩⟩) ?_)
 rintro u s2 ⟨y,H2,I2,r2,G2,e2,sa2,i2⟩
 refine thn (ho G2 pins s2 σ H2 x y v u (λ w H3 => ∃ G3,Ext G2 G3 /\ SA X.K G3 H3 O /\ Is X.K G3 (.bl k) w) I2 r1 r2 ⟨sa2,i1.ext e2,i2,λ w G3 H3 e3 s3 i3 => ⟨G3,e3,s3,i3⟩⟩) ?_
 rintro w s3 ⟨z,H3,I3,r3,G3,e3,sa3,i3⟩
 cases i3
 cases r3
 refine wpAny_truthy_bool ?_
 cases k with
 | false => exact ite_ff ⟨.bl false,H3,I3,rfl,h3 _ G3 H3 ((e1.trans e2).trans e3) sa3 (.bl _)⟩
 | true =>
  refine ite_tt (chain_last (thn (hc G3 pins s3 σ H3 (λ v H4 => ∃ G4,Ext G3 G4 /\ SA X.K G4 H4 O /\ Is X.K G4 dc v) I3 ⟨sa3,h2.ext ((e1.trans e2).trans e3),λ v G4 H4 e4 s4 i4 => ⟨G4,e4,s4,i4⟩⟩) ?_))
  rintro q s4 ⟨z',H4,I4,r4,G4,e4,sa4,i4⟩
  exact ho' rfl G4 pins s4 σ H4 y z' u q Q I4 r2 r4 ⟨sa4,i2.ext (e3.trans e4),i4,λ w G5 H5 e5 s5 i5 => h3 w G5 H5 ((((e1.trans e2).trans e3).trans e4).trans e5) s5 i5⟩
theorem et_chain {op op' : CmpOp} {k l : Bool} {dc : D} (ha : EvP X ρ O a da) (hb : EvP X ρ O b db) (hc : EvP X ρ O c dc) (ho : Op2 X O (compareOp op) da db (.bl k)) (ho' : k = true -> Op2 X O (compareOp op') db dc (.bl l))
  (hm : lastMarks [op,op'] [b,c] = false := by with_unfolding_all rfl) : EvT X ρ O (.Compare a [op,op'] [b,c] pos) (k && l) := λ G pins s σ H Q I ⟨h1,h2,h3⟩ => by
 refine isTrue_chain (thn (ha G pins s σ H (λ v H1 => ∃ G1,Ext G G1 /\ SA X.K G1 H1 O /\ Is X.K G1 da v) I ⟨h1,h2,λ v G1 H1 e1 s1 i1 => ⟨G1,e1,s1,i1⟩⟩) ?_) hm
 rintro v s1 ⟨x,H1,I1,r1,G1,e1,sa1,i1⟩
 refine test_link (thn (hb G1 pins s1 σ H1 (λ v H2 => ∃ G2,Ext G1 G2 /\ SA X.K G2 H2 O /\ Is X.K G2 db v) I1 ⟨sa1,h2.ext e1,λ v G2 H2 e2 s2 i2 => ⟨G2,e2,s2,i2⟩⟩) ?_)
 rintro u s2 ⟨y,H2,I2,r2,G2,e2,sa2,i2⟩
 refine thn (ho G2 pins s2 σ H2 x y v u (λ w H3 => ∃ G3,Ext G2 G3 /\ SA X.K G3 H3 O /\ Is X.K G3 (.bl k) w) I2 r1 r2 ⟨sa2,i1.ext e2,i2,λ w G3 H3 e3 s3 i3 => ⟨G3,e3,s3,i3⟩⟩) ?_
 rintro w s3 ⟨z,H3,I3,r3,G3,e3,sa3,i3⟩
 cases i3
 cases r3
 refine wpAny_truthy_bool ?_
 cases k with
 | false => exact ite_ff ⟨H3,I3,h3 G3 H3 ((e1.trans e2).trans e3) sa3⟩
 | true =>
  refine ite_tt (test_last (thn (hc G3 pins s3 σ H3 (λ v H4 => ∃ G4,Ext G3 G4 /\ SA X.K G4 H4 O /\ Is X.K G4 dc v) I3 ⟨sa3,h2.ext ((e1.trans e2).trans e3),λ v G4 H4 e4 s4 i4 => ⟨G4,e4,s4,i4⟩⟩) ?_))
  rintro q s4 ⟨z',H4,I4,r4,G4,e4,sa4,i4⟩
  refine thn (ho' rfl G4 pins s4 σ H4 y z' u q (λ w H5 => ∃ G5,Ext G4 G5 /\ SA X.K G5 H5 O /\ Is X.K G5 (.bl l) w) I4 r2 r4 ⟨sa4,i2.ext (e3.trans e4),i4,λ w G5 H5 e5 s5 i5 => ⟨G5,e5,s5,i5⟩⟩) ?_
  rintro q' s5 ⟨z2,H5,I5,r5,G5,e5,sa5,i5⟩
  cases i5
  cases r5
  exact wpAny_truthy_bool ⟨H5,I5,h3 G5 H5 ((((e1.trans e2).trans e3).trans e4).trans e5) sa5⟩
end
def LV (O : Sto) (d : D) (xs : List D) : Prop := d = .lst xs \/ d = .scr xs \/ ∃ n,d = .ptr n /\ O[n]? = some (some (.lst xs))
def LT (O : Sto) (d : D) (xs : List D) : Prop := LV O d xs \/ d = .tup xs
theorem LV.sq {K : PySem.W.Frag} {G : Wd} {H : Hp} {O : Sto} {d : D} {xs : List D} {v : V} (h : LV O d xs) (s : SA K G H O) (i : Is K G d v) : ∃ a vs,v = .ref a /\ SqL K H a vs /\ Iss K G xs vs := by
 rcases h with rfl | rfl | ⟨p,rfl,h⟩
 ·cases i with | lst h r => exact ⟨_,_,rfl,SqL.of (s.sub _ _ h),r⟩
 ·cases i with | scr h r => exact ⟨_,_,rfl,s.sub.seq h,r⟩
 ·cases i with
  | ptr _ q =>
   obtain ⟨a,e,_,vs,h1,h2⟩ := s.mt p _ h
   obtain rfl := Option.some.inj (q.symm.trans e)
   exact ⟨_,vs,rfl,SqL.of h1,h2⟩
theorem tup_sq {K : PySem.W.Frag} {G : Wd} {H : Hp} {O : Sto} {xs : List D} {v : V} (s : SA K G H O) (i : Is K G (.tup xs) v) : ∃ a vs,v = .ref a /\ SqT K H a vs /\ Iss K G xs vs := by
 cases i with | tup h r => exact ⟨_,_,rfl,Q1c s.sub h,r⟩
def EvPs (X : Cx) (ρ : Rho) (O : Sto) (es : List Expr) (ds : List D) : Prop :=
 ∀ G,PA X es (λ σ H Q => SA X.K G H O /\ EnvR X.K G σ ρ /\ ∀ vs G' H',Ext G G' -> SA X.K G' H' O -> Iss X.K G' ds vs -> Q vs H')
section
variable {X : Cx} {ρ : Rho} {O : Sto} {e a b c : Expr} {es : List Expr} {d da db : D} {ds : List D} {R : D -> Sto -> Prop} {pos p : Pos} {x : Str}
theorem Q0e : EvPs X ρ O [] [] := λ G => PA.imp pa_nil λ σ H Q ⟨h1,h2,h3⟩ => h3 _ G H (Ext.refl _) h1 .nil
theorem Q0a (he : EvP X ρ O e d) (hs : EvPs X ρ O es ds) (hst : starEach (e :: es) X.env = (false,eval e X.env) :: starEach es X.env := by rfl) : EvPs X ρ O (e :: es) (d :: ds) := λ G =>
 PA.imp (Q2f (he G) (t := λ σ H Q => ∃ G1,SA X.K G1 H O /\ EnvR X.K G1 σ ρ /\ ∀ vs G' H',Ext G1 G' -> SA X.K G' H' O -> Iss X.K G' ds vs -> Q vs H') (λ pos pins s σ H Q I ⟨G1,q⟩ => hs G1 pos pins s σ H Q I q) hst)
  λ σ H Q ⟨h1,h2,h3⟩ => ⟨h1,h2,λ v G1 H1 e1 s1 i1 => ⟨G1,s1,h2.ext e1,λ vs G2 H2 e2 s2 i2 => h3 _ G2 H2 (e1.trans e2) s2 (.cons (i1.ext e2) i2)⟩⟩
theorem Q1y {R : List D -> Sto -> Prop} (he : Ev X ρ O e λ d O1 => EvAs X ρ O1 es λ ds O2 => R (d :: ds) O2) (hst : starEach (e :: es) X.env = (false,eval e X.env) :: starEach es X.env := by rfl) : EvAs X ρ O (e :: es) R := λ G =>
 PA.imp (Q2f (he G) (t := λ σ H Q => ∃ G1 d O1,SA X.K G1 H O1 /\ EnvR X.K G1 σ ρ /\ (EvAs X ρ O1 es λ ds O2 => R (d :: ds) O2) /\ ∀ vs ds O2 G' H',Ext G1 G' -> SA X.K G' H' O2 -> Iss X.K G' ds vs -> R (d :: ds) O2 -> Q vs H') (λ pos pins s σ H Q I ⟨G1,d,O1,q1,q2,q3,q4⟩ => q3 G1 pos pins s σ H Q I ⟨q1,q2,q4⟩) hst)
  λ σ H Q ⟨h1,h2,h3⟩ => ⟨h1,h2,λ v d O1 G1 H1 e1 s1 i1 r1 => ⟨G1,d,O1,s1,h2.ext e1,r1,λ vs ds O2 G2 H2 e2 s2 i2 r2 => h3 _ (d :: ds) O2 G2 H2 (e1.trans e2) s2 (.cons (i1.ext e2) i2) r2⟩⟩
theorem EvPs.as {R : List D -> Sto -> Prop} (h : EvPs X ρ O es ds) (r : R ds O) : EvAs X ρ O es R := λ G => PA.imp (h G) λ σ H Q ⟨h1,h2,h3⟩ => ⟨h1,h2,λ vs G' H' e1 s1 i1 => h3 vs ds O G' H' e1 s1 i1 r⟩
theorem Q1Z {x1 : Nat} (h : EvPs X ρ O es ds) (hz : ds.length <= sizeLine := by exact Nat.le_of_ble_eq_true rfl) : EvP X ρ O (.Tuple es x1 pos) (.tup ds) := λ G =>
 PE.imp (pe_tup (h G)) λ σ H Q ⟨h1,h2,h3⟩ => ⟨h1,h2,λ vs G1 H1 e1 s1 i1 => ⟨by rw [<- i1.length]; exact hz,λ p hp => by
  obtain ⟨e2,s2⟩ := s1.laid (o := .tup vs) hp
  exact h3 _ _ _ (e1.trans e2) s2 (.tup (SqT.of Q0h) (i1.ext e2))⟩⟩
theorem Q0Q (h : EvPs X ρ O es ds) (hz : ds.length <= sizeLine := by exact Nat.le_of_ble_eq_true rfl) : EvP X ρ O (.List es pos) (.lst ds) := λ G =>
 PE.imp (pe_lst (h G)) λ σ H Q ⟨h1,h2,h3⟩ => ⟨h1,h2,λ vs G1 H1 e1 s1 i1 => ⟨by rw [<- i1.length]; exact hz,λ p hp => by
  obtain ⟨e2,s2⟩ := s1.laid (o := .lst vs) hp
  exact h3 _ _ _ (e1.trans e2) s2 (.lst Q0h (i1.ext e2))⟩⟩
theorem ev_lstM (h : EvPs X ρ O es ds) (k : R (.ptr O.length) (O ++ [some (.lst ds)])) (hz : ds.length <= sizeLine := by exact Nat.le_of_ble_eq_true rfl) : Ev X ρ O (.List es pos) R := λ G =>
 PE.imp (pe_lst (h G)) λ σ H Q ⟨h1,h2,h3⟩ => ⟨h1,h2,λ vs G1 H1 e1 s1 i1 => ⟨by rw [<- i1.length]; exact hz,λ p hp => by
  have e : Ext G1 ⟨G1.g,G1.l ++ [p]⟩ := ⟨Same.refl _,[p],rfl⟩
  obtain ⟨e2,s2⟩ := s1.new (m := .lst ds) hp ⟨vs,Q0h,i1.ext e⟩
  refine h3 _ _ _ _ _ (e1.trans e2) s2 (.ptr _ ?_) k
  rw [<- s1.len,List.getElem?_append_right (Nat.le_refl _),Nat.sub_self]; rfl⟩⟩
theorem ixN_len {xs : List D} {vs : List V} {K : PySem.W.Frag} {G : Wd} {i : Int} (r : Iss K G xs vs) (h : atI xs i = some d) : ∃ v,atI vs i = some v /\ Is K G d v := by
 unfold atI at h ⊢
 rw [<- r.length]
 cases q : ixN xs.length i with
 | none => rw [q] at h; cases h
 | some j =>
  rw [q] at h
  exact r.get h
theorem Q0w {xs : List D} {i : Int} (ha : EvP X ρ O a da) (hl : LV O da xs) (hb : EvP X ρ O b (.int i)) (hi : atI xs i = some d) (hs : PlainIx b := by intro _ _; rfl) : EvP X ρ O (.Subscript a b pos) d := λ G pins s σ H Q I ⟨h1,h2,h3⟩ =>
 Subscript_ (binT (ta := λ σ H Q => SA X.K G H O /\ EnvR X.K G σ ρ /\ ∀ v G' H',Ext G G' -> SA X.K G' H' O -> Is X.K G' da v -> Q v H') (ha G)
  (tb := λ σ H Q => ∃ G1,SA X.K G1 H O /\ EnvR X.K G1 σ ρ /\ ∀ v G' H',Ext G1 G' -> SA X.K G' H' O -> Is X.K G' (.int i) v -> Q v H') (λ pins s σ H Q I ⟨G1,q⟩ => hb G1 pins s σ H Q I q) I
  (R := λ x y H2 => ∃ G2,Ext G G2 /\ SA X.K G2 H2 O /\ Is X.K G2 da x /\ Is X.K G2 (.int i) y)
  ⟨h1,h2,λ v G1 H1 e1 s1 i1 => ⟨G1,s1,h2.ext e1,λ u G2 H2 e2 s2 i2 => ⟨G2,e1.trans e2,s2,i1.ext e2,i2⟩⟩⟩
  λ v u s2 x y H2 I2 rx ry ⟨G2,e2,s2',i1,i2⟩ => by
   obtain ⟨p,vs,rfl,q,r⟩ := hl.sq s2' i1
   cases i2
   obtain ⟨w,hw,iw⟩ := ixN_len r hi
   exact ix_list a b pins s2 σ H2 _ _ v u Q I2 rx ry ⟨p,vs,i,w,rfl,rfl,q,hw,h3 w G2 H2 e2 s2' iw⟩ (hs _ _))
theorem Q2Q {xs : List D} {i : Int} (ha : EvP X ρ O a (.tup xs)) (hb : EvP X ρ O b (.int i)) (hi : atI xs i = some d) (hs : PlainIx b := by intro _ _; rfl) : EvP X ρ O (.Subscript a b pos) d := λ G pins s σ H Q I ⟨h1,h2,h3⟩ =>
 Subscript_ (binT (ta := λ σ H Q => SA X.K G H O /\ EnvR X.K G σ ρ /\ ∀ v G' H',Ext G G' -> SA X.K G' H' O -> Is X.K G' (.tup xs) v -> Q v H') (ha G)
  (tb := λ σ H Q => ∃ G1,SA X.K G1 H O /\ EnvR X.K G1 σ ρ /\ ∀ v G' H',Ext G1 G' -> SA X.K G' H' O -> Is X.K G' (.int i) v -> Q v H') (λ pins s σ H Q I ⟨G1,q⟩ => hb G1 pins s σ H Q I q) I
  (R := λ x y H2 => ∃ G2,Ext G G2 /\ SA X.K G2 H2 O /\ Is X.K G2 (.tup xs) x /\ Is X.K G2 (.int i) y)
  ⟨h1,h2,λ v G1 H1 e1 s1 i1 => ⟨G1,s1,h2.ext e1,λ u G2 H2 e2 s2 i2 => ⟨G2,e1.trans e2,s2,i1.ext e2,i2⟩⟩⟩
  λ v u s2 x y H2 I2 rx ry ⟨G2,e2,s2',i1,i2⟩ => by
   obtain ⟨p,vs,rfl,q,r⟩ := tup_sq s2' i1
   cases i2
   obtain ⟨w,hw,iw⟩ := ixN_len r hi
   exact ix_tup a b pins s2 σ H2 _ _ v u Q I2 rx ry ⟨p,vs,i,w,rfl,rfl,q,hw,h3 w G2 H2 e2 s2' iw⟩ (hs _ _))
def sliceD (xs : List D) (lo hi : Option Int) : List D := (xs.drop (HT.sIx xs.length 0 lo)).take (HT.sIx xs.length xs.length hi - HT.sIx xs.length 0 lo)
theorem cut_is {xs : List D} {vs : List V} {K : PySem.W.Frag} {G : Wd} {lo hi : Option Int} (r : Iss K G xs vs) : Iss K G (sliceD xs lo hi) (cutV vs lo hi) := by
 unfold sliceD cutV
 rw [<- r.length]
 exact (r.drop _).take _
def EvO (X : Cx) (ρ : Rho) (O : Sto) (e : Option Expr) (i : Option Int) : Prop :=
 ∀ G,PO X e (λ σ H Q => SA X.K G H O /\ EnvR X.K G σ ρ /\ ∀ G' H',Ext G G' -> SA X.K G' H' O -> Q i H')
theorem _root_.L2.PO.imp {X : Cx} {e : Option Expr} {t u : TO} (h : PO X e t) (k : ∀ σ H Q,u σ H Q -> t σ H Q) : PO X e u := λ pins s σ H Q I q => h pins s σ H Q I (k _ _ _ q)
theorem eo_none : EvO X ρ O none none := λ G => PO.imp po_none λ σ H Q ⟨h1,h2,h3⟩ => h3 G H (Ext.refl _) h1
theorem eo_some {i : Int} (h : EvP X ρ O e (.int i)) : EvO X ρ O (some e) (some i) := λ G => PO.imp (po_some (h G)) λ σ H Q ⟨h1,h2,h3⟩ => ⟨h1,h2,λ v G1 H1 e1 s1 i1 => by cases i1; exact ⟨i,rfl,h3 G1 H1 e1 s1⟩⟩
theorem ev_slL {xs : List D} {lo hi : Option Expr} {l u : Option Int} {p2 : Pos} (ha : EvP X ρ O a da) (hx : LV O da xs) (hl : EvO X ρ O lo l) (hh : EvO X ρ O hi u) : EvP X ρ O (.Subscript a (.Slice lo hi none p2) pos) (.lst (sliceD xs l u)) := λ G =>
 PE.imp (pe_slice sl_list (ha G) (tl := λ σ H Q => ∃ G1,SA X.K G1 H O /\ EnvR X.K G1 σ ρ /\ ∀ G' H',Ext G1 G' -> SA X.K G' H' O -> Q l H') (λ pins s σ H Q I ⟨G1,q⟩ => hl G1 pins s σ H Q I q)
  (th := λ σ H Q => ∃ G1,SA X.K G1 H O /\ EnvR X.K G1 σ ρ /\ ∀ G' H',Ext G1 G' -> SA X.K G' H' O -> Q u H') (λ pins s σ H Q I ⟨G1,q⟩ => hh G1 pins s σ H Q I q)) λ σ H Q ⟨h1,h2,h3⟩ =>
  ⟨h1,h2,λ v G1 H1 e1 s1 i1 => ⟨G1,s1,h2.ext e1,λ G2 H2 e2 s2 => ⟨G2,s2,(h2.ext e1).ext e2,λ G3 H3 e3 s3 => by
   obtain ⟨q,vs,rfl,q1,r⟩ := hx.sq s3 (i1.ext (e2.trans e3))
   refine ⟨q,vs,rfl,q1,λ z hz => ?_⟩
   obtain ⟨e4,s4⟩ := s3.laid (o := .lst (cutV vs l u)) hz
   exact h3 _ _ _ (((e1.trans e2).trans e3).trans e4) s4 (.lst Q0h ((cut_is r).ext e4))⟩⟩⟩
theorem o_cat {xs ys : List D} (hz : xs.length + ys.length <= sizeLine) : Op2 X O (binaryOp .Add) (.lst xs) (.lst ys) (.lst (xs ++ ys)) :=
 .of op_cat λ G v u H Q s h1 h2 k => by
  cases h1 with
  | lst g1 r1 =>
   cases h2 with
   | lst g2 r2 =>
    refine ⟨_,_,_,_,rfl,rfl,s.sub _ _ g1,s.sub _ _ g2,by rw [<- r1.length,<- r2.length]; exact hz,λ p hp => ?_⟩
    obtain ⟨e4,s4⟩ := s.laid (o := .lst _) hp
    exact k _ _ _ e4 s4 (.lst Q0h ((r1.append r2).ext e4))
def Q2p (X : Cx) (O : Sto) (f : Value) (ds : List D) (d : D) : Prop :=
 ∀ G,CallR X f (λ vs H Q => SA X.K G H O /\ Iss X.K G ds vs /\ ∀ w G' H',Ext G G' -> SA X.K G' H' O -> Is X.K G' d w -> Q w H')
theorem Q2p.of {f : Value} {r : List V -> Hp -> VK -> Prop} (ho : CallR X f r)
  (k : ∀ G vs H Q,SA X.K G H O -> Iss X.K G ds vs -> (∀ w G' H',Ext G G' -> SA X.K G' H' O -> Is X.K G' d w -> Q w H') -> r vs H Q) : Q2p X O f ds d :=
 λ G pins s σ H xs us Q I r ⟨h1,h2,h3⟩ => ho pins s σ H xs us Q I r (k G _ _ _ h1 h2 h3)
theorem Q0K {id : String} (hm : X.mg x = none) (ha : EvPs X ρ O (e :: es) ds) (hc : Q2p X O (.builtin id) ds d) (hg : Gl X x := by rfl) (hv : bootBuiltins x = some (.builtin id) := by first | rfl | decide +kernel) (hn : x ≠ "__name__" := by decide) (hdb : (x == ("__debug__" : Str)) = false := by decide)
  (he : starEach (e :: es) X.env = (false,eval e X.env) :: starEach es X.env := by rfl) (hpl : (backTo pos (starEach es X.env)).any (·.1) = false := by rfl) : EvP X ρ O (.Call (.Name x p) (e :: es) [] pos) d := λ G =>
 PE.imp (pe_callB (r := λ vs H Q => ∃ G1,SA X.K G1 H O /\ Iss X.K G1 ds vs /\ ∀ w G' H',Ext G1 G' -> SA X.K G' H' O -> Is X.K G' d w -> Q w H') (λ pins s σ H xs us Q I r ⟨G1,q⟩ => hc G1 pins s σ H xs us Q I r q) hg hm hv (ha G) hn hdb he hpl)
  λ σ H Q ⟨h1,h2,h3⟩ => ⟨h1,h2,λ vs G1 H1 e1 s1 i1 => ⟨G1,s1,i1,λ w G2 H2 e2 s2 i2 => h3 w G2 H2 (e1.trans e2) s2 i2⟩⟩
theorem Q3r {T : String} (hm : X.mg x = none) (ha : EvPs X ρ O (e :: es) ds) (hc : Q2p X O (.type T) ds d) (hg : Gl X x := by rfl) (hv : bootBuiltins x = some (.type T) := by first | rfl | decide +kernel) (hn : x ≠ "__name__" := by decide) (hdb : (x == ("__debug__" : Str)) = false := by decide)
  (he : starEach (e :: es) X.env = (false,eval e X.env) :: starEach es X.env := by rfl) (hpl : (backTo pos (starEach es X.env)).any (·.1) = false := by rfl) : EvP X ρ O (.Call (.Name x p) (e :: es) [] pos) d := λ G =>
 PE.imp (pe_callTy (r := λ vs H Q => ∃ G1,SA X.K G1 H O /\ Iss X.K G1 ds vs /\ ∀ w G' H',Ext G1 G' -> SA X.K G' H' O -> Is X.K G' d w -> Q w H') (λ pins s σ H xs us Q I r ⟨G1,q⟩ => hc G1 pins s σ H xs us Q I r q) hg hm hv (ha G) hn hdb he hpl)
  λ σ H Q ⟨h1,h2,h3⟩ => ⟨h1,h2,λ vs G1 H1 e1 s1 i1 => ⟨G1,s1,i1,λ w G2 H2 e2 s2 i2 => h3 w G2 H2 (e1.trans e2) s2 i2⟩⟩
theorem c_len {xs : List D} (h : LT O d xs) : Q2p X O (.builtin "len") [d] (.int xs.length) := .of call_len_seq λ G vs H Q s i k => by
 cases i with
 | cons i r =>
  cases r
  rcases h with h | rfl
  ·obtain ⟨p,vs,rfl,q,r⟩ := h.sq s i
   exact ⟨p,vs,rfl,.inl q,by rw [<- r.length]; exact k _ G H (Ext.refl _) s (.int _)⟩
  ·obtain ⟨p,vs,rfl,q,r⟩ := tup_sq s i
   exact ⟨p,vs,rfl,.inr q,by rw [<- r.length]; exact k _ G H (Ext.refl _) s (.int _)⟩
theorem c_tuple {xs : List D} (h : LT O d xs) : Q2p X O (.type "tuple") [d] (.tup xs) := .of call_tuple_of λ G vs H Q s i k => by
 cases i with
 | cons i r =>
  cases r
  rcases h with h | rfl
  ·obtain ⟨p,vs,rfl,q,r⟩ := h.sq s i
   refine ⟨p,vs,rfl,.inl ⟨q,λ l hl => ?_⟩⟩
   obtain ⟨e4,s4⟩ := s.laid (o := .tup vs) hl
   exact k _ _ _ e4 s4 (.tup (SqT.of Q0h) (r.ext e4))
  ·obtain ⟨p,vs,rfl,q,r⟩ := tup_sq s i
   exact ⟨p,vs,rfl,.inr ⟨q,k _ G H (Ext.refl _) s i⟩⟩
theorem c_list {xs : List D} (h : LT O d xs) : Q2p X O (.type "list") [d] (.lst xs) := .of call_list_of λ G vs H Q s i k => by
 cases i with
 | cons i r =>
  cases r
  rcases h with h | rfl
  ·obtain ⟨p,vs,rfl,q,r⟩ := h.sq s i
   refine ⟨p,vs,rfl,.inl q,λ l hl => ?_⟩
   obtain ⟨e4,s4⟩ := s.laid (o := .lst vs) hl
   exact k _ _ _ e4 s4 (.lst Q0h (r.ext e4))
  ·obtain ⟨p,vs,rfl,q,r⟩ := tup_sq s i
   refine ⟨p,vs,rfl,.inr q,λ l hl => ?_⟩
   obtain ⟨e4,s4⟩ := s.laid (o := .lst vs) hl
   exact k _ _ _ e4 s4 (.lst Q0h (r.ext e4))
theorem c_abs {i : Int} : Q2p X O (.builtin "abs") [.int i] (.int (if i < 0 then -i else i)) := .of call_abs λ G vs H Q s h k => by
 cases h with | cons h r => cases r; cases h; exact ⟨i,rfl,k _ G H (Ext.refl _) s (.int _)⟩
theorem c_intB {b : Bool} : Q2p X O (.type "int") [.bl b] (.int (if b then 1 else 0)) := .of call_int1 λ G vs H Q s h k => by
 cases h with | cons h r => cases r; cases h; exact .inr ⟨b,rfl,k _ G H (Ext.refl _) s (.int _)⟩
abbrev SpD := List D -> Sto -> (D -> Sto -> Prop) -> Prop
def toSp (K : PySem.W.Frag) (sp : SpD) : Sp := λ vs H Q _ => ∃ G O ds R,SA K G H O /\ Iss K G ds vs /\ sp ds O R /\ ∀ v d O' G' H',Ext G G' -> SA K G' H' O' -> Is K G' d v -> R d O' -> Q v H'
structure Q0t (P : Program) (w : World) (K : PySem.W.Frag) (mg : Str -> Option Value) (base : Heap) (k : Nat) (x : Str) (sp : SpD) : Prop where
 ex : ∃ f fd ps,FnOk P w K mg base CX0 k f fd ps (toSp K sp) /\ mg x = some (.ref f) /\ PySem.W.keepIn K (.ref f) = true /\ Q0F K fd ps []
theorem ev_callA {k : Nat} {sp : SpD} (F : Q0t X.prog X.w X.K X.mg X.base k x sp) (hr : Room k X.A) (ha : EvAs X ρ O (e :: es) λ ds O1 => sp ds O1 R) (hg : Gl X x := by rfl) (hdb : (x == ("__debug__" : Str)) = false := by decide)
  (he : starEach (e :: es) X.env = (false,eval e X.env) :: starEach es X.env := by rfl) (hpl : (backTo pos (starEach es X.env)).any (·.1) = false := by rfl) : Ev X ρ O (.Call (.Name x p) (e :: es) [] pos) R := λ G => by
 obtain ⟨f,fd,ps,h1,h2,h3,h4⟩ := F.ex
 refine PE.imp (pe_call h1 hr hg h2 h3 h4 .nil pass0 (ha G) hdb he hpl) λ σ H Q ⟨q1,q2,q3⟩ => ⟨q1,q2,λ vs ds O1 G1 H1 e1 s1 i1 r1 => ?_⟩
 show toSp X.K sp (vs ++ []) H1 Q E0
 rw [List.append_nil]
 exact ⟨G1,O1,ds,R,s1,i1,r1,λ v d O' G' H' e2 s2 i2 r2 => q3 v d O' G' H' (e1.trans e2) s2 i2 r2⟩
theorem Q1Q {k : Nat} {sp : SpD} (F : Q0t X.prog X.w X.K X.mg X.base k x sp) (hr : Room k X.A) (ha : EvPs X ρ O (e :: es) ds) (hs : sp ds O R) (hg : Gl X x := by rfl) (hdb : (x == ("__debug__" : Str)) = false := by decide)
  (he : starEach (e :: es) X.env = (false,eval e X.env) :: starEach es X.env := by rfl) (hpl : (backTo pos (starEach es X.env)).any (·.1) = false := by rfl) : Ev X ρ O (.Call (.Name x p) (e :: es) [] pos) R :=
 ev_callA F hr (ha.as hs) hg hdb he hpl
def Q0x (f : List D -> D -> Prop) : SpD := λ ds O R => ∃ d,f ds d /\ R d O
theorem Q0p {k : Nat} {f : List D -> D -> Prop} (F : Q0t X.prog X.w X.K X.mg X.base k x (Q0x f)) (hr : Room k X.A) (ha : EvPs X ρ O (e :: es) ds) (hs : f ds d) (hg : Gl X x := by rfl) (hdb : (x == ("__debug__" : Str)) = false := by decide)
  (he : starEach (e :: es) X.env = (false,eval e X.env) :: starEach es X.env := by rfl) (hpl : (backTo pos (starEach es X.env)).any (·.1) = false := by rfl) : EvP X ρ O (.Call (.Name x p) (e :: es) [] pos) d :=
 (Q1Q F hr ha ⟨d,hs,rfl,rfl⟩ hg hdb he hpl).evp
end
structure Post where
 nx : Rho -> Sto -> Prop
 rt : D -> Sto -> Prop
 bk : Rho -> Sto -> Prop := λ _ _ => False
 ct : Rho -> Sto -> Prop := λ _ _ => False
def Goes (K : PySem.W.Frag) (G : Wd) (N : Rho -> Sto -> Prop) (n : L2.St -> Hp -> Prop) : Prop := ∀ σ ρ O G' H,Ext G G' -> SA K G' H O -> EnvR K G' σ ρ -> N ρ O -> n σ H
structure Q2o (K : PySem.W.Frag) (G : Wd) (P : Post) (E : Ends) : Prop where
 nx : Goes K G P.nx E.nx
 rt : ∀ v d O G' H,Ext G G' -> SA K G' H O -> Is K G' d v -> P.rt d O -> E.rt v H
 bk : Goes K G P.bk E.bk
 ct : Goes K G P.ct E.ct
theorem Goes.ext {K : PySem.W.Frag} {G G' : Wd} {N : Rho -> Sto -> Prop} {n : L2.St -> Hp -> Prop} (h : Goes K G N n) (e : Ext G G') : Goes K G' N n := λ σ ρ O G2 H e2 => h σ ρ O G2 H (e.trans e2)
theorem Q2o.ext {K : PySem.W.Frag} {G G' : Wd} {P : Post} {E : Ends} (h : Q2o K G P E) (e : Ext G G') : Q2o K G' P E := ⟨h.nx.ext e,λ v d O G2 H e2 => h.rt v d O G2 H (e.trans e2),h.bk.ext e,h.ct.ext e⟩
def Ex (X : Cx) (ρ : Rho) (O : Sto) (st : Stmt) (P : Post) : Prop := ∀ G,PS X st (λ E σ H => SA X.K G H O /\ EnvR X.K G σ ρ /\ Q2o X.K G P E)
def Exs (X : Cx) (ρ : Rho) (O : Sto) (st : List Stmt) (P : Post) : Prop := ∀ G,PSs X st (λ E σ H => SA X.K G H O /\ EnvR X.K G σ ρ /\ Q2o X.K G P E)
section
variable {X : Cx} {ρ : Rho} {O : Sto} {e a b c : Expr} {es : List Expr} {d da db : D} {ds : List D} {R : D -> Sto -> Prop} {pos p : Pos} {x : Str} {st : Stmt} {rest body orelse : List Stmt} {P : Post}
theorem Q0m (h : P.nx ρ O) : Exs X ρ O [] P := λ G => PSs.imp pss_nil λ E σ H ⟨h1,h2,h3⟩ => h3.nx σ ρ O G H (Ext.refl _) h1 h2 h
theorem Q0c (h : Ex X ρ O st { P with nx := λ ρ' O' => Exs X ρ' O' rest P }) : Exs X ρ O (st :: rest) P := λ G =>
 PSs.imp (pss_cons (h G) (u := λ E σ H => ∃ G1 ρ1 O1,SA X.K G1 H O1 /\ EnvR X.K G1 σ ρ1 /\ Exs X ρ1 O1 rest P /\ Q2o X.K G1 P E) (λ pins s σ H E I ⟨G1,ρ1,O1,q1,q2,q3,q4⟩ => q3 G1 pins s σ H E I ⟨q1,q2,q4⟩)) λ E σ H ⟨h1,h2,h3⟩ =>
  ⟨h1,h2,⟨λ σ1 ρ1 O1 G1 H1 e1 s1 n1 q1 => ⟨G1,ρ1,O1,s1,n1,q1,h3.ext e1⟩,h3.rt,h3.bk,h3.ct⟩⟩
theorem xs_seq (M : Rho -> Sto -> Prop) (h : Ex X ρ O st { P with nx := M }) (k : ∀ ρ' O',M ρ' O' -> Exs X ρ' O' rest P) : Exs X ρ O (st :: rest) P := Q0c λ G =>
 PS.imp (h G) λ E σ H ⟨h1,h2,h3⟩ => ⟨h1,h2,⟨λ σ1 ρ1 O1 G1 H1 e1 s1 n1 q1 => h3.nx σ1 ρ1 O1 G1 H1 e1 s1 n1 (k _ _ q1),h3.rt,h3.bk,h3.ct⟩⟩
theorem Q0N (h : Ev X ρ O e P.rt) : Ex X ρ O (.Return (some e) pos) P := λ G => PS.imp (ps_ret (h G)) λ E σ H ⟨h1,h2,h3⟩ => ⟨h1,h2,λ v d O' G' H' e1 s1 i1 r1 => h3.rt v d O' G' H' e1 s1 i1 r1⟩
theorem x_expr (h : Ev X ρ O e λ _ O' => P.nx ρ O') (hs : swapsWith e none pos.line X.env = pure false := by rfl) : Ex X ρ O (.Expr e pos) P := λ G => PS.imp (Q3z (h G) hs) λ E σ H ⟨h1,h2,h3⟩ =>
 ⟨h1,h2,λ v d O' G' H' e1 s1 i1 r1 => h3.nx σ ρ O' G' H' e1 s1 (h2.ext e1) r1⟩
theorem x_if {k : Bool} (hc : EvT X ρ O c k) (h1 : k = true -> Exs X ρ O body P) (h2 : k = false -> Exs X ρ O orelse P) : Ex X ρ O (.If c body orelse pos) P := λ G =>
 PS.imp (ps_if (hc G) (t := λ E σ H => ∃ G1,k = true /\ SA X.K G1 H O /\ EnvR X.K G1 σ ρ /\ Q2o X.K G1 P E) (λ pins s σ H E I ⟨G1,z,q⟩ => h1 z G1 pins s σ H E I q)
  (u := λ E σ H => ∃ G1,k = false /\ SA X.K G1 H O /\ EnvR X.K G1 σ ρ /\ Q2o X.K G1 P E) (λ pins s σ H E I ⟨G1,z,q⟩ => h2 z G1 pins s σ H E I q)) λ E σ H ⟨q1,q2,q3⟩ =>
  ⟨q1,q2,λ G' H' e1 s1 => by
   cases k with
   | true => exact iteT ⟨G',rfl,s1,q2.ext e1,q3.ext e1⟩
   | false => exact iteF ⟨G',rfl,s1,q2.ext e1,q3.ext e1⟩⟩
def Tg (X : Cx) (tg : Expr) (d : D) (ρ ρ' : Rho) : Prop := ∀ G,PG X tg (λ v σ H Q => Is X.K G d v /\ Same G.g H /\ EnvR X.K G σ ρ /\ ∀ σ',EnvR X.K G σ' ρ' -> Q σ' H)
def Tgs (X : Cx) (tg : List Expr) (ds : List D) (ρ ρ' : Rho) : Prop := ∀ G,PGs X tg (λ vs σ H Q => Iss X.K G ds vs /\ Same G.g H /\ EnvR X.K G σ ρ /\ ∀ σ',EnvR X.K G σ' ρ' -> Q σ' H)
theorem Q0A (i : Nat) (hN : X.N.Nodup) (hi : X.N[i]? = some x := by rfl) (hx : Loc X.env.scope x := by first | exact Or.inl rfl | exact Or.inr rfl) (hf : X.fn x = true \/ X.env.scope.names.lookup x = some .local := by first | exact .inl rfl | exact .inr rfl | assumption) : Tg X (.Name x pos) d ρ (ρ.set i (some d)) := λ G pins s σ H v u Q I r ⟨h1,h2,h3,h4⟩ =>
 pg_name hN hi hx hf pins s σ H v u Q I r (h4 _ (h3.set i h1))
theorem tgs_nil : Tgs X [] [] ρ ρ := λ G pins s σ H vs us Q I r ⟨h1,h2,h3,h4⟩ => pgs_nil pins s σ H vs us Q I r ⟨by cases h1; rfl,h4 _ h3⟩
theorem Q1A {ρ1 ρ2 : Rho} (h : Tg X e d ρ ρ1) (k : Tgs X es ds ρ1 ρ2) (hs : (assignEach (e :: es) X.env).map (·.2) = assign e X.env :: (assignEach es X.env).map (·.2) := by rfl) : Tgs X (e :: es) (d :: ds) ρ ρ2 := λ G pins s σ H vs us Q I r ⟨h1,h2,h3,h4⟩ => by
 cases h1 with
 | cons i1 i2 =>
  exact pgs_cons (h G) (k G) hs pins s σ H _ us Q I r ⟨_,_,rfl,i1,h2,h3,λ σ' n' => ⟨i2,h2,n',h4⟩⟩
theorem tg_tup {ρ1 : Rho} {k : Nat} (h : Tgs X es ds ρ ρ1) (hc : X.calm = true := by rfl) (hn : (assignEach es X.env).length = ds.length := by rfl) (hst : (assignEach es X.env).findIdx? (·.1) = none := by rfl) : Tg X (.Tuple es k pos) (.tup ds) ρ ρ1 := λ G pins s σ H v u Q I r ⟨h1,h2,h3,h4⟩ => by
 cases h1 with
 | tup q1 q2 =>
  exact pg_tup hc (h G) hn hst pins s σ H _ u Q I r ⟨_,_,rfl,Q1c h2 q1,by rw [<- q2.length],q2,h2,h3,h4⟩
theorem Q0H (i : Nat) (he : Ev X ρ O e λ d O' => P.nx (ρ.set i (some d)) O') (hN : X.N.Nodup) (hi : X.N[i]? = some x := by rfl) (hx : Loc X.env.scope x := by first | exact Or.inl rfl | exact Or.inr rfl) {p : Pos}
  (hs : swapsWith e (some (.Name x p)) pos.line X.env = pure false := by rfl) (hf : X.fn x = true \/ X.env.scope.names.lookup x = some .local := by first | exact .inl rfl | exact .inr rfl | assumption) : Ex X ρ O (.Assign [.Name x p] e pos) P := λ G =>
 PS.imp (ps_set hN hi hx (he G) hs hf) λ E σ H ⟨h1,h2,h3⟩ => ⟨h1,h2,λ v d O' G' H' e1 s1 i1 r1 => h3.nx _ _ O' G' H' e1 s1 ((h2.ext e1).set i i1) r1⟩
theorem Q2X {q : Nat} {xs : List D} {apos cpos : Pos} (ho : EvP X ρ O a (.ptr q)) (hq : O[q]? = some (some (.lst xs))) (he : EvP X ρ O e d) (hz : xs.length < sizeLine) (h : P.nx ρ (O.set q (some (.lst (xs ++ [d])))))
  (hbase : attributeBase a ("append" : Str) X.env (eval a X.env) = eval a X.env := by rfl) (hline : (apos.endLine == cpos.line) = true := by rfl) (hst : starEach [e] X.env = [(false,eval e X.env)] := by rfl)
  (hsw : swapsWith (.Call (.Attribute a ("append" : Str) apos) [e] [] cpos) none pos.line X.env = pure false := by rfl) : Ex X ρ O (.Expr (.Call (.Attribute a ("append" : Str) apos) [e] [] cpos) pos) P := λ G =>
 PS.imp (Q3z (pe_bm PySem.F.plainAttrs_list PySem.F.slot_list_append PySem.F.type_list_append mt_append (ho G)
  (Q2f (te := λ σ H Q => ∃ G1,SA X.K G1 H O /\ EnvR X.K G1 σ ρ /\ ∀ v G' H',Ext G1 G' -> SA X.K G' H' O -> Is X.K G' d v -> Q v H') (λ pins s σ H Q I ⟨G1,q⟩ => he G1 pins s σ H Q I q) pa_nil hst) hbase
  (by rw [hst]; rfl) hline hst (by rfl)) hsw) λ E σ H ⟨q1,q2,q3⟩ => ⟨q1,q2,λ v G1 H1 e1 s1 i1 => by
   cases i1 with
   | ptr _ ha =>
   obtain ⟨a1,g0,g1,vs,g2,g3⟩ := s1.mt q _ hq
   obtain rfl := Option.some.inj (ha.symm.trans g0)
   refine ⟨.inl ⟨rfl,vs,SqL.of g2⟩,G1,s1,q2.ext e1,λ w G2 H2 e2 s2 i2 => ?_⟩
   obtain ⟨a2,g7,g4,us,g5,g6⟩ := s2.mt q _ hq
   obtain rfl := Option.some.inj ((e2.at g0).symm.trans g7)
   refine ⟨_,us,w,rfl,rfl,g5,by rw [<- g6.length]; exact hz,?_⟩
   exact q3.nx σ ρ _ G2 _ (e1.trans e2) (s2.put (m' := .lst (xs ++ [d])) hq g7 ⟨_,Q0h,g6.append (.cons i2 .nil)⟩) (q2.ext (e1.trans e2)) h⟩
structure Q2c (K : PySem.W.Frag) (G : Wd) (J : It) (xs : List D) : Prop where
 go : ∀ i H,Same G.g H -> i < xs.length -> J.go i H
 stop : ∀ i H,Same G.g H -> xs.length <= i -> J.stop i H
 yld : ∀ i v H H' G2 O2,Ext G G2 -> SA K G2 H O2 -> J.yld i H v H' -> i < xs.length -> ∃ x G3,xs[i]? = some x /\ Ext G2 G3 /\ SA K G3 H' O2 /\ Is K G3 x v
def EvI (X : Cx) (ρ : Rho) (O : Sto) (tg iter : Expr) (xs : List D) : Prop :=
 ∀ G,PI X tg iter (λ σ H R => SA X.K G H O /\ EnvR X.K G σ ρ /\ ∀ J G' H',Ext G G' -> SA X.K G' H' O -> Q2c X.K G' J xs -> R J H')
theorem _root_.L2.PI.imp {X : Cx} {tg iter : Expr} {t u : TI} (h : PI X tg iter t) (k : ∀ σ H R,u σ H R -> t σ H R) : PI X tg iter u := λ pins s σ H R I q => h pins s σ H R I (k _ _ _ q)
theorem Q3D {K : PySem.W.Frag} {G : Wd} {q : Addr} {vs : List V} {xs : List D} (h1 : SqL K G.g q vs) (r : Iss K G xs vs) : Q2c K G (Itl K q) xs where
 go := λ i H e hi => by
  obtain ⟨v,hv,_⟩ := r.get (i := i) (d := xs[i]) (by simp [hi])
  exact ⟨vs,v,e.seq h1,hv⟩
 stop := λ i H e hi => ⟨vs,e.seq h1,by rw [<- r.length]; exact hi⟩
 yld := λ i v H H' G2 O2 e s y hi => by
  obtain ⟨rfl,y⟩ := y
  obtain ⟨x,hx,ix⟩ := r.getV (y vs ((e.g.trans s.sub).seq h1))
  exact ⟨x,G2,hx,Ext.refl _,s,ix.ext e⟩
theorem itt_yields {K : PySem.W.Frag} {G : Wd} {q : Addr} {vs : List V} {xs : List D} (h1 : SqT K G.g q vs) (r : Iss K G xs vs) : Q2c K G (Itt K q) xs where
 go := λ i H e hi => by
  obtain ⟨v,hv,_⟩ := r.get (i := i) (d := xs[i]) (by simp [hi])
  exact ⟨vs,v,Q1c e h1,hv⟩
 stop := λ i H e hi => ⟨vs,Q1c e h1,by rw [<- r.length]; exact hi⟩
 yld := λ i v H H' G2 O2 e s y hi => by
  obtain ⟨rfl,y⟩ := y
  obtain ⟨x,hx,ix⟩ := r.getV (y vs (Q1c (e.g.trans s.sub) h1))
  exact ⟨x,G2,hx,Ext.refl _,s,ix.ext e⟩
theorem ei_lst {tg : Expr} {xs : List D} (h : EvP X ρ O e (.lst xs)) : EvI X ρ O tg e xs := λ G => PI.imp (pi_list (h G)) λ σ H R ⟨h1,h2,h3⟩ => ⟨h1,h2,λ v G1 H1 e1 s1 i1 => by
 cases i1 with
 | lst q r => exact ⟨_,rfl,⟨_,SqL.of (s1.sub _ _ q)⟩,h3 _ G1 H1 e1 s1 (Q3D (SqL.of q) r)⟩⟩
theorem ei_scr {tg : Expr} {xs : List D} (h : EvP X ρ O e (.scr xs)) : EvI X ρ O tg e xs := λ G => PI.imp (pi_list (h G)) λ σ H R ⟨h1,h2,h3⟩ => ⟨h1,h2,λ v G1 H1 e1 s1 i1 => by
 cases i1 with
 | scr q r => exact ⟨_,rfl,⟨_,s1.sub.seq q⟩,h3 _ G1 H1 e1 s1 (Q3D q r)⟩⟩
theorem ei_tup {tg : Expr} {xs : List D} (h : EvP X ρ O e (.tup xs)) : EvI X ρ O tg e xs := λ G => PI.imp (pi_tup (h G)) λ σ H R ⟨h1,h2,h3⟩ => ⟨h1,h2,λ v G1 H1 e1 s1 i1 => by
 cases i1 with
 | tup q r => exact ⟨_,rfl,⟨_,Q1c s1.sub q⟩,h3 _ G1 H1 e1 s1 (itt_yields q r)⟩⟩
def rangeD (lo : Int) (n : Nat) : List D := (List.range n).map λ i => .int (lo + (i : Nat))
theorem Q1h {lo : Int} {n : Nat} : (rangeD lo n).length = n := by simp [rangeD]
theorem rangeD_get {lo : Int} {n i : Nat} (h : i < n) : (rangeD lo n)[i]? = some (.int (lo + (i : Nat))) := by simp [rangeD,h]
theorem Q3i {lo : Int} {n i : Nat} {x : D} (h : (rangeD lo n)[i]? = some x) : i < n /\ x = .int (lo + (i : Nat)) := by
 have hi : i < n := by
  have := (List.getElem?_eq_some_iff.mp h).1
  rw [Q1h] at this
  exact this
 rw [rangeD_get hi] at h
 exact ⟨hi,(Option.some.inj h).symm⟩
theorem itr_yields {K : PySem.W.Frag} {G : Wd} {lo : Int} {n : Nat} : Q2c K G (Itr lo n) (rangeD lo n) where
 go := λ i H _ hi => by rw [Q1h] at hi; exact hi
 stop := λ i H _ hi => by rw [Q1h] at hi; exact hi
 yld := λ i v H H' G2 O2 e s y hi => by
  obtain ⟨rfl,rfl⟩ := y
  rw [Q1h] at hi
  exact ⟨_,G2,rangeD_get hi,Ext.refl _,s,.int _⟩
theorem Q2x {tg : Expr} {n : Int} (h : EvP X ρ O e (.int n)) (hm : X.mg "range" = none) (h1 : -(2 ^ 62) <= n) (h2 : n < 2 ^ 62) (hg : Gl X "range" := by rfl) (hs : starEach [e] X.env = [(false,eval e X.env)] := by rfl) : EvI X ρ O tg (.Call (.Name "range" p) [e] [] pos) (rangeD 0 n.toNat) := λ G =>
 PI.imp (pi_range1 hg hm (Q0a h Q0e hs G) hs) λ σ H R ⟨q1,q2,q3⟩ => ⟨q1,q2,λ vs G1 H1 e1 s1 i1 => by
  cases i1 with | cons i r => cases r; cases i; exact ⟨n,rfl,h1,h2,q3 _ G1 H1 e1 s1 itr_yields⟩⟩
theorem x_for {tg iter : Expr} {body : List Stmt} {xs : List D} (hi : EvI X ρ O tg iter xs) (inv : Nat -> Rho -> Sto -> Prop) (h0 : inv 0 ρ O)
  (hs : ∀ i x ρ' O',xs[i]? = some x -> inv i ρ' O' -> ∃ ρ1,Tg X tg x ρ' ρ1 /\ Exs X ρ1 O' body { P with nx := inv (i + 1),ct := inv (i + 1),bk := P.nx }) (hd : ∀ ρ' O',inv xs.length ρ' O' -> P.nx ρ' O')
  (hp : PassesOwn (model X.prog X.w) X.A X.env X.xe := by exact PassesOwn.never) (hc : X.calm = true := by rfl) (hf : ∀ x,foldedSetIterable iter X.env x = pure x := by intro _; rfl) : Ex X ρ O (.For tg iter body [] pos) P := λ G =>
 PS.imp (ps_for hp hc (hi G) (g := λ v σ H Q => ∃ G1 ρ1 ρ2 x,Tg X tg x ρ1 ρ2 /\ Is X.K G1 x v /\ Same G1.g H /\ EnvR X.K G1 σ ρ1 /\ ∀ σ',EnvR X.K G1 σ' ρ2 -> Q σ' H) (λ pins s σ H v u Q I r ⟨G1,ρ1,ρ2,x,q,q'⟩ => q G1 pins s σ H v u Q I r q')
  (tb := λ E σ H => ∃ G1 ρ1 O1 P1,SA X.K G1 H O1 /\ EnvR X.K G1 σ ρ1 /\ Exs X ρ1 O1 body P1 /\ Q2o X.K G1 P1 E) (λ pins s σ H E I ⟨G1,ρ1,O1,P1,q1,q2,q3,q4⟩ => q3 G1 pins s σ H E I ⟨q1,q2,q4⟩) hf) λ E σ H ⟨q1,q2,q3⟩ => by
  refine ⟨q1,q2,λ J G1 H1 e1 s1 Y => ?_⟩
  refine ⟨λ i m σ H => ∃ G2 ρ2 O2,Ext G1 G2 /\ SA X.K G2 H O2 /\ EnvR X.K G2 σ ρ2 /\ inv i ρ2 O2 /\ i <= xs.length /\ m = xs.length - i,⟨_,G1,ρ,O,Ext.refl _,s1,q2.ext e1,h0,Nat.zero_le _,rfl⟩,?_⟩
  rintro i m σ2 H2 ⟨G2,ρ2,O2,e2,s2,n2,v2,l2,rfl⟩
  by_cases hlt : i < xs.length
  ·refine .inr ⟨Y.go i H2 (e2.g.trans s2.sub) hlt,λ σ' H' => ∃ G3 ρ3 O3,Ext G1 G3 /\ SA X.K G3 H' O3 /\ EnvR X.K G3 σ' ρ3 /\ inv (i + 1) ρ3 O3,λ σ' H' ⟨G3,ρ3,O3,e3,s3,n3,v3⟩ => ⟨xs.length - (i + 1),by omega,G3,ρ3,O3,e3,s3,n3,v3,hlt,rfl⟩,λ v H3 y => ?_⟩
   obtain ⟨x,G3,hx,e3,s3,i3⟩ := Y.yld i v H2 H3 G2 O2 e2 s2 y hlt
   obtain ⟨ρ3,t3,b3⟩ := hs i x ρ2 O2 hx v2
   have e13 : Ext G1 G3 := e2.trans e3
   refine ⟨G3,ρ2,ρ3,x,t3,i3,s3.sub,n2.ext e3,λ σ' n' => ⟨G3,ρ3,O2,_,s3,n',b3,⟨λ σ4 ρ4 O4 G4 H4 e4 s4 n4 q => ⟨G4,ρ4,O4,e13.trans e4,s4,n4,q⟩,λ v d O4 G4 H4 e4 s4 i4 r => q3.rt v d O4 G4 H4 (e1.trans (e13.trans e4)) s4 i4 r,
    λ σ4 ρ4 O4 G4 H4 e4 s4 n4 q => q3.nx σ4 ρ4 O4 G4 H4 (e1.trans (e13.trans e4)) s4 n4 q,λ σ4 ρ4 O4 G4 H4 e4 s4 n4 q => ⟨G4,ρ4,O4,e13.trans e4,s4,n4,q⟩⟩⟩⟩
  ·have ei : i = xs.length := by omega
   subst ei
   exact .inl ⟨Y.stop _ H2 (e2.g.trans s2.sub) (Nat.le_refl _),q3.nx σ2 ρ2 O2 G2 H2 (e1.trans e2) s2 n2 (hd _ _ v2)⟩
theorem ev_frz {q : Nat} {xs : List D} (h : EvP X ρ O e (.ptr q)) (h2 : O[q]? = some (some (.lst xs))) (r : R (.lst xs) (O.set q none)) : Ev X ρ O e R := λ G => PE.imp (h G) λ σ H Q ⟨q1,q2,q3⟩ => ⟨q1,q2,λ v G1 H1 e1 s1 i1 => by
 obtain ⟨G',p,e,s',hp,i'⟩ := s1.frozen h2
 cases i1 with
 | ptr _ ha =>
 obtain rfl := Option.some.inj (ha.symm.trans hp)
 exact q3 _ _ _ G' H1 (e1.trans e) s' i' r⟩
end
def startD (N : List Str) (ds : List D) : Rho := ds.map some ++ List.replicate (N.length - ds.length) none
section
variable {P : Program} {w : World} {K : PySem.W.Frag} {mg : Str -> Option Value} {base : Heap}
theorem start_env {G : Wd} {N : List Str} {ds : List D} {vs : List V} (r : Iss K G ds vs) : EnvR K G (L2.start N vs) (startD N ds) := by
 refine ⟨by unfold L2.start startD; simp [r.length],λ i d h => ?_⟩
 unfold startD at h
 by_cases hi : i < ds.length
 ·rw [List.getElem?_append_left (by simpa using hi),List.getElem?_map] at h
  cases q : ds[i]? with
  | none => rw [q] at h; cases h
  | some d' =>
   rw [q] at h; cases h
   obtain ⟨v,hv,iv⟩ := r.get q
   refine ⟨v,?_,iv⟩
   unfold L2.start
   rw [List.getElem?_append_left (by rw [List.length_map,<- r.length]; exact hi),List.getElem?_map,hv]
   rfl
 ·rw [List.getElem?_append_right (by simpa using hi),List.getElem?_replicate] at h
  split at h <;> cases h
theorem okF {x qual : Str} {st : Stmt} {f : Addr} {fd : FuncData} {N ps : List Str} {k : Nat} {sp : SpD} (F : Fun K x qual st f fd) (S : Q0o N ps (Q0f st))
  (len : ∀ ds O R,sp ds O R -> ds.length = ps.length)
  (hbody : ∀ (cdv : Value) (A : Around) (outer : List Env) (s : Shared) (H : Hp) (E : XK) (ds : List D) (O : Sto) (R : D -> Sto -> Prop),Room k (A.deeper (envOfC qual (Q0f st) s.heap.objs.size f cdv)) -> sp ds O R ->
   Exs (cxOf CX0 P w K mg base N qual (Q0f st) f cdv A outer s H E).nox (startD N ds) O (Q0l st) { nx := λ _ O' => R .non O',rt := R }) : FnOk P w K mg base CX0 (k + 1) f fd ps (toSp K sp) := by
 refine F.ok S (λ vs H Q E h => ?_) (λ cdv A outer s H vs Q E hr h => ?_)
 ·obtain ⟨G,O,ds,R,h1,h2,h3,h4⟩ := h
  rw [<- h2.length]
  exact len _ _ _ h3
 ·obtain ⟨G,O,ds,R,h1,h2,h3,h4⟩ := h
  refine ⟨_,hbody cdv A outer s H E ds O R hr h3 G,h1,start_env h2,⟨λ σ ρ O' G' H' e1 s1 n1 q => h4 _ _ O' G' H' e1 s1 .non q,λ v d O' G' H' e1 s1 i1 q => h4 v d O' G' H' e1 s1 i1 q,λ σ ρ O' G' H' e1 s1 n1 q => q.elim,λ σ ρ O' G' H' e1 s1 n1 q => q.elim⟩⟩
theorem okD {x qual : Str} {st : Stmt} {f : Addr} {fd : FuncData} {N ps : List Str} {k : Nat} {sp : SpD} (F : Fun K x qual st f fd) (S : Q0o N ps (Q0f st)) (hm : mg x = some (.ref f)) (hb : Q0F K fd ps [])
  (len : ∀ ds O R,sp ds O R -> ds.length = ps.length)
  (hbody : ∀ (cdv : Value) (A : Around) (outer : List Env) (s : Shared) (H : Hp) (E : XK) (ds : List D) (O : Sto) (R : D -> Sto -> Prop),Room k (A.deeper (envOfC qual (Q0f st) s.heap.objs.size f cdv)) -> sp ds O R ->
   Exs (cxOf CX0 P w K mg base N qual (Q0f st) f cdv A outer s H E).nox (startD N ds) O (Q0l st) { nx := λ _ O' => R .non O',rt := R }) : Q0t P w K mg base (k + 1) x sp :=
 ⟨f,fd,ps,okF F S len hbody,hm,F.kp,hb⟩
end
def spLaw : SpD := λ ds O R => ∃ ns : List Int,ds = [.scr (ns.map D.int)] /\ ns.length <= 63 /\ R (.bl true) O
theorem law_start {K : PySem.W.Frag} {H : Hp} {a : Addr} {ns : List Int} (hl : ns.length <= 63) (hS : SqL K H a (ns.map V.int)) : toSp K spLaw [.ref a] H (λ v _ => v = .bl true) λ _ _ _ => False :=
 ⟨⟨H,[]⟩,[],[.scr (ns.map D.int)],λ d _ => d = .bl true,⟨Same.refl _,rfl,List.nodup_nil,λ a h => absurd h List.not_mem_nil,λ n m h => by cases h⟩,.cons (.scr hS Iss.ints) .nil,⟨ns,rfl,hl,rfl⟩,λ v d O' G' H' _ _ i r => by subst r; cases i; rfl⟩
section
variable {X : Cx} {ρ : Rho} {O : Sto} {e a b c : Expr} {es : List Expr} {d da db : D} {ds : List D} {R : D -> Sto -> Prop} {pos p : Pos} {x : Str}
theorem Q2i {U : String} (hm : X.mg x = none) (hg : Gl X x := by rfl) (hv : bootBuiltins x = some (.type U) := by first | rfl | decide +kernel) (hn : x ≠ "__name__" := by decide) (hd : (x == ("__debug__" : Str)) = false := by decide) : EvP X ρ O (.Name x p) (.ty U) := λ G =>
 PE.imp (pe_bltn (v := .ty U) hg hm hv rfl hn hd) λ σ H Q ⟨h1,h2,h3⟩ => h3 _ G H (Ext.refl _) h1 (.ty U)
def tyD : D -> Option String
 | .non => some "NoneType" | .bl _ => some "bool" | .int _ => some "int" | .str _ => some "str" | .tup _ => some "tuple" | .lst _ => some "list" | .scr _ => some "list" | .ptr _ => none | .ty _ => none | .fn _ => none | .dct _ _ => some "dict"
theorem c_isi {T U : String} {k : Bool} (ht : tyD d = some T) (hk : ∀ K,PySem.W.kitOne K (.type T) (.type U) = some k) : Q2p X O (.builtin "isinstance") [d,.ty U] (.bl k) := λ G pins s σ H xs us Q I r ⟨h1,h2,h3⟩ => by
 cases h2 with
 | cons i r2 =>
  cases r2 with
  | cons i' r3 =>
   cases r3
   cases i'
   obtain ⟨u,u',rfl,r1,r2⟩ := vals2 r
   cases r2
   have fin : ∀ tk,EP X pins σ Q (.bool k) { s with toks := tk } := λ tk => ⟨.bl k,H,I.tok tk,rfl,h3 _ G H (Ext.refl _) h1 (.bl k)⟩
   cases i with
   | non => cases ht; cases r1; exact PySem.W.kia_one PySem.W.kitx_none I.kIn True.intro (hk _) (λ z => nomatch z) fin
   | bl y => cases ht; cases r1; exact PySem.W.kia_one PySem.W.kitx_bool I.kIn True.intro (hk _) (λ z => nomatch z) fin
   | int i => cases ht; obtain ⟨t,rfl⟩ := r1; exact PySem.W.kia_one PySem.W.kitx_int I.kIn True.intro (hk _) (λ z => nomatch z) fin
   | str y => cases ht; obtain ⟨t,rfl⟩ := r1; exact PySem.W.kia_one PySem.W.kitx_str I.kIn True.intro (hk _) (λ z => nomatch z) fin
   | tup q1 q2 =>
    cases ht; cases r1
    obtain ⟨its,_,⟨o,g1,g2,_⟩,_⟩ := I.tuple (Q1c h1.sub q1)
    exact PySem.W.kia_one PySem.W.kitx_tuple I.kIn ⟨o,g1,g2⟩ (hk _) (λ z => nomatch z) fin
   | lst q1 q2 =>
    cases ht; cases r1
    obtain ⟨its,_,⟨o,n,g1,g2,_⟩,_⟩ := I.list (SqL.of (h1.sub _ _ q1))
    exact PySem.W.kia_one PySem.W.kitx_list I.kIn ⟨o,g1,g2⟩ (hk _) (λ z => nomatch z) fin
   | scr q1 q2 =>
    cases ht; cases r1
    obtain ⟨its,_,⟨o,n,g1,g2,_⟩,_⟩ := I.list (h1.sub.seq q1)
    exact PySem.W.kia_one PySem.W.kitx_list I.kIn ⟨o,g1,g2⟩ (hk _) (λ z => nomatch z) fin
   | ptr _ _ => cases ht
   | ty _ => cases ht
   | fn _ => cases ht
   | dct q1 _ q2 =>
    cases ht; cases r1
    obtain ⟨_,_,_,_,o,_,_,g1,g2,_⟩ := Rd.ok (.inr ⟨_,h1.sub _ _ q1⟩) I.hok
    exact PySem.W.kia_one PySem.W.kitx_dict I.kIn ⟨o,g1,g2.1⟩ (hk _) (λ z => nomatch z) fin
def subTy (T U : String) : Bool := T == U || (T == "bool" && U == "int")
theorem kit_all : ∀ T ∈ ["NoneType","bool","int","str","tuple","list","dict"],∀ U ∈ ["int","bool","tuple","str","dict","list"],∀ K,PySem.W.kitOne K (.type T) (.type U) = some (subTy T U) := by
 intro T hT U hU K
 simp only [List.mem_cons,List.not_mem_nil,or_false] at hT hU
 rcases hT with rfl | rfl | rfl | rfl | rfl | rfl | rfl <;> rcases hU with rfl | rfl | rfl | rfl | rfl | rfl <;> kernel_rfl
def okTy : D -> Bool
 | .ptr _ => false | .ty _ => false | .fn _ => false | _ => true
def isiD (d : D) (U : String) : Bool := match tyD d with
 | some T => subTy T U
 | none => false
theorem c_isiU {U : String} (h : okTy d = true) (hU : U ∈ ["int","bool","tuple","str","dict","list"]) : Q2p X O (.builtin "isinstance") [d,.ty U] (.bl (isiD d U)) := by
 cases d with
 | ptr _ => cases h
 | ty _ => cases h
 | fn _ => cases h
 | _ => exact c_isi (T := _) rfl (kit_all _ (by decide) U hU)
theorem c_isi_int (h : okTy d = true) : Q2p X O (.builtin "isinstance") [d,.ty "int"] (.bl (isiD d "int")) := c_isiU h (by decide)
theorem c_isi_bool (h : okTy d = true) : Q2p X O (.builtin "isinstance") [d,.ty "bool"] (.bl (isiD d "bool")) := c_isiU h (by decide)
theorem Q2b (h : okTy d = true) : Q2p X O (.builtin "isinstance") [d,.ty "str"] (.bl (isiD d "str")) := c_isiU h (by decide)
theorem ev_neg {i : Int} (ha : EvP X ρ O a (.int i)) : EvP X ρ O (.UnaryOp .USub a pos) (.int (-i)) := λ G => PE.imp (pe_un un_neg (ha G)) λ σ H Q ⟨h1,h2,h3⟩ => ⟨h1,h2,λ v G1 H1 e1 s1 i1 => by
 cases i1; exact ⟨i,rfl,h3 _ G1 H1 e1 s1 (.int _)⟩⟩
end
def Q1I (env : Env) : List (Str × NameKind) -> List (Str × Addr) -> List (Str × Addr)
 | [],cs => cs
 | (n,k) :: r,cs => if k == .free then Q1I env r ((n,(env.cells.lookup n).getD 0) :: cs) else Q1I env r cs
theorem clos_run {env : Env} (f : Str × NameKind -> List (Str × Addr) -> Sem (ForInStep (List (Str × Addr))))
  (hf : ∀ n k cs,f (n,k) cs = if (k == NameKind.free) = true then (do let a <- cellOf env n; pure (.yield ((n,a) :: cs))) else pure (.yield cs)) :
  ∀ (names : List (Str × NameKind)) (cs : List (Str × Addr)),(∀ y ∈ names,y.2 = .free -> ∃ a,env.cells.lookup y.1 = some a) -> forIn names cs f = pure (Q1I env names cs)
 | [],cs,_ => by rw [List.forIn_nil]; rfl
 | (n,k) :: r,cs,h => by
  rw [List.forIn_cons,hf]
  have hr : ∀ y ∈ r,y.2 = .free -> ∃ a,env.cells.lookup y.1 = some a := λ y hy => h y (List.mem_cons_of_mem _ hy)
  unfold Q1I
  by_cases hk : (k == NameKind.free) = true
  ·rw [if_pos hk,if_pos hk]
   obtain ⟨a,e⟩ := h (n,k) List.mem_cons_self (by simpa using hk)
   have e' : cellOf env n = pure a := by unfold cellOf; rw [e]
   rw [e',e]
   simp only [pure_bind,Option.getD_some]
   exact clos_run f hf r _ hr
  ·rw [if_neg hk,if_neg hk]
   simp only [pure_bind]
   exact clos_run f hf r _ hr
theorem clos_eq {env : Env} {scope : Scope} (h : ∀ y ∈ scope.names,y.2 = .free -> ∃ a,env.cells.lookup y.1 = some a) : closureFor scope env = pure (Q1I env scope.names []) := by
 have e := clos_run (env := env) (λ (x : Str × NameKind) (cs : List (Str × Addr)) => if (x.2 == NameKind.free) = true then (do let a <- cellOf env x.1; pure (.yield ((x.1,a) :: cs))) else pure (.yield cs)) (λ n k cs => rfl) scope.names [] h
 unfold closureFor
 exact (congrArg (λ z => z >>= λ q => pure q) e).trans (by simp)
theorem clos_of {env : Env} {x : Str} {c : Addr} : ∀ (names : List (Str × NameKind)) (cs : List (Str × Addr)),(∀ y ∈ names,y.2 = .free -> ∃ a,env.cells.lookup y.1 = some a) ->
  (Q1I env names cs).lookup x = some c -> cs.lookup x = some c \/ env.cells.lookup x = some c
 | [],cs,_,h => .inl h
 | (n,k) :: r,cs,hh,h => by
  have hr : ∀ y ∈ r,y.2 = .free -> ∃ a,env.cells.lookup y.1 = some a := λ y hy => hh y (List.mem_cons_of_mem _ hy)
  unfold Q1I at h
  by_cases hk : (k == NameKind.free) = true
  ·rw [if_pos hk] at h
   obtain ⟨a,e⟩ := hh (n,k) List.mem_cons_self (by simpa using hk)
   rcases clos_of r _ hr h with q | q
   ·rw [e,Option.getD_some,List.lookup_cons] at q
    cases hx : x == n with
    | true =>
     rw [hx] at q
     have : x = n := by simpa using hx
     subst this
     exact .inr (by cases q; exact e)
    | false => rw [hx] at q; exact .inl q
   ·exact .inr q
  ·rw [if_neg hk] at h
   exact clos_of r cs hr h
theorem Q3s {env : Env} {x : Str} : ∀ (names : List (Str × NameKind)) (cs : List (Str × Addr)),names.lookup x = some .free \/ (cs.lookup x).isSome = true -> ((Q1I env names cs).lookup x).isSome = true
 | [],cs,h => h.elim (λ e => by cases e) id
 | (n,k) :: r,cs,h => by
  unfold Q1I
  by_cases hk : (k == NameKind.free) = true
  ·rw [if_pos hk]
   refine Q3s r _ ?_
   cases hx : x == n with
   | true => right; rw [List.lookup_cons,hx]; rfl
   | false =>
    rw [List.lookup_cons,hx] at h
    rw [List.lookup_cons,hx]
    exact h
  ·rw [if_neg hk]
   refine Q3s r _ ?_
   cases hx : x == n with
   | true =>
    rw [List.lookup_cons,hx] at h
    rcases h with h | h
    ·cases h; exact absurd rfl hk
    ·exact .inr h
   | false => rw [List.lookup_cons,hx] at h; exact h
theorem cf_out {x : Str} : ∀ (names : List (Str × NameKind)) (n : Nat) (acc : List (Str × Addr)),(∀ y ∈ names,y.1 = x -> y.2 ≠ .cell) -> (cellsFrom n names acc).lookup x = acc.lookup x
 | [],_,_,_ => rfl
 | (y,k) :: r,n,acc,h => by
  have hr : ∀ z ∈ r,z.1 = x -> z.2 ≠ .cell := λ z hz => h z (List.mem_cons_of_mem _ hz)
  unfold cellsFrom
  by_cases hk : (k == NameKind.cell) = true
  ·rw [if_pos hk,cf_out r _ _ hr,List.lookup_cons]
   have : y ≠ x := λ e => h (y,k) List.mem_cons_self e (by simpa using hk)
   rw [show (x == y) = false from by simpa using Ne.symm this]
  ·rw [if_neg hk]
   exact cf_out r _ _ hr
theorem cf_cell {x : Str} {c : Addr} : ∀ (names : List (Str × NameKind)) (h : Heap) (acc : List (Str × Addr)),(∀ y b,acc.lookup y = some b -> ∃ v,h.IsCell b v) -> (cellsFrom h.objs.size names acc).lookup x = some c ->
  (∃ v,(pushCells h names).IsCell c v) /\ (acc.lookup x = some c \/ h.objs.size <= c)
 | [],h,acc,hc,e => ⟨hc _ _ e,.inl e⟩
 | (y,k) :: r,h,acc,hc,e => by
  unfold cellsFrom at e
  unfold pushCells
  by_cases hk : (k == NameKind.cell) = true
  ·rw [if_pos hk] at e ⊢
   have hz : (h.push { cls := .type "cell",data := .cell none }).objs.size = h.objs.size + 1 := Heap.size_push ..
   rw [<- hz] at e
   obtain ⟨q1,q2⟩ := cf_cell r (h.push { cls := .type "cell",data := .cell none }) ((y,h.objs.size) :: acc) (λ z b q => by
    rw [List.lookup_cons] at q
    cases hx : z == y with
    | true => rw [hx] at q; cases q; exact ⟨none,_,Heap.get?_push_size _ rfl,rfl⟩
    | false =>
     rw [hx] at q
     obtain ⟨v,o,q1,q2⟩ := hc z b q
     exact ⟨v,o,Heap.get?_push_of_some _ q1,q2⟩) e
   refine ⟨q1,?_⟩
   rcases q2 with q2 | q2
   ·rw [List.lookup_cons] at q2
    cases hx : x == y with
    | true => rw [hx] at q2; cases q2; exact .inr (Nat.le_refl _)
    | false => rw [hx] at q2; exact .inl q2
   ·exact .inr (by rw [hz] at q2; omega)
  ·rw [if_neg hk] at e ⊢
   exact cf_cell r h acc hc e
theorem cf_inj : ∀ (names : List (Str × NameKind)) (n : Nat) (acc : List (Str × Addr)),(∀ x y c,acc.lookup x = some c -> acc.lookup y = some c -> x = y) -> (∀ x c,acc.lookup x = some c -> c < n) ->
  ∀ x y c,(cellsFrom n names acc).lookup x = some c -> (cellsFrom n names acc).lookup y = some c -> x = y
 | [],_,_,hi,_ => hi
 | (z,k) :: r,n,acc,hi,hl => by
  unfold cellsFrom
  by_cases hk : (k == NameKind.cell) = true
  ·rw [if_pos hk]
   refine cf_inj r (n + 1) ((z,n) :: acc) (λ x y c e1 e2 => ?_) (λ x c e => ?_)
   ·rw [List.lookup_cons] at e1 e2
    cases hx : x == z <;> cases hy : y == z <;> rw [hx] at e1 <;> rw [hy] at e2
    ·exact hi x y c e1 e2
    ·cases e2; exact absurd (hl _ _ e1) (Nat.lt_irrefl _)
    ·cases e1; exact absurd (hl _ _ e2) (Nat.lt_irrefl _)
    ·rw [show x = z by simpa using hx,show y = z by simpa using hy]
   ·rw [List.lookup_cons] at e
    cases hx : x == z <;> rw [hx] at e
    ·exact Nat.lt_succ_of_lt (hl _ _ e)
    ·cases e; exact Nat.lt_succ_self _
  ·rw [if_neg hk]
   exact cf_inj r n acc hi hl
theorem Q4e {env : Env} {x : Str} {k : NameKind} : ∀ (names : List (Str × NameKind)),(names.map λ (n,k) => if (k == NameKind.free && env.scope.kind == .function && env.kindOf n == some .cell) then (n,NameKind.cell) else (n,k)).lookup x = some k ->
  names.lookup x = some k \/ (k = .cell /\ names.lookup x = some .free)
 | [],h => by cases h
 | (n,k') :: r,h => by
  rw [List.map_cons] at h
  by_cases hc : (k' == NameKind.free && env.scope.kind == .function && env.kindOf n == some .cell) = true
  ·simp only [hc,if_true] at h
   rw [List.lookup_cons] at h ⊢
   cases hx : x == n with
   | true =>
    rw [hx] at h; cases h
    have : k' = .free := by
     simp only [Bool.and_eq_true,beq_iff_eq] at hc
     exact hc.1.1
    subst this
    exact .inr ⟨rfl,rfl⟩
   | false => rw [hx] at h; exact Q4e r h
  ·simp only [hc,Bool.false_eq_true,if_false] at h
   rw [List.lookup_cons] at h ⊢
   cases hx : x == n with
   | true => rw [hx] at h; exact .inl h
   | false => rw [hx] at h; exact Q4e r h
theorem Q3y {env : Env} {x : Str} : ∀ (names : List (Str × NameKind)),names.lookup x = some .free ->
  (names.map λ (n,k) => if (k == NameKind.free && env.scope.kind == .function && env.kindOf n == some .cell) then (n,NameKind.cell) else (n,k)).lookup x = some .cell \/
  (names.map λ (n,k) => if (k == NameKind.free && env.scope.kind == .function && env.kindOf n == some .cell) then (n,NameKind.cell) else (n,k)).lookup x = some .free
 | [],h => by cases h
 | (n,k') :: r,h => by
  rw [List.map_cons]
  rw [List.lookup_cons] at h
  by_cases hc : (k' == NameKind.free && env.scope.kind == .function && env.kindOf n == some .cell) = true
  ·simp only [hc,if_true]
   rw [List.lookup_cons]
   cases hx : x == n with
   | true => left; rfl
   | false => rw [hx] at h; exact Q3y r h
  ·simp only [hc]
   cases hx : x == n with
   | true => rw [hx] at h; right; exact (by simp [List.lookup_cons,hx]; exact Option.some.inj h)
   | false =>
    rw [hx] at h
    simpa [List.lookup_cons,hx] using Q3y r h
def cxC (X : Cx) (N : List Str) (scope : Scope) (s : Shared) (H : Hp) (fp : List Addr) : Cx :=
 { X with
  N := N
  s₀ := s
  H₀ := H
  env := compEnvC scope (cellsFrom (s.heap.objs.size + 2) scope.names (Q1I X.env scope.names [])) (s.heap.objs.size + 1) X.env
  outer := X.stack
  ex := fp
  fn := λ x => scope.names.lookup x == some .cell
  pn := []
  xe := λ _ _ => False }
section
variable {X : Cx} {pins : List (Addr × Obj)} {σ : L2.St} {H : Hp} {s : Shared}
def FreeOk (X : Cx) (scope : Scope) : Prop := ∀ y ∈ scope.names,y.2 = .free -> X.env.kindOf y.1 = some .cell \/ X.env.kindOf y.1 = some .free
theorem inv_comp {N : List Str} {scope : Scope} {fp : List Addr} {σ0 : L2.St} (I : L2.Inv X pins σ H s) (hf : ∀ b ∈ fp,FpOk X pins H b) (ho : ∀ b ∈ fp,∃ o,s.heap.get? b = some o) (hk : scope.kind = .function) (hfr : FreeOk X scope)
  (hl : σ0.length = N.length) (hσ : ∀ (i : Nat) (v : V),σ0[i]? = some (some v) -> ∃ (x : Str) (j : Nat),N[i]? = some x /\ scope.names.lookup x = some .free /\ (∀ y ∈ scope.names,y.1 = x -> y.2 ≠ .cell) /\ X.N[j]? = some x /\ σ[j]? = some (some v) /\ Vis X.env.scope x) (t : Nat) (oD : Obj) :
  L2.Inv (cxC X N scope s H fp) [] σ0 H { s with heap := pushCells ((s.heap.push oD).push { cls := .type "dict",data := .dict #[] }) scope.names,toks := t } := by
 have hz1 : (s.heap.push oD).objs.size = s.heap.objs.size + 1 := Heap.size_push ..
 have hz : ((s.heap.push oD).push { cls := .type "dict",data := .dict #[] }).objs.size = s.heap.objs.size + 2 := by rw [Heap.size_push,hz1]
 have up : ∀ b o,s.heap.get? b = some o -> (pushCells ((s.heap.push oD).push { cls := .type "dict",data := .dict #[] }) scope.names).get? b = some o := λ b o e => pushCells_keeps _ _ b o (Heap.get?_push_of_some _ (Heap.get?_push_of_some _ e))
 have hcl : ∀ y ∈ scope.names,y.2 = .free -> ∃ a,X.env.cells.lookup y.1 = some a := λ y hy e => I.ok.has _ (hfr y hy e)
 have cl1 : ∀ y b,(Q1I X.env scope.names []).lookup y = some b -> X.env.cells.lookup y = some b := λ y b e => by
  rcases clos_of _ _ hcl e with q | q
  ·cases q
  ·exact q
 have cl2 : ∀ y b,(Q1I X.env scope.names []).lookup y = some b -> b < s.heap.objs.size := λ y b e => by
  obtain ⟨v,q⟩ := I.cell y b (cl1 y b e); exact q.lt
 have cc : ∀ y b,(cellsFrom (s.heap.objs.size + 2) scope.names (Q1I X.env scope.names [])).lookup y = some b ->
   (∃ v,(pushCells ((s.heap.push oD).push { cls := .type "dict",data := .dict #[] }) scope.names).IsCell b v) /\ (X.env.cells.lookup y = some b /\ b < s.heap.objs.size \/ s.heap.objs.size + 2 <= b) := λ y b e => by
  rw [<- hz] at e
  obtain ⟨q1,q2⟩ := cf_cell scope.names ((s.heap.push oD).push { cls := .type "dict",data := .dict #[] }) _ (λ z c q => by
   obtain ⟨v,o,q1,q2⟩ := I.cell z c (cl1 z c q)
   exact ⟨v,o,Heap.get?_push_of_some _ (Heap.get?_push_of_some _ q1),q2⟩) e
  refine ⟨q1,?_⟩
  rcases q2 with q2 | q2
  ·exact .inl ⟨cl1 _ _ q2,cl2 _ _ q2⟩
  ·rw [hz] at q2; exact .inr q2
 have hlt := I.lt
 refine ⟨⟨I.ok.mod,hk,I.ok.glob,I.ok.blt,Nat.le_succ _,?_,?_,?_,I.ok.hd,I.ok.frames,.inl rfl,?_,I.bs,Nat.le_trans I.ok.bsz I.sz,?_,?_,I.stack,I.stkFree⟩,rfl,I.bare,Un.kept up,?_,?_,?_,?_,?_,I.hok.kept up,hl⟩
 ·exact cf_inj _ _ _ (λ x y c e1 e2 => I.ok.inj x y c (cl1 _ _ e1) (cl1 _ _ e2)) (λ x c e => Nat.lt_of_lt_of_le (cl2 x c e) (Nat.le_add_right _ 2))
 ·intro x hx
  have hx : (relabel scope X.env).names.lookup x = some .cell \/ (relabel scope X.env).names.lookup x = some .free := hx
  have : ((cellsFrom (s.heap.objs.size + 2) scope.names (Q1I X.env scope.names [])).lookup x).isSome = true := by
   refine PySem.W.cellsFrom_some _ _ _ ?_
   rcases hx with hx | hx
   ·rcases Q4e _ hx with q | ⟨_,q⟩
    ·exact .inl q
    ·exact .inr (Q3s _ _ (.inl q))
   ·rcases Q4e _ hx with q | ⟨q,_⟩
    ·exact .inr (Q3s _ _ (.inl q))
    ·cases q
  exact Option.isSome_iff_exists.mp this
 ·intro x c hfn e
  rcases (cc x c e).2 with ⟨q,q'⟩ | q
  ·exfalso
   have hfn : scope.names.lookup x = some .cell := by simpa [cxC] using hfn
   -- own names' cells are new
   have : ∀ (names : List (Str × NameKind)) (n : Nat) (acc : List (Str × Addr)),names.lookup x = some .cell \/ (∃ b,acc.lookup x = some b /\ s.heap.objs.size <= b) -> s.heap.objs.size <= n -> ∀ b,(cellsFrom n names acc).lookup x = some b -> s.heap.objs.size <= b := by
    intro names
    induction names with
    | nil =>
     intro n acc h hn b eb
     rcases h with h | ⟨b',h,hb⟩
     ·cases h
     ·have eb : acc.lookup x = some b := eb
      rw [h] at eb; cases eb; exact hb
    | cons p r ih =>
     obtain ⟨y,k⟩ := p
     intro n acc h hn b eb
     unfold cellsFrom at eb
     by_cases hkc : (k == NameKind.cell) = true
     ·rw [if_pos hkc] at eb
      refine ih (n + 1) _ ?_ (Nat.le_succ_of_le hn) b eb
      cases hxy : x == y with
      | true => right; exact ⟨n,by rw [List.lookup_cons,hxy],hn⟩
      | false =>
       rw [List.lookup_cons,hxy] at h
       rw [List.lookup_cons,hxy]
       exact h
     ·rw [if_neg hkc] at eb
      refine ih n _ ?_ hn b eb
      cases hxy : x == y with
      | true =>
       rw [List.lookup_cons,hxy] at h
       rcases h with h | h
       ·cases h; exact absurd rfl hkc
       ·exact .inr h
      | false => rw [List.lookup_cons,hxy] at h; exact h
   exact absurd q' (Nat.not_lt.mpr (this scope.names _ _ (.inl hfn) (Nat.le_add_right _ 2) c e))
  ·exact Nat.le_trans (Nat.le_add_right _ 2) q
 ·intro b hb
  have hbl : b < s.heap.objs.size := let ⟨o,e⟩ := ho b hb; Heap.lt_size e
  refine ⟨Nat.ne_of_lt (Nat.lt_succ_of_lt hbl),λ x c e => ?_⟩
  obtain ⟨f0,f1,f2,f3,f4,f5⟩ := hf b hb
  rcases (cc x c e).2 with ⟨q,_⟩ | q
  ·exact f4 x c q
  ·exact Nat.ne_of_gt (Nat.lt_of_lt_of_le (Nat.lt_of_lt_of_le hbl (Nat.le_add_right _ 2)) q)
 ·intro b o e hb
  obtain ⟨f0,f1,f2,f3,f4,f5⟩ := hf b hb
  rcases f3 with q | q
  ·exact I.ok.noex b o e q
  ·exact absurd (Nat.lt_of_lt_of_le (Heap.lt_size e) (Nat.le_trans I.ok.bsz q)) (Nat.lt_irrefl _)
 ·intro b hb z
  obtain ⟨f0,f1,f2,f3,f4,f5⟩ := hf b hb
  rcases List.mem_cons.mp (I.stkSub b z) with q | q
  ·exact f1 q
  ·exact f2 q
 ·refine ⟨λ _ => none,?_,λ i x v e1 e2 e3 => ?_⟩
  ·show Heap.Ns _ (s.heap.objs.size + 1) _
   rw [<- hz1]
   exact (Heap.Ns.new (s.heap.push oD) (.type "dict")).keeps (pushCells_keeps _ _)
  ·obtain ⟨x',j,q1,q2,q3,q4,q5,q6⟩ := hσ i v e2
   have : x' = x := Option.some.inj (q1.symm.trans e1)
   subst this
   obtain ⟨m,hn,hlk⟩ := I.loc
   obtain ⟨u,ru,lk⟩ := hlk j x' v q4 q5 q6
   refine ⟨u,ru,.inr ⟨?_,?_⟩⟩
   ·exact Q3y _ q2
   ·have hks := hfr (x',.free) (PySem.mem_of_lookup q2) rfl
    rcases lk with ⟨k,_⟩ | ⟨k,c,e,z⟩
    ·rcases hks with z | z
     ·rw [k] at z; cases z
     ·rw [k] at z; cases z
    ·refine ⟨c,?_,z.keeps up⟩
     show (cellsFrom _ _ _).lookup x' = some c
     rw [cf_out _ _ _ q3]
     obtain ⟨b,eb⟩ := Option.isSome_iff_exists.mp (Q3s (env := X.env) scope.names [] (.inl q2))
     rw [eb,<- cl1 _ _ eb,e]
 ·exact λ x c e => (cc x c e).1
 ·exact I.hok.fresh (Nat.le_succ _)
 ·intro x c e
  rcases (cc x c e).2 with ⟨q,_⟩ | q
  ·exact I.freeC x c q
  ·exact I.hok.fresh (Nat.le_trans (Nat.le_add_right _ 2) q)
 ·intro p hp
  exact absurd (show p ∈ ([] : List (Addr × Obj)) from hp) (by simp)
end
theorem newEnv_comp {M : Model} {A : Around} {E : Value -> Shared -> Prop} {s : Shared} {scope : Scope} {g : Addr} {cl : List (Str × Addr)} {q : Str} {env : Env} {Q : Env -> Shared -> Prop}
  (h : ∀ b,b = env.builtins -> Q { scope := scope,locals := s.heap.objs.size,globals := g,cells := cellsFrom (s.heap.objs.size + 1) scope.names cl,qual := q,func := none,code := env.code,frame := env.frame,builtins := b }
   { s with heap := pushCells (s.heap.push { cls := .type "dict",data := .dict #[] }) scope.names }) : wpAny M A (newFunctionEnv scope g cl [] q none .none (some env)) Q E s := by
 simp only [newFunctionEnv,Option.isSome_some,if_true]
 refine wpAny_bind (wpAny_alloc ?_)
 refine wpAny_bind (wpAny_layCells _ (λ n k cells => by cases hkc : k == NameKind.cell <;> simp [hkc]) _ _ _ _ ?_)
 rw [show ({ s with heap := s.heap.push { cls := .type "dict",data := .dict #[] } } : Shared).heap.objs.size = s.heap.objs.size + 1 from Heap.size_push ..]
 rw [List.forIn_nil]
 exact wpAny_bind (wpAny_pure (wpAny_pure (h _ rfl)))
theorem Un_more {fs ex : List Addr} {H H' : Hp} {h h' : Heap} {D : Addr} {o : HO} (u : Un fs ex H H' h h') (hn : H D = none) (hh : h.get? D = none) : Un fs ex H (upd H' D o) h h' where
 keep := u.keep
 slot := u.slot
 free := λ b ob q n hx => by
  rw [Q0i (λ z => by rw [z,hh] at q; cases q)]; exact u.free b ob q n hx
 there := u.there
 tups := λ b xs q => by rw [Q0i (Q0r q hn)]; exact u.tups b xs q
 frzs := λ b ob xs q => by rw [Q0i (Q0r q hn)]; exact u.frzs b ob xs q
 tbls := λ b ps q => by rw [Q0i (Q0r q hn)]; exact u.tbls b ps q
theorem HOk_more {P : Program} {w : World} {H : Hp} {h : Heap} {D : Addr} {o : HO} (x : HOk P w H h) (hn : H D = none) (new : Q1n P w (upd H D o) h D o) : HOk P w (upd H D o) h := λ b u e => by
 by_cases hb : b = D
 ·subst hb
  rw [Q0h] at e
  cases e
  exact new
 ·rw [Q0i hb] at e
  refine (x b u e).stay (λ c v _ q => q) (λ c q => ?_) λ c xs q => ?_
  ·rw [Q0i (Q0r q hn)]; exact q
  ·rw [Q0i (Q0r q hn)]; exact q
theorem compLoop_any {prog : Program} {w : World} {A : Around} {R : Result -> Shared -> Prop} {elt tg iter : Expr} {ifs : List Expr} {scope : Scope} {pos : Pos} {it acc : Value} {env : Env} (V : Nat -> Shared -> Prop)
  (turn : ∀ (n : Nat) (s : Shared) (F : Value -> Shared -> Prop),V n s -> wpAny (model prog w) A (pyNext it) (λ r s1 => match r with
   | none => R (.ok .next) s1
   | some v => wpAny (model prog w) A (letOwnedTupleGo tg it v) (λ _ s2 => wpAny (model prog w) A (assign tg env v) (λ _ s3 =>
     wpAny (model prog w) A (compTests ifs env) (λ ok s4 => if ok = true then wpAny (model prog w) A (eval elt env) (λ x s5 => wpAny (model prog w) A (call (.builtin "list.append") [acc,x]) (λ _ s6 => ∃ m,m < n /\ V m s6) F s5) F s4
      else ∃ m,m < n /\ V m s4) F s3) F s2) F s1) F s) :
  ∀ (n : Nat) (s : Shared),V n s -> codeAny (model prog w) A (.compLoop (.ListComp elt [⟨tg,iter,ifs,0⟩] scope pos) 0 it acc env) R s := λ n s h => by
 refine codeAny_loop rfl V (λ n s hV => ?_) n h
 refine wpAny_noted ?_
 rw [compTurn_list]
 refine wpAny_bind (wpAny_standAt (wpAny_bind (thn (turn n s _ hV) λ r s1 h1 => ?_)))
 cases r with
 | none => exact wpAny_pure h1
 | some v =>
  refine wpAny_bind (thn h1 λ _ s2 h2 => wpAny_bind (thn h2 λ _ s3 h3 => ?_))
  have h3 : wpAny (model prog w) A (compTests ifs env) _ _ s3 := h3
  unfold compTests at h3
  rw [show ∀ x : Sem Bool,(x >>= λ q => pure q) = x from λ x => bind_pure x] at h3
  refine wpAny_bind (thn h3 λ ok s4 h4 => ?_)
  cases ok with
  | false => exact wpAny_pure ⟨rfl,h4⟩
  | true => exact wpAny_bind (wpAny_bind (thn h4 λ x s5 h5 => wpAny_bind (thn h5 λ _ s6 h6 => wpAny_pure (wpAny_pure ⟨rfl,h6⟩))))
abbrev lstO (ys : List Value) : Obj := { cls := .type "list",data := .seq ys.toArray ys.length }
def Kept (X : Cx) (ρ : Rho) (O : Sto) (elt : Expr) : List Expr -> Option D -> Prop
 | [],z => ∃ y,z = some y /\ EvP X ρ O elt y
 | [c],z => ∃ k,EvT X ρ O c k /\ (k = true -> ∃ y,z = some y /\ EvP X ρ O elt y) /\ (k = false -> z = none)
 | _,_ => False
theorem EnvR.weak {K : PySem.W.Frag} {G : Wd} {σ : L2.St} {ρ ρ' : Rho} (h : EnvR K G σ ρ) (hl : ρ'.length = ρ.length) (hs : ∀ (i : Nat) (d : D),ρ'[i]? = some (some d) -> ρ[i]? = some (some d)) : EnvR K G σ ρ' :=
 ⟨h.len.trans hl.symm,λ i d e => h.get i d (hs i d e)⟩
theorem ex_list {α : Type} (P : Nat -> α -> Prop) : ∀ n : Nat,(∀ i,i < n -> ∃ a,P i a) -> ∃ l : List α,l.length = n /\ ∀ i a,l[i]? = some a -> P i a
 | 0,_ => ⟨[],rfl,λ i a h => by simp at h⟩
 | n + 1,h => by
  obtain ⟨l,h1,h2⟩ := ex_list P n λ i hi => h i (Nat.lt_succ_of_lt hi)
  obtain ⟨a,ha⟩ := h n (Nat.lt_succ_self _)
  refine ⟨l ++ [a],by simp [h1],λ i b hb => ?_⟩
  by_cases hi : i < n
  ·rw [List.getElem?_append_left (by omega)] at hb; exact h2 i b hb
  ·have hin : i = n := by
    have := (List.getElem?_eq_some_iff.mp hb).1
    simp [h1] at this; omega
   subst hin
   rw [List.getElem?_append_right (by omega),h1,Nat.sub_self] at hb
   cases hb; exact ha
section
variable {X : Cx} {ρ : Rho} {O : Sto} {elt tg iter : Expr} {ifs : List Expr} {scope : Scope} {pos : Pos} {xs : List D} {zs : List (Option D)}
theorem fm_take {α : Type} : ∀ (zs : List (Option α)) (i : Nat) (z : Option α),zs[i]? = some z -> (zs.take (i + 1)).filterMap id = (zs.take i).filterMap id ++ z.toList := by
 intro zs i z h
 rw [List.take_add_one,h,List.filterMap_append]
 cases z <;> rfl
theorem comp_core (N : List Str) (js : List Nat) (ρ0 : Rho) (hi : EvI X ρ O tg iter xs) (hc : X.calm = true) (hk : scope.kind = .function) (hfr : FreeOk X scope) (hnm : ∀ x ∈ scope.names,x.2 = .local -> scope.names.lookup x.1 = some .local)
    (hl0 : ρ0.length = N.length)
    (h0 : ∀ (i : Nat) (d : D),ρ0[i]? = some (some d) -> ∃ (x : Str) (j : Nat),N[i]? = some x /\ scope.names.lookup x = some .free /\ (∀ y ∈ scope.names,y.1 = x -> y.2 ≠ .cell) /\ X.N[j]? = some x /\ ρ[j]? = some (some d) /\ Vis X.env.scope x)
    (hzl : zs.length = xs.length) (hsz : xs.length <= sizeLine)
    (turn : ∀ (s : Shared) (H : Hp) (fp : List Addr) (i : Nat) (x : D) (z : Option D),xs[i]? = some x -> zs[i]? = some z -> ∃ ρ1,Tg (cxC X N scope s H fp) tg x ρ0 ρ1 /\ ρ1.length = ρ0.length /\ (∀ (j : Nat) (d : D),ρ0[j]? = some (some d) -> ρ1[j]? = some (some d)) /\ Kept (cxC X N scope s H fp) ρ1 O elt ifs z)
    {use : Option (Value -> Sem Unit)} {pins : List (Addr × Obj)} {s : Shared} {σ : L2.St} {H : Hp} {G : Wd} {Q : Value -> Shared -> Prop} (I : L2.Inv X pins σ H s) (sa : SA X.K G H O) (en : EnvR X.K G σ ρ)
    (fin : ∀ (D C : Addr) (s' : Shared) (H' : Hp) (G' : Wd),L2.Inv X pins σ H' s' -> Ext G G' -> SA X.K G' H' O -> Is X.K G' (.lst (zs.filterMap id)) (.ref D) -> FpOk X pins H' C -> (∃ m,s'.heap.Ns C m) -> compPost (model X.prog X.w) X.A X.xe use Q (.ref D) C (.ok .next) s')
    (hs : ∀ x,foldedSetIterable iter X.env x = pure x := by intro _; rfl) :
    wpAny (model X.prog X.w) X.A (comprehension (.ListComp elt [⟨tg,iter,ifs,0⟩] scope pos) scope X.env (firstIterPos [⟨tg,iter,ifs,0⟩] pos) (newList []) false (eval iter X.env) use) Q X.xe s := by
  refine wpAny_comprehension_free rfl hs (clos_eq λ y hy e => I.ok.has _ (hfr y hy e)) hk hnm (thn (hi G pins s σ H (λ J H1 => ∃ G1,Ext G G1 /\ SA X.K G1 H1 O /\ Q2c X.K G1 J xs) I ⟨sa,en,λ J G1 H1 e1 s1 y1 => ⟨G1,e1,s1,y1⟩⟩) λ v s1 h1 => thn h1 λ itv s2 h2 => ?_)
  obtain ⟨it,fp,tn,J,H2,e,I2,T,st2,f2,G2,e2,sa2,Yi⟩ := h2
  subst e
  have ho2 : ∀ b ∈ fp,∃ o,s2.heap.get? b = some o := λ b hb => let ⟨o,q,_⟩ := T.obj 0 _ st2 b hb; ⟨o,q⟩
  have hlt : ∀ b ∈ fp,b < s2.heap.objs.size := λ b hb => let ⟨o,q⟩ := ho2 b hb; Heap.lt_size q
  unfold newList
  refine wpAny_newObj_type (newEnv_comp λ bb hbb => ?_)
  have hbb' : bb = X.env.builtins := hbb
  subst hbb'
  have hz1 : (s2.heap.push { cls := .type "list",dict := none,data := .seq ([] : List Value).toArray }).objs.size = s2.heap.objs.size + 1 := Heap.size_push ..
  dsimp only
  rw [hz1]
  generalize hD : s2.heap.objs.size = dd at hz1 ⊢
  -- the block's own context
  have en2 : EnvR X.K G2 σ ρ := en.ext e2
  obtain ⟨σ0,hσl,hσ0⟩ := ex_list (λ i (o : Option V) => (∀ d,ρ0[i]? = some (some d) -> ∃ v,o = some v /\ Is X.K G2 d v) /\ ∀ v,o = some v -> ∃ (x : Str) (j : Nat),N[i]? = some x /\ scope.names.lookup x = some .free /\ (∀ y ∈ scope.names,y.1 = x -> y.2 ≠ .cell) /\ X.N[j]? = some x /\ σ[j]? = some (some v) /\ Vis X.env.scope x) N.length (λ i hi => by
    cases q : ρ0[i]? with
    | none => exact ⟨none,And.intro (λ d z => nomatch z) (λ v z => nomatch z)⟩
    | some o =>
      cases o with
      | none => exact ⟨none,And.intro (λ d z => nomatch z) (λ v z => nomatch z)⟩
      | some d =>
        obtain ⟨x,j,q1,q2,q3,q4,q5,q6⟩ := h0 i d q
        obtain ⟨v,q7,q8⟩ := en2.get j d q5
        exact ⟨some v,And.intro (λ d' z => by cases z; exact ⟨v,rfl,q8⟩) (λ v' z => by cases z; exact ⟨x,j,q1,q2,q3,q4,q7,q6⟩)⟩)
  have en0 : EnvR X.K G2 σ0 ρ0 := ⟨hσl.trans hl0.symm,λ i d e => by
    have hi : i < σ0.length := by rw [hσl,<- hl0]; exact (List.getElem?_eq_some_iff.mp e).1
    obtain ⟨v,e1,e2⟩ := (hσ0 i σ0[i] (List.getElem?_eq_getElem hi)).1 d e
    exact ⟨v,by rw [List.getElem?_eq_getElem hi,e1],e2⟩⟩
  have I3 := inv_comp (N := N) (scope := scope) (fp := fp) (σ0 := σ0) I2 f2 ho2 hk hfr hσl (λ i v e => (hσ0 i _ e).2 v rfl) s2.toks { cls := .type "list",dict := none,data := .seq ([] : List Value).toArray }
  generalize hY : cxC X N scope s2 H2 fp = Y at I3
  have hD1 : (pushCells ((s2.heap.push { cls := .type "list",dict := none,data := .seq ([] : List Value).toArray }).push { cls := .type "dict",data := .dict #[] }) scope.names).get? dd = some (lstO []) := by
    refine pushCells_keeps _ _ _ _ (Heap.get?_push_of_some _ ?_)
    rw [<- hD]
    exact Heap.get?_push_size _ rfl
  have hHD : H2 dd = none := I2.hok.fresh (by rw [hD]; exact Nat.le_refl _)
  have hsD : s2.heap.get? dd = none := Heap.get?_none_of_le (by rw [hD]; exact Nat.le_refl _)
  have hDC : dd ≠ Y.env.locals := by
    rw [<- hY]; show dd ≠ s2.heap.objs.size + 1; rw [hD]; exact Nat.ne_of_lt (Nat.lt_succ_self _)
  have hfs : ∀ b ∈ frs X.stack,b < s2.heap.objs.size := λ b hb => by
    rcases List.mem_cons.mp (I2.stkSub b hb) with q | q
    · rw [q]; exact I2.lt
    · exact Nat.lt_of_not_le λ z => I2.nofs z q
  have hYfs : Y.fs = frs X.stack := by rw [<- hY]; rfl
  have hDfs : dd ∉ Y.fs := λ z => by rw [hYfs] at z; have := hfs dd z; rw [hD] at this; exact Nat.lt_irrefl _ this
  have hYex : Y.ex = fp := by rw [<- hY]; rfl
  have hYpn : Y.pn = [] := by rw [<- hY]; rfl
  have hYxe : Y.xe = λ _ _ => False := by rw [<- hY]; rfl
  have hYs : Y.s₀.heap.objs.size = dd := by rw [<- hY]; exact hD
  have hYc : ∀ x c,Y.env.cells.lookup x = some c -> c ≠ dd /\ ∀ b ∈ fp,c ≠ b := λ x c e => by
    refine ⟨?_,λ b hb => ?_⟩
    · intro z
      subst z
      obtain ⟨v,o,q1,q2⟩ := I3.cell x c e
      rw [hD1] at q1; cases q1; cases q2
    · have := I3.ok.exf b (by rw [hYex]; exact hb)
      exact this.2 x c e
  have fpY : ∀ {H' : Hp} {pl : List (Addr × Obj)},(∀ b ∈ fp,H' b = none) -> (∀ p ∈ pl,p.1 = dd) -> ∀ b ∈ fp,FpOk Y pl H' b := λ hn hp b hb => ⟨hn b hb,(I3.ok.exf b (by rw [hYex]; exact hb)).1,I3.ok.exfs b (by rw [hYex]; exact hb),.inl (by rw [hYex]; exact hb),λ x c e => (hYc x c e).2 b hb,λ p hq => by
    rw [hYpn,List.nil_append] at hq
    rw [hp p hq]
    exact Nat.ne_of_gt (by rw [<- hD]; exact hlt b hb)⟩
  have I4 : L2.Inv Y [(dd,lstO [])] σ0 H2 { s2 with heap := pushCells ((s2.heap.push { cls := .type "list",dict := none,data := .seq ([] : List Value).toArray }).push { cls := .type "dict",data := .dict #[] }) scope.names,toks := s2.toks } := I3.pins_of λ p hp => by
    rw [List.mem_singleton.mp hp]
    exact ⟨hD1,hHD,hDC,hDfs,λ v z => by cases z⟩
  have st4 : tn 0 (pushCells ((s2.heap.push { cls := .type "list",dict := none,data := .seq ([] : List Value).toArray }).push { cls := .type "dict",data := .dict #[] }) scope.names) := T.keep 0 _ _ st2 λ b hb o e => pushCells_keeps _ _ b o (Heap.get?_push_of_some _ (Heap.get?_push_of_some _ e))
  have hYp : Y.prog = X.prog := by rw [<- hY]; rfl
  have hYw : Y.w = X.w := by rw [<- hY]; rfl
  have hYK : Y.K = X.K := by rw [<- hY]; rfl
  have hYA : Y.A = X.A := by rw [<- hY]; rfl
  have hYcm : Y.calm = true := by rw [<- hY]; exact hc
  have loop : ∀ s3 : Shared,s3 = { s2 with heap := pushCells ((s2.heap.push { cls := .type "list",dict := none,data := .seq ([] : List Value).toArray }).push { cls := .type "dict",data := .dict #[] }) scope.names } ->
      codeAny (model X.prog X.w) X.A (.compLoop (.ListComp elt [⟨tg,iter,ifs,0⟩] scope pos) 0 (.ref it) (.ref dd) Y.env) (compPost (model X.prog X.w) X.A X.xe use Q (.ref dd) (dd + 1)) s3 := by
    rintro s3 rfl
    refine compLoop_any (λ n s' => ∃ (i : Nat) (G' : Wd) (σ' : L2.St) (H' : Hp) (vs : List V) (its : List Value),n = xs.length - i /\ i <= xs.length /\ L2.Inv Y [(dd,lstO its)] σ' H' s' /\ tn i s'.heap /\ (∀ b ∈ fp,H' b = none) /\ Ext G2 G' /\ SA X.K G' H' O /\ EnvR X.K G' σ' ρ0 /\
      Iss X.K G' ((zs.take i).filterMap id) vs /\ Vals vs its /\ its.length <= i) ?_ xs.length _ ⟨0,G2,σ0,H2,[],[],rfl,Nat.zero_le _,I4,st4,λ b hb => (f2 b hb).1,Ext.refl _,sa2,en0,.nil,.nil,Nat.le_refl _⟩
    rintro n s5 F ⟨i,G5,σ5,H5,vs,its,rfl,hil,I5,st5,fr5,e5,sa5,en5,is5,va5,hl5⟩
    by_cases hlt5 : i < xs.length
    · have hx : xs[i]? = some xs[i] := List.getElem?_eq_getElem hlt5
      have hzi : i < zs.length := by omega
      have hz : zs[i]? = some zs[i] := List.getElem?_eq_getElem hzi
      generalize xs[i] = x at hx
      generalize zs[i] = z at hz
      have it5 := T.item Y hYp hYw hYK hYcm i [(dd,lstO its)] s5 σ5 H5 F I5 (fpY fr5 (λ p hp => by rw [List.mem_singleton.mp hp])) st5 (Yi.go i H5 (e5.g.trans sa5.sub) hlt5)
      rw [hYA] at it5
      refine thn it5 λ r s6 ⟨u,hr,h6⟩ => ?_
      subst hr
      refine thn h6 λ _ s7 ⟨xv,H7,I7,r7,y7,st7,fr7⟩ => ?_
      obtain ⟨x',G7,hx',e7,sa7,ix⟩ := Yi.yld i xv H5 H7 G5 O e5 sa5 y7 hlt5
      have : x' = x := Option.some.inj (hx'.symm.trans hx)
      subst this
      have I7' := I7.pinned (fpY fr7 (λ p hp => by rw [List.mem_singleton.mp hp])) (T.obj _ _ st7)
      obtain ⟨ρ1,tg1,hl1,hs1,kp1⟩ := turn s2 H2 fp i x' z hx hz
      rw [hY] at tg1 kp1
      have xeF : ∀ {α : Type} {t : Sem α} {P : α -> Shared -> Prop} {q : Shared},wpAny (model Y.prog Y.w) Y.A t P Y.xe q -> wpAny (model X.prog X.w) X.A t P F q := λ h => by
        rw [hYp,hYw,hYA,hYxe] at h
        exact wpAny_mono h (λ _ _ q => q) λ _ _ q => q.elim
      refine thn (xeF (tg1 G7 _ s7 σ5 H7 xv u (λ σ' H' => EnvR X.K G7 σ' ρ1 /\ H' = H7) I7' r7 (by
        rw [hYK]
        exact ⟨ix,sa7.sub,en5.ext e7,λ σ' q => ⟨q,rfl⟩⟩))) λ _ s8 ⟨σ8,H8,I8,en8,hH8⟩ => ?_
      subst hH8
      -- back to the invariant,with or without one more
      have again : ∀ {s9 : Shared} {H9 : Hp} {G9 : Wd} {its' : List Value} {vs' : List V},L2.Inv Y ((dd,lstO its') :: Q3j fp s7.heap) σ8 H9 s9 -> Ext G7 G9 -> SA X.K G9 H9 O -> Iss X.K G9 ((zs.take (i + 1)).filterMap id) vs' -> Vals vs' its' -> its'.length <= i + 1 ->
          ∃ m,m < xs.length - i /\ ∃ (i : Nat) (G' : Wd) (σ' : L2.St) (H' : Hp) (vs : List V) (its : List Value),m = xs.length - i /\ i <= xs.length /\ L2.Inv Y [(dd,lstO its)] σ' H' s9 /\ tn i s9.heap /\ (∀ b ∈ fp,H' b = none) /\ Ext G2 G' /\ SA X.K G' H' O /\ EnvR X.K G' σ' ρ0 /\
            Iss X.K G' ((zs.take i).filterMap id) vs /\ Vals vs its /\ its.length <= i := λ {s9 H9 G9 its' vs'} I9 e9 sa9 is9 va9 hl9 => by
        refine ⟨xs.length - (i + 1),by omega,i + 1,G9,σ8,H9,vs',its',rfl,hlt5,I9.pins_of (λ p hp => I9.pin p (by rw [hYpn,List.nil_append]; rw [List.mem_singleton.mp hp]; exact List.mem_cons_self)),T.keep _ _ _ st7 λ b hb o e => (I9.pin (b,o) (by rw [hYpn,List.nil_append]; exact List.mem_cons_of_mem _ (Q2L hb e))).1,λ b hb => ?_,(e5.trans e7).trans e9,sa9,(en8.weak hl1.symm hs1).ext e9,is9,va9,hl9⟩
        obtain ⟨o,e,_⟩ := T.obj _ _ st7 b hb
        exact (I9.pin (b,o) (by rw [hYpn,List.nil_append]; exact List.mem_cons_of_mem _ (Q2L hb e))).2.1
      have more : ∀ {y : D} {s9 : Shared} {G9 : Wd} {H9 : Hp},z = some y -> L2.Inv Y ([(dd,lstO its)] ++ Q3j fp s7.heap) σ8 H9 s9 -> Ext G7 G9 -> SA X.K G9 H9 O -> EvP Y ρ1 O elt y -> wpAny (model X.prog X.w) X.A (eval elt Y.env) (λ x s5 => wpAny (model X.prog X.w) X.A (call (.builtin "list.append") [.ref dd,x]) (λ _ s6 => ∃ m,m < xs.length - i /\ ∃ (i : Nat) (G' : Wd) (σ' : L2.St) (H' : Hp) (vs : List V) (its : List Value),m = xs.length - i /\ i <= xs.length /\ L2.Inv Y [(dd,lstO its)] σ' H' s6 /\ tn i s6.heap /\ (∀ b ∈ fp,H' b = none) /\ Ext G2 G' /\ SA X.K G' H' O /\ EnvR X.K G' σ' ρ0 /\
            Iss X.K G' ((zs.take i).filterMap id) vs /\ Vals vs its /\ its.length <= i) F s5) F s9 := λ {y s9 G9 H9} hzy I9 e9 sa9 ev => by
        refine thn (xeF (ev G9 _ s9 σ8 H9 (λ v H' => ∃ G',Ext G9 G' /\ SA X.K G' H' O /\ Is X.K G' y v) I9 (by
          rw [hYK]
          exact ⟨sa9,en8.ext e9,λ v G' H' q1 q2 q3 => ⟨G',q1,q2,q3⟩⟩))) λ uy s10 ⟨vy,H10,I10,r10,G10,e10,sa10,iy⟩ => ?_
        have p10 := I10.pin (dd,lstO its) (by rw [hYpn,List.nil_append]; exact List.mem_append_left _ List.mem_cons_self)
        refine append_at (hsz := by show its.toArray.size <= sizeLine; rw [List.size_toArray]; omega) p10.1 λ h' hs' hD' => ?_
        have Ia : L2.Inv Y (Q3j fp s7.heap) σ8 H10 s10 := I10.pins_of λ p hp => I10.pin p (by rw [hYpn,List.nil_append]; exact List.mem_append_right _ hp)
        have Ib : L2.Inv Y (Q3j fp s7.heap) σ8 H10 { s10 with heap := h' } := Ia.turned (t' := s10.toks) (λ b o hb e => (hs'.2 b hb).trans e) p10.2.1 hDC (.inr (by rw [hYs]; exact Nat.le_refl _)) (λ x c e => (hYc x c e).1) (λ p hp => by
          rw [hYpn,List.nil_append] at hp
          obtain ⟨hb,_⟩ := of_pinsAt hp
          exact Nat.ne_of_lt (by rw [<- hD]; exact hlt p.1 hb))
        have Ic : L2.Inv Y ((dd,lstO (its ++ [uy])) :: Q3j fp s7.heap) σ8 H10 { s10 with heap := h' } := Ib.pins_of λ p hp => by
          rcases List.mem_cons.mp hp with q | q
          · rw [q]
            refine ⟨hD'.trans ?_,p10.2.1,hDC,hDfs,λ v z => by cases z⟩
            congr 1
            simp [lstO]
          · exact Ib.pin p (by rw [hYpn,List.nil_append]; exact q)
        refine again Ic (e9.trans e10) sa10 (vs' := vs ++ [vy]) ?_ (va5.append (.cons r10 .nil)) (by rw [List.length_append,List.length_singleton]; omega)
        rw [fm_take zs i z hz,hzy]
        exact (is5.ext ((e7.trans e9).trans e10)).append (.cons iy .nil)
      match ifs,kp1 with
      | [],kp1 =>
        obtain ⟨y,hzy,ev⟩ := kp1
        unfold compTests
        refine wpAny_bind (wpAny_tests_nil (wpAny_pure ?_))
        simp only [if_true]
        exact more hzy I8 (Ext.refl _) sa7 ev
      | [c],kp1 =>
        obtain ⟨k,tc,ht,hff⟩ := kp1
        unfold compTests
        refine wpAny_bind (wpAny_tests_one (thn (xeF (tc G7 _ s8 σ8 H8 (λ b H' => b = k /\ ∃ G',Ext G7 G' /\ SA X.K G' H' O) I8 (by
          rw [hYK]
          exact ⟨sa7,en8,λ G' H' q1 q2 => ⟨rfl,G',q1,q2⟩⟩))) λ b s9 ⟨H9,I9,hb,G9,e9,sa9⟩ => wpAny_pure ?_))
        subst hb
        cases b with
        | true =>
          obtain ⟨y,hzy,ev⟩ := ht rfl
          simp only [if_true]
          exact more hzy I9 e9 sa9 ev
        | false =>
          simp only [Bool.false_eq_true,if_false]
          refine again I9 e9 sa9 (vs' := vs) ?_ va5 (Nat.le_succ_of_le hl5)
          rw [fm_take zs i z hz,hff rfl]
          simpa using is5.ext (e7.trans e9)
      | _ :: _ :: _,kp1 => exact kp1.elim
    · have hie : i = xs.length := by omega
      subst hie
      have dn := T.done Y hYp hYw hYK hYcm xs.length [(dd,lstO its)] s5 σ5 H5 F I5 (fpY fr5 (λ p hp => by rw [List.mem_singleton.mp hp])) st5 (Yi.stop _ H5 (e5.g.trans sa5.sub) (Nat.le_refl _))
      rw [hYA] at dn
      refine thn dn λ r s6 ⟨hr,I6⟩ => ?_
      subst hr
      have p6 := I6.pin (dd,lstO its) (by rw [hYpn,List.nil_append]; exact List.mem_cons_self)
      rw [<- hzl,List.take_length] at is5
      have vl : vs.length <= sizeLine := by rw [va5.length]; omega
      have Ix : L2.Inv X pins σ (upd H5 dd (.lst vs)) s6 := by
        have un := I6.base
        rw [hYfs,hYex,<- hY] at un
        have un : Un (frs X.stack) fp H2 H5 s2.heap s6.heap := un
        refine I2.call' (ch := fp) (I6.os.trans (by rw [<- hY]; rfl)) (Un_more un hHD hsD) ?_ I6.bare λ b hb => ?_
        · have hk6 := I6.hok
          rw [hYp,hYw] at hk6
          exact HOk_more hk6 p6.2.1 ⟨vl,its,its.length,va5,p6.1⟩
        · obtain ⟨_,f1,_,f3,f4,f5⟩ := f2 b hb
          exact ⟨f3,f1,f4,f5⟩
      obtain ⟨ed,sd⟩ := sa5.laid (p := dd) (o := .lst vs) p6.2.1
      refine fin dd (dd + 1) s6 _ _ Ix ((e2.trans e5).trans ed) sd (.lst Q0h (is5.ext ed)) ?_ ?_
      · have hC : dd + 1 = Y.env.locals := by rw [<- hY]; show dd + 1 = s2.heap.objs.size + 1; rw [hD]
        have ge : s2.heap.objs.size <= dd + 1 := by rw [hD]; exact Nat.le_succ _
        have := I2.fpOk (H' := upd H5 dd (.lst vs)) ge (by
          have q := I6.free
          rw [<- hC] at q
          rw [Q0i (show dd + 1 ≠ dd from Nat.succ_ne_self _)]
          exact q)
        exact this
      · obtain ⟨m,hn,_⟩ := I6.loc
        rw [<- hY] at hn
        have hn : s6.heap.Ns (s2.heap.objs.size + 1) m := hn
        rw [hD] at hn
        exact ⟨m,hn⟩
  have eY : Y.env = { scope := relabel scope X.env,locals := dd + 1,globals := X.env.globals,cells := cellsFrom (dd + 1 + 1) scope.names (Q1I X.env scope.names []),qual := X.env.qual,func := none,code := X.env.code,frame := X.env.frame,builtins := X.env.builtins } := by
    rw [<- hY]
    show compEnvC _ _ _ _ = _
    rw [hD]
    rfl
  rw [<- eY]
  exact codeAny_compStart_list (loop _ rfl) (T.self X.A 0 _ _ _ st4 (loop _ rfl))
def freeB (XN : List Str) (xs cs : List (Str × NameKind)) (F : List Str) (js : List Nat) : Bool :=
 (js.map λ j => XN[j]?) == F.map some && (F.all λ x => cs.lookup x == some .free && (cs.all λ y => y.1 != x || y.2 != .cell) && (xs.lookup x == some .cell || xs.lookup x == some .free)) &&
 (cs.all λ y => (y.2 != .free || xs.lookup y.1 == some .cell || xs.lookup y.1 == some .free) && (y.2 != .local || cs.lookup y.1 == some .local))
def frOf (ρ : Rho) (js : List Nat) : Rho := js.map λ j => (ρ[j]?).getD none
theorem freeB_free {F : List Str} {js : List Nat} (h : freeB X.N X.env.scope.names scope.names F js = true) : FreeOk X scope := λ y hy e => by
 unfold freeB at h
 simp only [Bool.and_eq_true,List.all_eq_true] at h
 have q := (h.2 y hy).1
 rw [e] at q
 have q : (X.env.scope.names.lookup y.1 == some .cell || X.env.scope.names.lookup y.1 == some .free) = true := by simpa using q
 rcases (Bool.or_eq_true _ _).mp q with q | q
 ·exact .inl (show X.env.scope.names.lookup y.1 = _ by simpa using q)
 ·exact .inr (show X.env.scope.names.lookup y.1 = _ by simpa using q)
theorem freeB_loc {F : List Str} {js : List Nat} (h : freeB X.N X.env.scope.names scope.names F js = true) : ∀ x ∈ scope.names,x.2 = .local -> scope.names.lookup x.1 = some .local := λ y hy e => by
 unfold freeB at h
 simp only [Bool.and_eq_true,List.all_eq_true] at h
 have q := (h.2 y hy).2
 rw [e] at q
 simpa using q
theorem freeB_at {T F : List Str} {js : List Nat} (h : freeB X.N X.env.scope.names scope.names F js = true) (i : Nat) (d : D) (e : (T.map (λ _ => (none : Option D)) ++ frOf ρ js)[i]? = some (some d)) :
  ∃ (x : Str) (j : Nat),(T ++ F)[i]? = some x /\ scope.names.lookup x = some .free /\ (∀ y ∈ scope.names,y.1 = x -> y.2 ≠ .cell) /\ X.N[j]? = some x /\ ρ[j]? = some (some d) /\ Vis X.env.scope x := by
 unfold freeB at h
 simp only [Bool.and_eq_true,List.all_eq_true,beq_iff_eq] at h
 obtain ⟨⟨h1,h2⟩,h3⟩ := h
 by_cases hi : i < T.length
 ·rw [List.getElem?_append_left (by simpa using hi),List.getElem?_map] at e
  cases q : T[i]? with
  | none => rw [q] at e; cases e
  | some _ => rw [q] at e; cases e
 ·rw [List.getElem?_append_right (by simpa using hi),List.length_map] at e
  unfold frOf at e
  rw [List.getElem?_map] at e
  cases q : js[i - T.length]? with
  | none => rw [q] at e; cases e
  | some j =>
   rw [q] at e
   have e : (ρ[j]?).getD none = some d := Option.some.inj e
   have hρ : ρ[j]? = some (some d) := by
    cases q2 : ρ[j]? with
    | none => rw [q2] at e; cases e
    | some o => rw [q2] at e; rw [show o = some d from e]
   have hF := congrArg (λ l => l[i - T.length]?) h1
   simp only [List.getElem?_map,q,Option.map_some] at hF
   cases qF : F[i - T.length]? with
   | none => rw [qF] at hF; cases hF
   | some x =>
    rw [qF] at hF
    have hF : X.N[j]? = some x := Option.some.inj hF
    obtain ⟨⟨g1,g2⟩,g3⟩ := h2 x (List.mem_of_getElem? qF)
    refine ⟨x,j,by rw [List.getElem?_append_right (by omega)]; exact qF,g1,λ y hy ey => ?_,hF,hρ,?_⟩
    ·have := g2 y hy
     rw [ey] at this
     simpa using this
    ·rcases (Bool.or_eq_true _ _).mp g3 with g | g
     ·exact .inr (.inl (by simpa using g))
     ·exact .inr (.inr (by simpa using g))
theorem sub_fr {ts fr : Rho} {T : List Str} (h : ts.length = T.length) : (ts ++ fr).length = (T.map (λ _ => (none : Option D)) ++ fr).length /\ ∀ (j : Nat) (d : D),(T.map (λ _ => (none : Option D)) ++ fr)[j]? = some (some d) -> (ts ++ fr)[j]? = some (some d) := by
 refine ⟨by simp [h],λ j d e => ?_⟩
 by_cases hj : j < T.length
 ·rw [List.getElem?_append_left (by simpa using hj),List.getElem?_map] at e
  cases q : T[j]? with
  | none => rw [q] at e; cases e
  | some _ => rw [q] at e; cases e
 ·rw [List.getElem?_append_right (by simpa using hj),List.length_map] at e
  rw [List.getElem?_append_right (by omega),h]
  exact e
def CTurn (X : Cx) (T F : List Str) (js : List Nat) (ρ : Rho) (O : Sto) (scope : Scope) (tg elt : Expr) (ifs : List Expr) (x : D) (z : Option D) : Prop :=
 ∀ (s : Shared) (H : Hp) (fp : List Addr),∃ ts : Rho,ts.length = T.length /\ Tg (cxC X (T ++ F) scope s H fp) tg x (T.map (λ _ => (none : Option D)) ++ frOf ρ js) (ts ++ frOf ρ js) /\ Kept (cxC X (T ++ F) scope s H fp) (ts ++ frOf ρ js) O elt ifs z
theorem ev_compZ (T F : List Str) (js : List Nat) (hi : EvI X ρ O tg iter xs) (hzl : zs.length = xs.length) (hsz : xs.length <= sizeLine) (turn : ∀ (i : Nat) (x : D) (z : Option D),xs[i]? = some x -> zs[i]? = some z -> CTurn X T F js ρ O scope tg elt ifs x z)
  (hfl : F.length = js.length) (hB : freeB X.N X.env.scope.names scope.names F js = true) (hc : X.calm = true) (hk : scope.kind = .function) (hs : ∀ x,foldedSetIterable iter X.env x = pure x) :
  EvP X ρ O (.ListComp elt [⟨tg,iter,ifs,0⟩] scope pos) (.lst (zs.filterMap id)) := λ G pins s σ H Q I ⟨h1,h2,h3⟩ => by
 rw [eval_ListComp]
 refine comp_core (T ++ F) js (T.map (λ _ => (none : Option D)) ++ frOf ρ js) hi hc hk (freeB_free hB) (freeB_loc hB) (by simp [frOf,hfl]) (freeB_at hB) hzl hsz (λ s H fp i x z q1 q2 => ?_) I h1 h2 (λ dd C s' H' G' I' e' sa' is' fo ns => ?_) hs
 ·obtain ⟨ts,t1,t2,t3⟩ := turn i x z q1 q2 s H fp
  obtain ⟨u1,u2⟩ := sub_fr (fr := frOf ρ js) t1
  exact ⟨_,t2,u1,u2,t3⟩
 ·obtain ⟨m,hn⟩ := ns
  refine ⟨m,hn,λ h' hs' => ?_⟩
  obtain ⟨f0,f1,f2,f3,f4,f5⟩ := fo
  exact ⟨.ref dd,H',I'.turned (t' := s'.toks) (λ b o hb e => (hs'.2 b hb).trans e) f0 f1 f3 f4 f5,rfl,h3 _ G' H' e' sa' is'⟩
end
end DL
namespace DL
open PySem PySem.Spec PyProof.Rows L2 PySem.W
def kRun {α : Type} (lt : Nat -> Nat -> Bool) : KasT α -> α
 | .ret a => a
 | .ask i j k => kRun lt (k (lt i j))
theorem Q1H {α β : Type} (lt : Nat -> Nat -> Bool) (f : α -> KasT β) : ∀ t : KasT α,kRun lt (t.bind f) = kRun lt (f (kRun lt t))
 | .ret _ => rfl
 | .ask i j k => Q1H lt f (k (lt i j))
section
variable (key : Nat -> Int)
abbrev ltK (i j : Nat) : Bool := decide (key i < key j)
def KQ (p : Array Nat) (i : Nat) : Int := key (p.getD i 0)
theorem asc_ok (p : Array Nat) : ∀ (f n : Nat),∃ m,kRun (ltK key) (kas_asc p f n) = m /\ n <= m /\ m <= n + f /\ (∀ k,n <= k -> k < m -> KQ key p (k - 1) <= KQ key p k) /\ (m = n + f \/ KQ key p m < KQ key p (m - 1))
 | 0,n => ⟨n,rfl,Nat.le_refl _,Nat.le_refl _,λ k h1 h2 => by omega,.inl rfl⟩
 | f + 1,n => by
  by_cases h : KQ key p n < KQ key p (n - 1)
  ·refine ⟨n,?_,Nat.le_refl _,by omega,λ k h1 h2 => by omega,.inr h⟩
   show kRun _ (if ltK key _ _ = true then _ else _) = _
   rw [if_pos (decide_eq_true (show key (p.getD n 0) < key (p.getD (n - 1) 0) from h))]
   rfl
  ·obtain ⟨m,e,h1,h2,h3,h4⟩ := asc_ok p f (n + 1)
   refine ⟨m,?_,by omega,by omega,λ k g1 g2 => ?_,by rcases h4 with h4 | h4; exact .inl (by omega); exact .inr h4⟩
   ·show kRun _ (if ltK key _ _ = true then _ else _) = _
    rw [if_neg (by simpa [ltK] using (show ¬ key (p.getD n 0) < key (p.getD (n - 1) 0) from h))]
    exact e
   ·by_cases hk : k = n
    ·subst hk; exact Int.not_lt.mp h
    ·exact h3 k (by omega) g2
theorem Q2h {p : Array Nat} {i : Nat} : p.getD i 0 = (p[i]?).getD 0 := by
 by_cases h : i < p.size
 ·simp [Array.getD,h]
 ·simp [Array.getD,h]
theorem KQ_rev {p : Array Nat} {i j : Nat} (hj : j <= p.size) (k : Nat) : KQ key (kas_rev p i j) k = if i <= k /\ k < j then KQ key p (i + j - 1 - k) else KQ key p k := by
 unfold KQ kas_rev
 rw [Q2h,getElem?_mirror_all hj k]
 split
 ·rw [Q2h]
 ·rw [Q2h]
theorem KQ_revE {p : Array Nat} {i j : Nat} (hj : j <= p.size) (h : ∀ k,i <= k -> k < j -> KQ key p k = KQ key p (j - 1)) (k : Nat) : KQ key (kas_rev p i j) k = KQ key p k := by
 rw [KQ_rev key hj k]
 split
 ·next hk => rw [h k hk.1 hk.2,h _ (by omega) (by omega)]
 ·rfl
theorem desc_ok : ∀ (f : Nat) (p : Array Nat) (n q : Nat),q + 1 <= n -> n + f <= p.size -> (∀ i j,i <= j -> j < n -> KQ key p j <= KQ key p i) -> (∀ k,n - (q + 1) <= k -> k < n -> KQ key p k = KQ key p (n - 1)) ->
  ∃ p' n' q',kRun (ltK key) (kas_desc f p n q) = (p',n',q') /\ n <= n' /\ n' <= n + f /\ q' + 1 <= n' /\ p'.Perm p /\ p'.size = p.size /\ (∀ i j,i <= j -> j < n' -> KQ key p' j <= KQ key p' i) /\ (∀ k,n' - (q' + 1) <= k -> k < n' -> KQ key p' k = KQ key p' (n' - 1))
 | 0,p,n,q,h1,h2,h3,h4 => ⟨p,n,q,rfl,Nat.le_refl _,Nat.le_refl _,h1,Array.Perm.refl _,rfl,h3,h4⟩
 | f + 1,p,n,q,h1,h2,h3,h4 => by
  by_cases h : KQ key p n < KQ key p (n - 1)
  ·have step : ∀ p2 : Array Nat,p2.Perm p -> p2.size = p.size -> (∀ k,KQ key p2 k = KQ key p k) -> (∀ i j,i <= j -> j < n + 1 -> KQ key p2 j <= KQ key p2 i) := λ p2 _ _ e i j hij hj => by
    rw [e,e]
    by_cases hjn : j = n
    ·subst hjn
     by_cases hin : i = j
     ·subst hin; exact Int.le_refl _
     ·have := h3 i (j - 1) (by omega) (by omega); omega
    ·exact h3 i j hij (by omega)
   by_cases hq : q > 0
   ·have hE : ∀ k,KQ key (kas_rev p (n - (q + 1)) n) k = KQ key p k := KQ_revE key (by omega) h4
    obtain ⟨p',n',q',e,g⟩ := desc_ok f (kas_rev p (n - (q + 1)) n) (n + 1) 0 (by omega) (by rw [kas_rev_size]; omega) (step _ (mirror_perm _ _ _ _) (kas_rev_size _ _) hE) (λ k k1 k2 => by rw [show k = n + 1 - 1 by omega])
    refine ⟨p',n',q',?_,by omega,by omega,g.2.2.1,g.2.2.2.1.trans (mirror_perm _ _ _ _),g.2.2.2.2.1.trans (kas_rev_size _ _),g.2.2.2.2.2⟩
    show kRun _ (if ltK key _ _ = true then _ else _) = _
    rw [if_pos (decide_eq_true (show key (p.getD n 0) < key (p.getD (n - 1) 0) from h)),if_pos hq]
    exact e
   ·obtain ⟨p',n',q',e,g⟩ := desc_ok f p (n + 1) 0 (by omega) (by omega) (step _ (Array.Perm.refl _) rfl λ _ => rfl) (λ k k1 k2 => by rw [show k = n + 1 - 1 by omega])
    refine ⟨p',n',q',?_,by omega,by omega,g.2.2⟩
    show kRun _ (if ltK key _ _ = true then _ else _) = _
    rw [if_pos (decide_eq_true (show key (p.getD n 0) < key (p.getD (n - 1) 0) from h)),if_neg hq]
    exact e
  ·by_cases h' : KQ key p (n - 1) < KQ key p n
   ·refine ⟨p,n,q,?_,Nat.le_refl _,by omega,h1,Array.Perm.refl _,rfl,h3,h4⟩
    show kRun _ (if ltK key _ _ = true then _ else _) = _
    rw [if_neg (by simpa [ltK] using (show ¬ key (p.getD n 0) < key (p.getD (n - 1) 0) from h))]
    show kRun _ (if ltK key _ _ = true then _ else _) = _
    rw [if_pos (decide_eq_true (show key (p.getD (n - 1) 0) < key (p.getD n 0) from h'))]
    rfl
   ·have he : KQ key p n = KQ key p (n - 1) := by omega
    obtain ⟨p',n',q',e,g⟩ := desc_ok f p (n + 1) (q + 1) (by omega) (by omega) (λ i j hij hj => by
     by_cases hjn : j = n
     ·subst hjn
      by_cases hin : i = j
      ·subst hin; exact Int.le_refl _
      ·have := h3 i (j - 1) (by omega) (by omega); omega
     ·exact h3 i j hij (by omega)) (λ k k1 k2 => by
     show _ = KQ key p n
     by_cases hkn : k = n
     ·subst hkn; rfl
     ·rw [h4 k (by omega) (by omega),he])
    refine ⟨p',n',q',?_,by omega,by omega,g.2.2⟩
    show kRun _ (if ltK key _ _ = true then _ else _) = _
    rw [if_neg (by simpa [ltK] using (show ¬ key (p.getD n 0) < key (p.getD (n - 1) 0) from h))]
    show kRun _ (if ltK key _ _ = true then _ else _) = _
    rw [if_neg (by simpa [ltK] using (show ¬ key (p.getD (n - 1) 0) < key (p.getD n 0) from h'))]
    exact e
def Srt (p : Array Nat) (m : Nat) : Prop := ∀ i j,i <= j -> j < m -> KQ key p i <= KQ key p j
theorem srt_adj {p : Array Nat} {m : Nat} (h : ∀ k,1 <= k -> k < m -> KQ key p (k - 1) <= KQ key p k) : Srt key p m := by
  intro i j hij hj
  induction j with
  | zero => have : i = 0 := by omega
            subst this; exact Int.le_refl _
  | succ j ih =>
    by_cases e : i = j + 1
    · subst e; exact Int.le_refl _
    · exact Int.le_trans (ih (by omega) (by omega)) (h (j + 1) (by omega) hj)
theorem tail3_ok {n nrem : Nat} {p : Array Nat} (h1 : 1 <= n) (hn : n <= nrem) (hz : nrem <= p.size) (h3 : ∀ i j,i <= j -> j < n -> KQ key p j <= KQ key p i) : ∃ m p',kRun (ltK key) (kas_tail3 n nrem p) = (m,p') /\ 1 <= m /\ m <= nrem /\ p'.Perm p /\ p'.size = p.size /\ Srt key p' m := by
 obtain ⟨m,e,g1,g2,g3,g4⟩ := asc_ok key (kas_rev p 0 n) (nrem - n) n
 refine ⟨m,kas_rev p 0 n,?_,by omega,by omega,mirror_perm _ _ _ _,kas_rev_size _ _,srt_adj key λ k k1 k2 => ?_⟩
 ·unfold kas_tail3
  rw [Q1H,e]
  rfl
 ·by_cases hk : n <= k
  ·exact g3 k hk k2
  ·rw [KQ_rev key (by omega),KQ_rev key (by omega),if_pos (by omega),if_pos (by omega)]
   exact h3 _ _ (by omega) (by omega)
theorem descPart_ok {n nrem : Nat} {p : Array Nat} (h1 : 1 <= n) (hn : n + 1 <= nrem) (hz : nrem <= p.size) (h3 : ∀ i j,i <= j -> j < n + 1 -> KQ key p j <= KQ key p i) : ∃ m p',kRun (ltK key) (kas_descPart n nrem p) = (m,p') /\ 1 <= m /\ m <= nrem /\ p'.Perm p /\ p'.size = p.size /\ Srt key p' m := by
 obtain ⟨p1,n1,q1,e,g1,g2,g3,g4,g5,g6,g7⟩ := desc_ok key (nrem - (n + 1)) p (n + 1) 0 (by omega) (by omega) h3 (λ k k1 k2 => by rw [show k = n + 1 - 1 by omega])
 unfold kas_descPart
 rw [Q1H,e]
 by_cases hq : q1 > 0
 ·have hE : ∀ k,KQ key (kas_rev p1 (n1 - (q1 + 1)) n1) k = KQ key p1 k := KQ_revE key (by omega) g7
  obtain ⟨m,p',e',k1,k2,k3,k4,k5⟩ := tail3_ok key (n := n1) (nrem := nrem) (p := kas_rev p1 (n1 - (q1 + 1)) n1) (by omega) (by omega) (by rw [kas_rev_size]; omega) (λ i j hij hj => by rw [hE,hE]; exact g6 i j hij hj)
  refine ⟨m,p',?_,k1,k2,k3.trans ((mirror_perm _ _ _ _).trans g4),k4.trans ((kas_rev_size _ _).trans g5),k5⟩
  show kRun _ (if q1 > 0 then _ else _) = _
  rw [if_pos hq]
  exact e'
 ·obtain ⟨m,p',e',k1,k2,k3,k4,k5⟩ := tail3_ok key (n := n1) (nrem := nrem) (p := p1) (by omega) (by omega) (by omega) g6
  refine ⟨m,p',?_,k1,k2,k3.trans g4,k4.trans g5,k5⟩
  show kRun _ (if q1 > 0 then _ else _) = _
  rw [if_neg hq]
  exact e'
theorem count_ok {nrem : Nat} {p : Array Nat} (h1 : 1 <= nrem) (hz : nrem <= p.size) : ∃ m p',kRun (ltK key) (kas_count nrem p) = (m,p') /\ 1 <= m /\ m <= nrem /\ p'.Perm p /\ p'.size = p.size /\ Srt key p' m := by
 obtain ⟨n,e,g1,g2,g3,g4⟩ := asc_ok key p (nrem - 1) 1
 have hs : Srt key p n := srt_adj key λ k k1 k2 => g3 k k1 k2
 unfold kas_count
 rw [Q1H,e]
 by_cases hn : n = nrem
 ·refine ⟨n,p,?_,g1,by omega,Array.Perm.refl _,rfl,hs⟩
  rw [if_pos (by simpa using hn)]
  rfl
 ·rw [if_neg (by simpa using hn)]
  have hlt : KQ key p n < KQ key p (n - 1) := by
   rcases g4 with g4 | g4
   ·omega
   ·exact g4
  by_cases hn1 : n > 1
  ·rw [if_pos hn1]
   by_cases hr : KQ key p 0 < KQ key p (n - 1)
   ·refine ⟨n,p,?_,g1,by omega,Array.Perm.refl _,rfl,hs⟩
    show kRun _ (if ltK key _ _ = true then _ else _) = _
    rw [if_pos (decide_eq_true (show key (p.getD 0 0) < key (p.getD (n - 1) 0) from hr))]
    rfl
   ·have heq : ∀ k,0 <= k -> k < n -> KQ key p k = KQ key p (n - 1) := λ k _ hk => by
     have a := hs 0 k (by omega) hk
     have b := hs k (n - 1) (by omega) (by omega)
     omega
    have hE := KQ_revE key (p := p) (i := 0) (j := n) (by omega) heq
    obtain ⟨m,p',e',k1,k2,k3,k4,k5⟩ := descPart_ok key (n := n) (nrem := nrem) (p := kas_rev p 0 n) (by omega) (by omega) (by rw [kas_rev_size]; exact hz) (λ i j hij hj => by
     rw [hE,hE]
     by_cases hjn : j = n
     ·subst hjn
      by_cases hin : i = j
      ·subst hin; exact Int.le_refl _
      ·rw [heq i (by omega) (by omega)]; omega
     ·rw [heq i (by omega) (by omega),heq j (by omega) (by omega)]
      exact Int.le_refl _)
    refine ⟨m,p',?_,k1,k2,k3.trans (mirror_perm _ _ _ _),k4.trans (kas_rev_size _ _),k5⟩
    show kRun _ (if ltK key _ _ = true then _ else _) = _
    rw [if_neg (by simpa [ltK] using (show ¬ key (p.getD 0 0) < key (p.getD (n - 1) 0) from hr))]
    exact e'
  ·rw [if_neg hn1]
   obtain rfl : n = 1 := by omega
   exact descPart_ok key (by omega) (by omega) hz (λ i j hij hj => by
    by_cases hj1 : j = 1
    ·subst hj1
     by_cases hi1 : i = 1
     ·subst hi1; exact Int.le_refl _
     ·obtain rfl : i = 0 := by omega
      exact Int.le_of_lt hlt
    ·obtain rfl : j = 0 := by omega
     obtain rfl : i = 0 := by omega
     exact Int.le_refl _)
theorem place_ok (p : Array Nat) (k : Nat) (hs : Srt key p k) : ∀ (f l r : Nat),l <= r -> r <= k -> r - l <= f -> (∀ i,i < l -> KQ key p i <= KQ key p k) -> (∀ i,r <= i -> i < k -> KQ key p k < KQ key p i) ->
  ∃ m,kRun (ltK key) (kas_place p k f l r) = m /\ m <= k /\ (∀ i,i < m -> KQ key p i <= KQ key p k) /\ (∀ i,m <= i -> i < k -> KQ key p k < KQ key p i)
 | 0,l,r,h1,h2,h3,h4,h5 => ⟨l,rfl,by omega,h4,λ i g1 g2 => h5 i (by omega) g2⟩
 | f + 1,l,r,h1,h2,h3,h4,h5 => by
  by_cases hlr : l >= r
  ·refine ⟨l,?_,by omega,h4,λ i g1 g2 => h5 i (by omega) g2⟩
   show kRun _ (if l >= r then _ else _) = _
   rw [if_pos hlr]; rfl
  ·by_cases hc : KQ key p k < KQ key p ((l + r) / 2)
   ·obtain ⟨m,e,g1,g2,g3⟩ := place_ok p k hs f l ((l + r) / 2) (by omega) (by omega) (by omega) h4 (λ i i1 i2 => by
     have := hs ((l + r) / 2) i i1 i2; omega)
    refine ⟨m,?_,g1,g2,g3⟩
    show kRun _ (if l >= r then _ else _) = _
    rw [if_neg hlr]
    show kRun _ (if ltK key _ _ = true then _ else _) = _
    rw [if_pos (decide_eq_true (show key (p.getD k 0) < key (p.getD ((l + r) / 2) 0) from hc))]
    exact e
   ·obtain ⟨m,e,g1,g2,g3⟩ := place_ok p k hs f ((l + r) / 2 + 1) r (by omega) h2 (by omega) (λ i i1 => by
     have := hs i ((l + r) / 2) (by omega) (by omega); omega) h5
    refine ⟨m,?_,g1,g2,g3⟩
    show kRun _ (if l >= r then _ else _) = _
    rw [if_neg hlr]
    show kRun _ (if ltK key _ _ = true then _ else _) = _
    rw [if_neg (by simpa [ltK] using (show ¬ key (p.getD k 0) < key (p.getD ((l + r) / 2) 0) from hc))]
    exact e
end
end DL
set_option maxHeartbeats 2000000
namespace DL
open PySem PySem.Spec PyProof.Rows L2 PySem.W
def SIt (k : Bool) (h : Heap) (it l : Addr) (i : Nat) : Prop := if k then h.IsListIter it l i else h.IsTupleIter it l i
def SSq (k : Bool) (h : Heap) (l : Addr) (xs : Array Value) : Prop := if k then h.IsList l xs else h.IsTuple l xs
section
variable {k : Bool} {h h' : Heap} {it l b : Addr} {i : Nat} {xs : Array Value}
theorem SIt.at (q : SIt k h it l i) (e : ∀ o,h.get? it = some o -> h'.get? it = some o) : SIt k h' it l i := by
 cases k with
 | true => obtain ⟨o,g,r⟩ := (q : h.IsListIter it l i); exact ⟨o,e o g,r⟩
 | false => obtain ⟨o,g,r⟩ := (q : h.IsTupleIter it l i); exact ⟨o,e o g,r⟩
theorem SSq.at (q : SSq k h l xs) (e : ∀ o,h.get? l = some o -> h'.get? l = some o) : SSq k h' l xs := by
 cases k with
 | true => obtain ⟨o,g,r⟩ := (q : h.IsList l xs); exact ⟨o,e o g,r⟩
 | false => obtain ⟨o,g,r⟩ := (q : h.IsTuple l xs); exact ⟨o,e o g,r⟩
theorem SIt.obj (q : SIt k h it l i) : ∃ o,h.get? it = some o /\ ∀ v,o.data ≠ .cell v := by
 cases k with
 | true => obtain ⟨o,g,c,d⟩ := (q : h.IsListIter it l i); exact ⟨o,g,λ v z => by rw [d] at z; cases z⟩
 | false => obtain ⟨o,g,c,d⟩ := (q : h.IsTupleIter it l i); exact ⟨o,g,λ v z => by rw [d] at z; cases z⟩
end
theorem drawn_by {prog : Program} {w : World} {A : Around} {E : Value -> Shared -> Prop} {s : Shared} {T id : String} {b : Builtin} {v : Value} {Q : Value -> Shared -> Prop} (hT : s.TypeIs v T) (sl : Slot T (Str.ofString "__next__") id) (en : entryFor table id = some b) (ok : argsOk id ⟨[v],[]⟩)
  (h : wpAny (model prog w) A.in1 (b ⟨[v],[]⟩) (λ fin s' => ∃ x,fin = .done (.ret x) /\ Q x s') E s) : wpAny (model prog w) A (Builtin.SmallTypes.nextOf v) Q E s :=
 wpAny_bind (wpAny_callSpecial?_slot hT sl (wpAny_call_entry sl hT en (wpAny_mono h (λ fin s' ⟨x,e,q⟩ => ⟨x,e,wpAny_pure q⟩) λ _ _ e => e) ok))
section
variable {prog : Program} {w : World} {A : Around} {E : Value -> Shared -> Prop} {s : Shared} {it l : Addr} {i : Nat} {xs : Array Value} {Q : Value -> Shared -> Prop}
theorem tup_item {x : Value} (q : s.heap.IsTupleIter it l i) (t : s.heap.IsTuple l xs) (hx : xs[i]? = some x) (hQ : ∀ h',h'.IsTupleIter it l (i + 1) -> Heap.SameBut it s.heap h' -> Q x { s with heap := h' }) : wpAny (model prog w) A (Builtin.SmallTypes.nextOf (.ref it)) Q E s := by
 refine drawn_by q.typeIs F.slot_tuple_iterator_next F.entry_tuple_iterator_next (F.args_tuple_iterator_next_1 _) ?_
 obtain ⟨h,g,d,tk,os⟩ := s
 obtain ⟨⟨c,dc,da,sl⟩,gi,rfl,rfl⟩ := q
 obtain ⟨⟨c,dc,da,sl⟩,gt,rfl,n,rfl⟩ := t
 dsimp only at gi gt hQ
 wp_walk
 rw [Int.toNat_natCast,hx]
 wp_walk
 exact ⟨x,rfl,hQ _ ⟨_,Heap.get?_update_self _ gi rfl,rfl,by simp [Obj.mapFields,rawInt]⟩ (Heap.SameBut.update ..)⟩
theorem tup_end (hh : A.handled = none) (q : s.heap.IsTupleIter it l i) (t : s.heap.IsTuple l xs) (hx : xs[i]? = none) (hE : ∀ h' e,Heap.ExtBut it s.heap h' -> (∃ o,h'.get? e = some o /\ o.cls = .type "StopIteration") -> E (.ref e) { s with heap := h' }) : wpAny (model prog w) A (Builtin.SmallTypes.nextOf (.ref it)) Q E s := by
 refine drawn_by q.typeIs F.slot_tuple_iterator_next F.entry_tuple_iterator_next (F.args_tuple_iterator_next_1 _) ?_
 obtain ⟨h,g,d,tk,os⟩ := s
 obtain ⟨⟨c,dc,da,sl⟩,gi,rfl,rfl⟩ := q
 obtain ⟨⟨c,dc,da,sl⟩,gt,rfl,n,rfl⟩ := t
 dsimp only at gi gt hE
 have hh1 : A.in1.handled = none := hh
 wp_walk
 rw [Int.toNat_natCast,hx]
 wp_walk
 unfold raiseNew
 wp_walk
 exact hE _ _ (λ b u hb e => Heap.get?_push_of_some _ (Heap.get?_push_of_some _ ((Heap.get?_update_ne _ _ _ _ hb).trans e))) ⟨_,Heap.get?_push_size _ rfl,rfl⟩
theorem sq_item {k : Bool} {x : Value} (q : SIt k s.heap it l i) (t : SSq k s.heap l xs) (hx : xs[i]? = some x) (hQ : ∀ h',SIt k h' it l (i + 1) -> Heap.SameBut it s.heap h' -> Q x { s with heap := h' }) : wpAny (model prog w) A (Builtin.SmallTypes.nextOf (.ref it)) Q E s :=
 match k with
 | true => wpAny_nextOf_list_item q t hx hQ
 | false => tup_item q t hx hQ
theorem sq_end {k : Bool} (hh : A.handled = none) (q : SIt k s.heap it l i) (t : SSq k s.heap l xs) (hx : xs[i]? = none) (hE : ∀ h' e,Heap.ExtBut it s.heap h' -> (∃ o,h'.get? e = some o /\ o.cls = .type "StopIteration") -> E (.ref e) { s with heap := h' }) : wpAny (model prog w) A (Builtin.SmallTypes.nextOf (.ref it)) Q E s :=
 match k with
 | true => wpAny_nextOf_list_end hh q t hx hE
 | false => tup_end hh q t hx hE
end
def zObj (n : Nat) (f0 f1 : Value) : Obj := { cls := .type "zip",dict := none,data := .fields #[f0,f1,.bool false,.ref (n + 2),.ref (n + 3)],slots := #[] }
structure ZW (n : Nat) (k1 k2 : Bool) (l1 l2 i1 i2 : Nat) (xs ys : Array Value) (f0 f1 a b : Value) (h : Heap) : Prop where
 z : h.get? (n + 4) = some { cls := .type "zip",dict := none,data := .fields #[f0,f1,.bool false,.ref (n + 2),.ref (n + 3)],slots := #[] }
 ti : h.get? (n + 2) = some { cls := .type "tuple",data := .seq #[.ref n,.ref (n + 1)] }
 to : h.get? (n + 3) = some { cls := .type "tuple",data := .seq #[a,b] }
 w1 : SIt k1 h n l1 i1
 w2 : SIt k2 h (n + 1) l2 i2
 s1 : SSq k1 h l1 xs
 s2 : SSq k2 h l2 ys
 b1 : l1 < n
 b2 : l2 < n
theorem ap {x y : Nat} (h : x ≠ y) : @Ne Addr x y := h
def Oth (n : Nat) (h h' : Heap) : Prop := ∀ c o,c ≠ n + 4 -> c ≠ n + 3 -> c ≠ n -> c ≠ n + 1 -> h.get? c = some o -> h'.get? c = some o
theorem Oth.refl (n : Nat) (h : Heap) : Oth n h h := λ _ _ _ _ _ _ e => e
theorem Oth.on {n : Nat} {h h1 h2 : Heap} (p : Oth n h h1) (q : Oth n h1 h2) : Oth n h h2 := λ c o c1 c2 c3 c4 e => q c o c1 c2 c3 c4 (p c o c1 c2 c3 c4 e)
theorem Oth.of {n c : Nat} {h h' : Heap} (e : Heap.SameBut c h h') (m : c = n + 4 \/ c = n + 3 \/ c = n \/ c = n + 1) : Oth n h h' :=
 λ d o d1 d2 d3 d4 q => e.extBut _ _ (by rcases m with rfl | rfl | rfl | rfl <;> assumption) q
section
variable {prog : Program} {w : World} {A : Around} {E : Value -> Shared -> Prop} {s : Shared} {n l1 l2 i1 i2 : Nat} {k1 k2 : Bool} {xs ys : Array Value} {f0 f1 a b v : Value}
theorem ZW.mark0 {Q : Unit -> Shared -> Prop} (W : ZW n k1 k2 l1 l2 i1 i2 xs ys f0 f1 a b s.heap) (hQ : ∀ h',ZW n k1 k2 l1 l2 i1 i2 xs ys v f1 a b h' -> Oth n s.heap h' -> h'.objs.size = s.heap.objs.size -> Q () { s with heap := h' }) : wpAny (model prog w) A (setField (.ref (n + 4)) 0 v) Q E s :=
 wpAny_setField_rec W.z (by simp) λ h' g e => hQ h' ⟨g,e.extBut _ _ (ap (by omega)) W.ti,e.extBut _ _ (ap (by omega)) W.to,W.w1.at λ o => e.extBut _ _ (ap (by omega)),W.w2.at λ o => e.extBut _ _ (ap (by omega)),W.s1.at λ o => e.extBut _ _ (ap (by have := W.b1; omega)),W.s2.at λ o => e.extBut _ _ (ap (by have := W.b2; omega)),W.b1,W.b2⟩ (.of e (.inl rfl)) e.1
theorem ZW.mark1 {Q : Unit -> Shared -> Prop} (W : ZW n k1 k2 l1 l2 i1 i2 xs ys f0 f1 a b s.heap) (hQ : ∀ h',ZW n k1 k2 l1 l2 i1 i2 xs ys f0 v a b h' -> Oth n s.heap h' -> h'.objs.size = s.heap.objs.size -> Q () { s with heap := h' }) : wpAny (model prog w) A (setField (.ref (n + 4)) 1 v) Q E s :=
 wpAny_setField_rec W.z (by simp) λ h' g e => hQ h' ⟨g,e.extBut _ _ (ap (by omega)) W.ti,e.extBut _ _ (ap (by omega)) W.to,W.w1.at λ o => e.extBut _ _ (ap (by omega)),W.w2.at λ o => e.extBut _ _ (ap (by omega)),W.s1.at λ o => e.extBut _ _ (ap (by have := W.b1; omega)),W.s2.at λ o => e.extBut _ _ (ap (by have := W.b2; omega)),W.b1,W.b2⟩ (.of e (.inl rfl)) e.1
theorem ZW.put {j : Nat} {Q : Unit -> Shared -> Prop} (W : ZW n k1 k2 l1 l2 i1 i2 xs ys f0 f1 a b s.heap) (hQ : ∀ h',ZW n k1 k2 l1 l2 i1 i2 xs ys f0 f1 (if j = 0 then v else a) (if j = 1 then v else b) h' -> Oth n s.heap h' -> h'.objs.size = s.heap.objs.size -> Q () { s with heap := h' }) : wpAny (model prog w) A (updateSeq (n + 3) (·.setIfInBounds j v)) Q E s :=
 wpAny_updateSeq_pair W.to λ h' g e => hQ h' ⟨e.extBut _ _ (ap (by omega)) W.z,e.extBut _ _ (ap (by omega)) W.ti,by rw [g]; match j with | 0 => rfl | 1 => rfl | _ + 2 => rfl,W.w1.at λ o => e.extBut _ _ (ap (by omega)),W.w2.at λ o => e.extBut _ _ (ap (by omega)),W.s1.at λ o => e.extBut _ _ (ap (by have := W.b1; omega)),W.s2.at λ o => e.extBut _ _ (ap (by have := W.b2; omega)),W.b1,W.b2⟩ (.of e (.inr (.inl rfl))) e.1
theorem ZW.draw1 {x : Value} {Q : Value -> Shared -> Prop} (W : ZW n k1 k2 l1 l2 i1 i2 xs ys f0 f1 a b s.heap) (hx : xs[i1]? = some x) (hQ : ∀ h',ZW n k1 k2 l1 l2 (i1 + 1) i2 xs ys f0 f1 a b h' -> Oth n s.heap h' -> h'.objs.size = s.heap.objs.size -> Q x { s with heap := h' }) : wpAny (model prog w) A (Builtin.SmallTypes.nextOf (.ref n)) Q E s :=
 sq_item W.w1 W.s1 hx λ h' g e => hQ h' ⟨e.extBut _ _ (ap (by omega)) W.z,e.extBut _ _ (ap (by omega)) W.ti,e.extBut _ _ (ap (by omega)) W.to,g,W.w2.at λ o => e.extBut _ _ (ap (by omega)),W.s1.at λ o => e.extBut _ _ (ap (by have := W.b1; omega)),W.s2.at λ o => e.extBut _ _ (ap (by have := W.b2; omega)),W.b1,W.b2⟩ (.of e (.inr (.inr (.inl rfl)))) e.1
theorem ZW.draw2 {y : Value} {Q : Value -> Shared -> Prop} (W : ZW n k1 k2 l1 l2 i1 i2 xs ys f0 f1 a b s.heap) (hy : ys[i2]? = some y) (hQ : ∀ h',ZW n k1 k2 l1 l2 i1 (i2 + 1) xs ys f0 f1 a b h' -> Oth n s.heap h' -> h'.objs.size = s.heap.objs.size -> Q y { s with heap := h' }) : wpAny (model prog w) A (Builtin.SmallTypes.nextOf (.ref (n + 1))) Q E s :=
 sq_item W.w2 W.s2 hy λ h' g e => hQ h' ⟨e.extBut _ _ (ap (by omega)) W.z,e.extBut _ _ (ap (by omega)) W.ti,e.extBut _ _ (ap (by omega)) W.to,W.w1.at λ o => e.extBut _ _ (ap (by omega)),g,W.s1.at λ o => e.extBut _ _ (ap (by have := W.b1; omega)),W.s2.at λ o => e.extBut _ _ (ap (by have := W.b2; omega)),W.b1,W.b2⟩ (.of e (.inr (.inr (.inr rfl)))) e.1
def ZF (f0 : Value) : Prop := f0 = .none \/ ∃ c : Nat,f0 = rawInt (c : Int)
theorem alive_as {M : Model} {c : Addr} {Q : Option Obj -> Shared -> Prop} (h : Q (s.heap.get? c) s) : wpAny M A (loadIfAlive c) Q E s := λ _ _ _ => h
theorem ZW.free {Q : Bool -> Shared -> Prop} (W : ZW n k1 k2 l1 l2 i1 i2 xs ys f0 f1 a b s.heap) (hf : ZF f0) (y : Q true s) (z : ∀ h' f,ZW n k1 k2 l1 l2 i1 i2 xs ys f0 f a b h' -> Oth n s.heap h' -> h'.objs.size = s.heap.objs.size -> Q false { s with heap := h' }) : wpAny (model prog w) A (Builtin.SmallTypes.ownedTupleIsFree (.ref (n + 4))) Q E s := by
 obtain ⟨h,g,d,tk,os⟩ := s
 have hz := W.z
 dsimp only at hz
 rcases hf with rfl | ⟨c,rfl⟩
 ·wp_walk
  exact y
 ·wp_walk using alive_as
  cases h.get? (Int.toNat (c : Int)) with
  | none => wp_walk; exact y
  | some o =>
   by_cases m : f1 = .bool true
   ·subst m
    wp_walk
    exact z _ _ W (Oth.refl _ _) rfl
   ·wp_walk using W.mark1
    exact λ h' V o1 o2 => wpAny_pure (z h' _ V o1 o2)
theorem for_two {M : Model} {β : Type} {x y : Value} {b : β} {f : Value -> β -> Sem (ForInStep β)} {Q : β -> Shared -> Prop} (h : wpAny M A (forIn [x,y] b f) Q E s) : wpAny M A (forIn #[x,y] b f) Q E s := by
 rw [<- Array.forIn_toList]; exact h
theorem ZW.more {h : Heap} {o : Obj} (W : ZW n k1 k2 l1 l2 i1 i2 xs ys f0 f1 a b h) : ZW n k1 k2 l1 l2 i1 i2 xs ys f0 f1 a b (h.push o) :=
 have e : ∀ c u,h.get? c = some u -> (h.push o).get? c = some u := λ c u q => Heap.get?_push_of_some _ q
 ⟨e _ _ W.z,e _ _ W.ti,e _ _ W.to,W.w1.at (e _),W.w2.at (e _),W.s1.at (e _),W.s2.at (e _),W.b1,W.b2⟩
theorem Oth.more {h h' : Heap} {o : Obj} (p : Oth n h h') : Oth n h (h'.push o) := p.on λ c u _ _ _ _ q => Heap.get?_push_of_some _ q
theorem zip_item {i : Nat} {x y : Value} {Q : Value -> Shared -> Prop} (W : ZW n k1 k2 l1 l2 i i xs ys f0 f1 a b s.heap) (hf : ZF f0) (hx : xs[i]? = some x) (hy : ys[i]? = some y)
  (hQ : ∀ h' f0' f1' a' b',ZW n k1 k2 l1 l2 (i + 1) (i + 1) xs ys f0' f1' a' b' h' -> ZF f0' -> IsPair h' s.heap.objs.size x y -> Oth n s.heap h' -> Q (.ref s.heap.objs.size) { s with heap := h' }) :
  wpAny (model prog w) A (Builtin.«zip.__next__» ⟨[.ref (n + 4)],[]⟩) (λ fin s' => ∃ v,fin = .done (.ret v) /\ Q v s') E s := by
 obtain ⟨h,g,d,tk,os⟩ := s
 dsimp only at W hQ
 have z := W.z
 have t := W.ti
 have ok : ∀ h4 : Heap,h4.objs.size = h.objs.size -> ∀ v,(h4.push v).objs.size = h.objs.size + 1 := λ h4 e v => by rw [Heap.size_push,e]
 have lt : n + 4 < h.objs.size := Heap.lt_size z
 wp_walk using W.free hf,W.mark0
 ·-- the pair is used again
  intro h1 W1 o1 z1
  have t1 := W1.to
  wp_walk using wpAny_onRaise,W1.draw1 hx
  intro h2 W2 o2 z2
  have t2 := W2.to
  wp_walk using W2.put
  intro h3 W3 o3 z3
  wp_walk using wpAny_onRaise,W3.draw2 hy
  intro h4 W4 o4 z4
  have t4 := W4.to
  wp_walk using W4.put
  intro h5 W5 o5 z5
  have t5 := W5.to
  wp_walk using W5.more.mark0
  intro h6 W6 o6 z6
  wp_walk using W6.mark1
  intro h7 W7 o7 z7
  wp_walk
  have ol : Oth n h h5 := o1.on (o2.on (o3.on (o4.on o5)))
  have zl : h5.objs.size = h.objs.size := z5.trans (z4.trans (z3.trans (z2.trans z1)))
  have pr : IsPair (h5.push { cls := .type "tuple",data := .seq #[x,y] }) h5.objs.size x y := Heap.get?_push_size _ rfl
  have fin := hQ h7 _ _ _ _ W7 (.inr ⟨_,rfl⟩)
  rw [<- zl] at fin
  have far : ∀ j,j <= 4 -> h5.objs.size ≠ n + j := λ j hj => by omega
  exact ⟨_,rfl,fin (o7 _ _ (far 4 (by decide)) (far 3 (by decide)) (far 0 (by decide)) (far 1 (by decide)) (o6 _ _ (far 4 (by decide)) (far 3 (by decide)) (far 0 (by decide)) (far 1 (by decide)) pr)) (ol.more.on (o6.on o7))⟩
 ·intro h1 f W1 o1 z1
  wp_walk using for_two,W1.draw1 hx
  intro h2 W2 o2 z2
  wp_walk using W2.draw2 hy
  intro h3 W3 o3 z3
  wp_walk
  have zl : h3.objs.size = h.objs.size := z3.trans (z2.trans z1)
  have fin := hQ (h3.push { cls := .type "tuple",data := .seq #[x,y] }) _ _ _ _ W3.more hf
  rw [<- zl] at fin
  exact ⟨_,rfl,fin (Heap.get?_push_size _ rfl) (o1.on (o2.on o3)).more⟩
def ZE (n : Nat) (h : Heap) (f0 f1 : Value) (h' : Heap) (e : Addr) : Prop := h'.get? (n + 4) = some (zObj n f0 f1) /\ Oth n h h' /\ ∃ o,h'.get? e = some o /\ o.cls = .type "StopIteration"
theorem ZW.end1 {Q : Value -> Shared -> Prop} (hh : A.handled = none) (W : ZW n k1 k2 l1 l2 i1 i2 xs ys f0 f1 a b s.heap) (hx : xs[i1]? = none) (hE : ∀ h' e,ZE n s.heap f0 f1 h' e -> E (.ref e) { s with heap := h' }) : wpAny (model prog w) A (Builtin.SmallTypes.nextOf (.ref n)) Q E s :=
 sq_end hh W.w1 W.s1 hx λ h' e x y => hE h' e ⟨x _ _ (ap (by omega)) W.z,λ c o _ _ c3 _ q => x c o c3 q,y⟩
theorem ZW.end2 {Q : Value -> Shared -> Prop} (hh : A.handled = none) (W : ZW n k1 k2 l1 l2 i1 i2 xs ys f0 f1 a b s.heap) (hy : ys[i2]? = none) (hE : ∀ h' e,ZE n s.heap f0 f1 h' e -> E (.ref e) { s with heap := h' }) : wpAny (model prog w) A (Builtin.SmallTypes.nextOf (.ref (n + 1))) Q E s :=
 sq_end hh W.w2 W.s2 hy λ h' e x y => hE h' e ⟨x _ _ (ap (by omega)) W.z,λ c o _ _ _ c4 q => x c o c4 q,y⟩
theorem zip_end {i : Nat} {Q : PySem.Fin -> Shared -> Prop} (hh : A.handled = none) (W : ZW n k1 k2 l1 l2 i i xs ys f0 f1 a b s.heap) (hf : ZF f0) (he : xs[i]? = none \/ ys[i]? = none)
  (hE : ∀ h' e,Oth n s.heap h' -> (∃ o,h'.get? e = some o /\ o.cls = .type "StopIteration") -> E (.ref e) { s with heap := h' }) :
  wpAny (model prog w) A (Builtin.«zip.__next__» ⟨[.ref (n + 4)],[]⟩) Q E s := by
 obtain ⟨h,g,d,tk,os⟩ := s
 dsimp only at W hE
 have z := W.z
 have t := W.ti
 have hb : ∀ h1 h2 e f,Oth n h h1 -> ZE n h1 f f1 h2 e -> wpAny (model prog w) A (setField (.ref (n + 4)) 0 .none) (λ _ s' => E (.ref e) s') E ⟨h2,g,d,tk,os⟩ := λ h1 h2 e f p ⟨g2,p2,o,q,c⟩ =>
  wpAny_setField_rec g2 (by simp [zObj]) λ h3 g3 e3 => hE h3 e (p.on (p2.on (.of e3 (.inl rfl)))) ⟨o,e3.extBut _ _ (λ x => by subst x; rw [g2] at q; cases q; simp [zObj] at c) q,c⟩
 wp_walk using W.free hf,W.mark0
 ·intro h1 W1 o1 z1
  have t1 := W1.to
  cases hx : xs[i]? with
  | none =>
   wp_walk using wpAny_onRaise,W1.end1 hh hx
   exact λ h2 e q => hb h1 h2 e _ o1 q
  | some x =>
   have hy : ys[i]? = none := he.resolve_left (by rw [hx]; simp)
   wp_walk using wpAny_onRaise,W1.draw1 hx
   intro h2 W2 o2 z2
   have t2 := W2.to
   wp_walk using W2.put
   intro h3 W3 o3 z3
   wp_walk using wpAny_onRaise,W3.end2 hh hy
   exact λ h4 e q => hb h3 h4 e _ (o1.on (o2.on o3)) q
 ·intro h1 f W1 o1 z1
  cases hx : xs[i]? with
  | none =>
   wp_walk using for_two,W1.end1 hh hx
   exact λ h2 e q => hE h2 e (o1.on q.2.1) q.2.2
  | some x =>
   have hy : ys[i]? = none := he.resolve_left (by rw [hx]; simp)
   wp_walk using for_two,W1.draw1 hx
   intro h2 W2 o2 z2
   wp_walk using W2.end2 hh hy
   exact λ h3 e q => hE h3 e (o1.on (o2.on q.2.1)) q.2.2
end
section
variable {prog : Program} {w : World} {A : Around} {E : Value -> Shared -> Prop} {s : Shared} {n l1 l2 i1 i2 i : Nat} {k1 k2 : Bool} {xs ys : Array Value} {f0 f1 a b v : Value}
theorem next_by {T id : String} {bi : Builtin} {Q : Option Value -> Shared -> Prop} (hT : s.TypeIs v T) (sl : Slot T (Str.ofString "__next__") id) (en : entryFor table id = some bi) (ok : argsOk id ⟨[v],[]⟩)
  (h : wpAny (model prog w) A.in1 (bi ⟨[v],[]⟩) (λ fin s' => ∃ x,fin = .done (.ret x) /\ Q (some x) s') (λ e s' => s'.TypeIs e "StopIteration" /\ Q none s') s) : wpAny (model prog w) A (pyNext v) Q E s :=
 wpAny_bind (wpAny_attempt (wpAny_callSpecial?_slot hT sl (wpAny_call_entry sl hT en (wpAny_mono h (λ fin s' ⟨x,e,q⟩ => ⟨x,e,wpAny_pure q⟩) λ e s' ⟨t,q⟩ => wpAny_bind (wpAny_isInstance (T := "StopIteration") (b := true) t isSubtype_stop (wpAny_pure q))) ok)))
def ztn (k1 k2 : Bool) (n l1 l2 i : Nat) (h : Heap) : Prop := ∃ f0 f1 a b,ZF f0 /\ h.get? (n + 4) = some (zObj n f0 f1) /\ IsPair h (n + 2) (.ref n) (.ref (n + 1)) /\ IsPair h (n + 3) a b /\ SIt k1 h n l1 i /\ SIt k2 h (n + 1) l2 i
theorem ZW.tn {h : Heap} (W : ZW n k1 k2 l1 l2 i i xs ys f0 f1 a b h) (hf : ZF f0) : ztn k1 k2 n l1 l2 i h := ⟨f0,f1,a,b,hf,W.z,W.ti,W.to,W.w1,W.w2⟩
theorem next_zip {x y : Value} {Q : Option Value -> Shared -> Prop} (W : ZW n k1 k2 l1 l2 i i xs ys f0 f1 a b s.heap) (hf : ZF f0) (hx : xs[i]? = some x) (hy : ys[i]? = some y)
  (hQ : ∀ h' f0' f1' a' b',ZW n k1 k2 l1 l2 (i + 1) (i + 1) xs ys f0' f1' a' b' h' -> ZF f0' -> IsPair h' s.heap.objs.size x y -> Oth n s.heap h' -> Q (some (.ref s.heap.objs.size)) { s with heap := h' }) : wpAny (model prog w) A (pyNext (.ref (n + 4))) Q E s :=
 next_by ⟨_,W.z,rfl⟩ F.slot_zip_next F.entry_zip_next (F.args_zip_next_1 _) (zip_item (Q := λ v s' => Q (some v) s') W hf hx hy hQ)
theorem next_zip_end {Q : Option Value -> Shared -> Prop} (hh : A.handled = none) (W : ZW n k1 k2 l1 l2 i i xs ys f0 f1 a b s.heap) (hf : ZF f0) (he : xs[i]? = none \/ ys[i]? = none) (hQ : ∀ h',Oth n s.heap h' -> Q none { s with heap := h' }) : wpAny (model prog w) A (pyNext (.ref (n + 4))) Q E s :=
 next_by ⟨_,W.z,rfl⟩ F.slot_zip_next F.entry_zip_next (F.args_zip_next_1 _) (zip_end hh W hf he λ h' e p q => ⟨q,hQ h' p⟩)
theorem go_zip {tg : Expr} {u : Value} {Q : Unit -> Shared -> Prop} (W : ZW n k1 k2 l1 l2 i1 i2 xs ys f0 f1 a b s.heap) (hf : ZF f0) (hQ : ∀ h' f,ZW n k1 k2 l1 l2 i1 i2 xs ys f f1 a b h' -> ZF f -> Oth n s.heap h' -> Q () { s with heap := h' }) : wpAny (model prog w) A (letOwnedTupleGo tg (.ref (n + 4)) u) Q E s := by
 have same : Q () s := hQ s.heap _ W hf (Oth.refl _ _)
 obtain ⟨h,g,d,tk,os⟩ := s
 have z := W.z
 dsimp only at z
 unfold letOwnedTupleGo
 cases tg <;> try exact wpAny_pure same
 all_goals cases u <;> try exact wpAny_pure same
 all_goals
  wp_walk
  split
  ·exact wpAny_bind (wpAny_rule (W.mark0 (s := ⟨h,g,d,tk,os⟩) (v := .none) λ h' V o z => hQ h' _ V (.inl rfl) o))
  ·exact wpAny_pure same
theorem own_iter {T id nid : String} {bi : Builtin} {Q : Value -> Shared -> Prop} (hT : s.TypeIs v T) (sl : Slot T (Str.ofString "__iter__") id) (en : entryFor table id = some bi) (ok : argsOk id ⟨[v],[]⟩) (nx : Slot T (Str.ofString "__next__") nid)
  (h : wpAny (model prog w) A.in1 (bi ⟨[v],[]⟩) (λ fin s' => fin = .done (.ret v) /\ s' = s) E s) (q : Q v s) : wpAny (model prog w) A (pyIter v) Q E s :=
 wpAny_pyIter_slot hT sl (wpAny_call_entry sl hT en (wpAny_mono h (λ fin s' ⟨e1,e2⟩ => ⟨v,e1,T,_,by rw [e2]; exact hT,nx.lookup,by rw [e2]; exact q⟩) λ _ _ e => e) ok)
theorem iter_sq {k : Bool} {l : Addr} {Q : Value -> Shared -> Prop} (t : SSq k s.heap l xs) (hQ : ∀ o,o.isFreed = false -> (∀ h : Heap,∀ c,h.get? c = some o -> SIt k h c l 0) -> Q (.ref s.heap.objs.size) { s with heap := s.heap.push o }) : wpAny (model prog w) A (pyIter (.ref l)) Q E s :=
 match k with
 | true => wpAny_pyIter_list t (hQ _ rfl λ h c e => ⟨_,e,rfl,rfl⟩)
 | false => wpAny_pyIter_tuple t (hQ _ rfl λ h c e => ⟨_,e,rfl,rfl⟩)
end
theorem laid5 (h : Heap) (a b c d e : Obj) (fa : a.isFreed = false) (fb : b.isFreed = false) (fc : c.isFreed = false) (fd : d.isFreed = false) (fe : e.isFreed = false) :
  let m := ((((h.push a).push b).push c).push d).push e
  m.get? h.objs.size = some a /\ m.get? (h.objs.size + 1) = some b /\ m.get? (h.objs.size + 2) = some c /\ m.get? (h.objs.size + 3) = some d /\ m.get? (h.objs.size + 4) = some e /\ ∀ x o,h.get? x = some o -> m.get? x = some o := by
 have up : ∀ (k : Heap) (o : Obj) x u,k.get? x = some u -> (k.push o).get? x = some u := λ k o x u q => Heap.get?_push_of_some _ q
 have at_ : ∀ (k : Heap) (o : Obj) x,o.isFreed = false -> x = k.objs.size -> (k.push o).get? x = some o := λ k o x f q => by rw [q]; exact Heap.get?_push_size _ f
 exact ⟨up _ _ _ _ (up _ _ _ _ (up _ _ _ _ (up _ _ _ _ (at_ _ _ _ fa rfl)))),up _ _ _ _ (up _ _ _ _ (up _ _ _ _ (at_ _ _ _ fb (by simp [Heap.size_push])))),up _ _ _ _ (up _ _ _ _ (at_ _ _ _ fc (by simp [Heap.size_push]))),up _ _ _ _ (at_ _ _ _ fd (by simp [Heap.size_push])),at_ _ _ _ fe (by simp [Heap.size_push]),λ x o q => up _ _ _ _ (up _ _ _ _ (up _ _ _ _ (up _ _ _ _ (up _ _ _ _ q))))⟩
theorem zip_made (k1 k2 : Bool) (l1 l2 : Addr) (xs ys : Array Value) :
  Meets (Builtin.«zip.__new__» ⟨[.type "zip",.ref l1,.ref l2],[]⟩) (λ _ R s => SSq k1 s.heap l1 xs /\ SSq k2 s.heap l2 ys /\
   ∀ h',ZW s.heap.objs.size k1 k2 l1 l2 0 0 xs ys .none (.bool false) .none .none h' -> (∀ c o,s.heap.get? c = some o -> h'.get? c = some o) -> R (.ok (.ret (.ref (s.heap.objs.size + 4)))) { s with heap := h' }) :=
 .of_wp λ prog w A R s q => by
  obtain ⟨h,g,d,tk,os⟩ := s
  obtain ⟨t1,t2,q⟩ := q
  have hsub := sub_zip
  have lt : ∀ {k : Bool} {l : Addr} {zs : Array Value},SSq k h l zs -> l < h.objs.size := λ {k l zs} q => by
   cases k with
   | true => obtain ⟨o,g,_⟩ := (q : h.IsList l zs); exact Heap.lt_size g
   | false => obtain ⟨o,g,_⟩ := (q : h.IsTuple l zs); exact Heap.lt_size g
  have p1 := lt t1
  have p2 := lt t2
  wp_walk using iter_sq t1
  intro a1 f1 i1
  wp_walk using iter_sq (s := ⟨h.push a1,g,d,tk,os⟩) (t2.at λ o e => Heap.get?_push_of_some _ e)
  intro a2 f2 i2
  wp_walk
  simp only [Heap.size_push,Nat.add_assoc,Nat.reduceAdd]
  obtain ⟨e0,e1,e2,e3,e4,up⟩ := laid5 h a1 a2 { cls := .type "tuple",data := .seq #[.ref h.objs.size,.ref (h.objs.size + 1)] } { cls := .type "tuple",data := .seq #[.none,.none] } { cls := .type "zip",data := .fields #[.none,.bool false,.bool false,.ref (h.objs.size + 2),.ref (h.objs.size + 3)] } f1 f2 rfl rfl rfl
  exact ⟨_,rfl,q _ ⟨e4,e2,e3,i1 _ _ e0,i2 _ _ e1,t1.at (up _),t2.at (up _),p1,p2⟩ up⟩
theorem call_zip {prog : Program} {w : World} {A : Around} {E : Value -> Shared -> Prop} {s : Shared} {k1 k2 : Bool} {l1 l2 : Addr} {xs ys : Array Value} {Q : Value -> Shared -> Prop} (t1 : SSq k1 s.heap l1 xs) (t2 : SSq k2 s.heap l2 ys)
  (hQ : ∀ h',ztn k1 k2 s.heap.objs.size l1 l2 0 h' -> (∀ c o,s.heap.get? c = some o -> h'.get? c = some o) -> Q (.ref (s.heap.objs.size + 4)) { s with heap := h' }) :
  wpAny (model prog w) A (call (.type "zip") [.ref l1,.ref l2]) Q E s :=
 callType_new F.called_zip (by decide) (F.typeCall_zip_2 _ _) (F.newCall_zip_2 _ _) (λ obj => F.args_object_init_3 obj _ _) F.entry_zip_new (zip_made k1 k2 l1 l2 xs ys) ⟨t1,t2,λ h' W up => ⟨⟨_,W.z,rfl⟩,hQ h' (W.tn (.inl rfl)) up⟩⟩
def Sq (k : Bool) (K : PySem.W.Frag) (H : Hp) (a : Addr) (xs : List V) : Prop := if k then SqL K H a xs else SqT K H a xs
def Itz (k1 k2 : Bool) (K : PySem.W.Frag) (l1 l2 : Addr) : It :=
  ⟨λ i H => ∃ as bs a b,Sq k1 K H l1 as /\ Sq k2 K H l2 bs /\ as[i]? = some a /\ bs[i]? = some b,
   λ i H x H' => ∃ T a b,H T = none /\ H' = upd H T (.tup [a,b]) /\ x = .ref T /\ (∀ as,Sq k1 K H l1 as -> as[i]? = some a) /\ ∀ bs,Sq k2 K H l2 bs -> bs[i]? = some b,
   λ i H => ∃ as bs,Sq k1 K H l1 as /\ Sq k2 K H l2 bs /\ (as.length <= i \/ bs.length <= i)⟩
section
variable {X : Cx} {pins : List (Addr × Obj)} {σ : L2.St} {H : Hp} {s : Shared} {k : Bool} {a : Addr} {xs ys : List V}
theorem Q3O (I : L2.Inv X pins σ H s) (h : Sq k X.K H a xs) : ∃ its : List Value,Vals xs its /\ SSq k s.heap a its.toArray /\ xs.length <= sizeLine := by
 cases k with
 | true => obtain ⟨its,v,p,z⟩ := I.list h; exact ⟨its,v,p.isList,z⟩
 | false => obtain ⟨its,v,p,z⟩ := I.tuple h; exact ⟨its,v,(p : IsTup _ _ _),z⟩
theorem Inv_sq_inj (I : L2.Inv X pins σ H s) (h : Sq k X.K H a xs) (h' : Sq k X.K H a ys) : xs = ys := by
 cases k with
 | true => exact I.list_inj h h'
 | false => exact I.tuple_inj h h'
end
theorem Q1B {X : Cx} {pins : List (Addr × Obj)} {σ : L2.St} {H : Hp} {s : Shared} {h' : Heap} {t' : Nat} {fp : List Addr} (I : L2.Inv X pins σ H s) (hf : ∀ b ∈ fp,FpOk X pins H b) (k : ∀ b o,b ∉ fp -> s.heap.get? b = some o -> h'.get? b = some o) : L2.Inv X pins σ H { s with heap := h',toks := t' } := by
 have nit : ∀ b u,H b = some u -> b ∉ fp := λ b u e z => by rw [(hf b z).1] at e; cases e
 refine I.step (g' := s.gens) (d' := s.drawn) (ch := fp) (λ b hb => ?_) (λ b o _ _ hc e _ => k b o hc e) (λ b o _ _ hc e _ => ⟨o.slots,k b o hc e⟩) (λ _ _ _ _ n => n) (λ b o hc e => ⟨o,k b o hc e⟩) (λ _ _ e => e) (λ _ _ _ e => e) (λ b ps e => ⟨#[],by rw [e]; simp⟩) (λ m hm => ?_) (λ b u e => ?_) I.bare
 ·obtain ⟨f0,f1,f2,f3,f4,f5⟩ := hf b hb
  exact ⟨f3,f1,f4,f5⟩
 ·obtain ⟨o,es,ep,ho,r⟩ := hm
  exact ⟨o,es,ep,k _ o (λ z => (hf _ z).2.1 rfl) ho,r⟩
 ·refine (I.hok b u e).stay (λ c v hc q => k c v ?_ q) (λ _ q => q) λ _ _ q => q
  rcases hc with z | z
  ·rw [z]; exact nit b u e
  ·exact nit c _ z
theorem Inv_track {X : Cx} {pins : List (Addr × Obj)} {σ : L2.St} {H : Hp} {s : Shared} {T : Addr} {o : HO} (I : L2.Inv X pins σ H s) (hT : FpOk X pins H T) (hs : X.s₀.heap.objs.size <= T) (new : Q1n X.prog X.w (upd H T o) s.heap T o) : L2.Inv X pins σ (upd H T o) s := by
 obtain ⟨f0,f1,f2,f3,f4,f5⟩ := hT
 have ne : ∀ b u,H b = some u -> b ≠ T := λ b u e z => by rw [z,f0] at e; cases e
 have sn : ∀ b o,X.s₀.heap.get? b = some o -> b ≠ T := λ b o e => Nat.ne_of_lt (Nat.lt_of_lt_of_le (Heap.lt_size e) hs)
 exact ⟨I.ok,I.os,I.bare,⟨I.base.keep,I.base.slot,λ b ob q n hx => by rw [Q0i (sn b ob q)]; exact I.base.free b ob q n hx,I.base.there,λ b xs q => by have e := I.base.tups b xs q; rw [Q0i (ne b _ e)]; exact e,λ b ob u q => by have e := I.base.frzs b ob u q; rw [Q0i (ne b _ e)]; exact e,λ b ps q => by obtain ⟨m,e⟩ := I.base.tbls b ps q; exact ⟨m,by rw [Q0i (ne b _ e)]; exact e⟩⟩,
  I.loc,I.cell,by rw [Q0i (Ne.symm f1)]; exact I.free,λ x c e => by rw [Q0i (f4 x c e)]; exact I.freeC x c e,λ p hp => by obtain ⟨a,b,c⟩ := I.pin p hp; exact ⟨a,by rw [Q0i (f5 p hp)]; exact b,c⟩,HOk_more I.hok f0 new,I.len⟩
def zfp (n : Nat) : List Addr := [n,n + 1,n + 2,n + 3,n + 4]
theorem ztn_keep {k1 k2 : Bool} {n l1 l2 i : Nat} {h h' : Heap} (st : ztn k1 k2 n l1 l2 i h) (k : ∀ b ∈ zfp n,∀ o,h.get? b = some o -> h'.get? b = some o) : ztn k1 k2 n l1 l2 i h' := by
 obtain ⟨f0,f1,a,b,hf,z,ti,to,w1,w2⟩ := st
 exact ⟨f0,f1,a,b,hf,k _ (by simp [zfp]) _ z,k _ (by simp [zfp]) _ ti,k _ (by simp [zfp]) _ to,w1.at (k _ (by simp [zfp])),w2.at (k _ (by simp [zfp]))⟩
theorem ztn_obj {k1 k2 : Bool} {n l1 l2 i : Nat} {h : Heap} (st : ztn k1 k2 n l1 l2 i h) : ∀ b ∈ zfp n,∃ o,h.get? b = some o /\ ∀ v,o.data ≠ .cell v := by
 obtain ⟨f0,f1,a,b,hf,z,ti,to,w1,w2⟩ := st
 have all : ∀ P : Addr -> Prop,P n -> P (n + 1) -> P (n + 2) -> P (n + 3) -> P (n + 4) -> ∀ b ∈ zfp n,P b := λ P p0 p1 p2 p3 p4 b hb => by
  simp only [zfp,List.mem_cons,List.not_mem_nil,or_false] at hb
  rcases hb with rfl | rfl | rfl | rfl | rfl <;> assumption
 exact all _ w1.obj w2.obj ⟨_,ti,λ v e => by cases e⟩ ⟨_,to,λ v e => by cases e⟩ ⟨_,z,λ v e => by cases e⟩
theorem zfp_out {n : Nat} {c : Addr} (h : c ∉ zfp n) : c ≠ n + 4 /\ c ≠ n + 3 /\ c ≠ n /\ c ≠ n + 1 :=
 ⟨λ e => h (by simp [zfp,e]),λ e => h (by simp [zfp,e]),λ e => h (by simp [zfp,e]),λ e => h (by simp [zfp,e])⟩
theorem Oth.fp {n : Nat} {h h' : Heap} (p : Oth n h h') : ∀ c o,c ∉ zfp n -> h.get? c = some o -> h'.get? c = some o := λ c o hc => p c o (zfp_out hc).1 (zfp_out hc).2.1 (zfp_out hc).2.2.1 (zfp_out hc).2.2.2
theorem turn_zip {P : Program} {w : World} {K : PySem.W.Frag} {tg : Expr} (k1 k2 : Bool) (n l1 l2 : Nat) (hl1 : l1 < n) (hl2 : l2 < n) : Turn P w K tg (Itz k1 k2 K l1 l2) (zfp n) (n + 4) (ztn k1 k2 n l1 l2) where
 mem := by simp [zfp]
 obj := λ i h st => ztn_obj st
 keep := λ i h h' st k => ztn_keep st k
 item := by
  intro X hP hw hK hc i pins s σ H E I hf st hg
  subst hP hw hK
  obtain ⟨as,bs,a,b,q1,q2,ga,gb⟩ := hg
  obtain ⟨ia,va,sa,_⟩ := Q3O I q1
  obtain ⟨ib,vb,sb,_⟩ := Q3O I q2
  obtain ⟨ua,hua,rua⟩ := va.get ga
  obtain ⟨ub,hub,rub⟩ := vb.get gb
  have hTn : s.heap.objs.size ∉ zfp n := λ m => let ⟨o,e,_⟩ := ztn_obj st _ m; Nat.lt_irrefl _ (Heap.lt_size e)
  obtain ⟨f0,f1,a0,b0,zf,z,ti,to,w1,w2⟩ := st
  refine next_zip (x := ua) (y := ub) ⟨z,ti,to,w1,w2,sa,sb,hl1,hl2⟩ zf (by simpa using hua) (by simpa using hub) λ h1 f0' f1' a' b' W1 zf1 pr o1 => ⟨_,rfl,go_zip (s := { s with heap := h1 }) W1 zf1 λ h2 f W2 zf2 o2 => ?_⟩
  have Iz : L2.Inv X pins σ H { s with heap := h2,toks := s.toks } := Q1B I hf (o1.on o2).fp
  have fr : H s.heap.objs.size = none := I.hok.fresh (Nat.le_refl _)
  refine ⟨.ref s.heap.objs.size,upd H s.heap.objs.size (.tup [a,b]),?_,rfl,⟨_,a,b,fr,rfl,rfl,λ cs q => ?_,λ cs q => ?_⟩,W2.tn zf2,λ c hb => ?_⟩
  ·refine Inv_track Iz (I.fpOk (Nat.le_refl _) fr) I.sz ⟨show 2 <= sizeLine by decide,[ua,ub],.cons rua (.cons rub .nil),?_⟩
   exact ⟨_,o2.fp _ _ hTn pr,rfl,rfl,_,rfl⟩
  ·rw [Inv_sq_inj I q q1]; exact ga
  ·rw [Inv_sq_inj I q q2]; exact gb
  ·rw [Q0i (λ e => hTn (by rw [<- e]; exact hb))]; exact (hf c hb).1
 done := by
  intro X hP hw hK hc i pins s σ H E I hf st hg
  subst hP hw hK
  obtain ⟨as,bs,q1,q2,hend⟩ := hg
  obtain ⟨ia,va,sa,_⟩ := Q3O I q1
  obtain ⟨ib,vb,sb,_⟩ := Q3O I q2
  obtain ⟨f0,f1,a0,b0,zf,z,ti,to,w1,w2⟩ := st
  have e1 := va.length
  have e2 := vb.length
  exact next_zip_end (I.ok.hd hc) ⟨z,ti,to,w1,w2,sa,sb,hl1,hl2⟩ zf (hend.imp (λ e => by simp; omega) λ e => by simp; omega) λ h' p => ⟨rfl,Q1B (t' := s.toks) I hf p.fp⟩
 self := λ A i s Q E st h => by
  obtain ⟨f0,f1,a0,b0,zf,z,_⟩ := st
  exact own_iter ⟨_,z,rfl⟩ F.slot_zip_iter F.entry_zip_iter (F.args_zip_iter_1 _) F.slot_zip_next (wpAny_pure ⟨rfl,rfl⟩) h
end DL
set_option maxHeartbeats 1000000
namespace DL
open PySem PySem.Spec PyProof.Rows L2 PySem.W
def LF (d : D) (xs : List D) : Prop := d = .lst xs \/ d = .scr xs \/ d = .tup xs
theorem Sq.same {k : Bool} {K : PySem.W.Frag} {H H' : Hp} {a : Addr} {xs : List V} (e : Same H H') (h : Sq k K H a xs) : Sq k K H' a xs := by
 cases k with
 | true => exact e.seq h
 | false => exact Q1c e h
theorem LF.sq {K : PySem.W.Frag} {G : Wd} {d : D} {xs : List D} {v : V} (h : LF d xs) (i : Is K G d v) : ∃ k a vs,v = .ref a /\ Sq k K G.g a vs /\ Iss K G xs vs := by
 rcases h with rfl | rfl | rfl
 ·cases i with | lst h r => exact ⟨true,_,_,rfl,SqL.of h,r⟩
 ·cases i with | scr h r => exact ⟨true,_,_,rfl,h,r⟩
 ·cases i with | tup h r => exact ⟨false,_,_,rfl,h,r⟩
def EvZ (X : Cx) (ρ : Rho) (O : Sto) (e : Expr) (xs : List D) (T : String) : Prop :=
 ∀ (G : Wd) (tg : Expr) (pins : List (Addr × Obj)) (s : Shared) (σ : L2.St) (H : Hp) (R : It -> Hp -> Prop),L2.Inv X pins σ H s -> SA X.K G H O -> EnvR X.K G σ ρ -> (∀ J G' H',Ext G G' -> SA X.K G' H' O -> Q2c X.K G' J xs -> R J H') ->
  wpAny (model X.prog X.w) X.A (eval e X.env) (λ v s1 => PIE X pins σ tg R v s1 /\ s1.TypeIs v T) X.xe s
def zipD (xs ys : List D) : List D := List.zipWith (λ a b => .tup [a,b]) xs ys
theorem itz_yields {K : PySem.W.Frag} {G : Wd} {k1 k2 : Bool} {l1 l2 : Addr} {vs us : List V} {xs ys : List D} (h1 : Sq k1 K G.g l1 vs) (h2 : Sq k2 K G.g l2 us) (r1 : Iss K G xs vs) (r2 : Iss K G ys us) : Q2c K G (Itz k1 k2 K l1 l2) (zipD xs ys) where
 go := λ i H e hi => by
  have hi : i < min xs.length ys.length := by simpa [zipD] using hi
  obtain ⟨a,ha,_⟩ := r1.get (i := i) (d := xs[i]'(by omega)) (by simp)
  obtain ⟨b,hb,_⟩ := r2.get (i := i) (d := ys[i]'(by omega)) (by simp)
  exact ⟨vs,us,a,b,h1.same e,h2.same e,ha,hb⟩
 stop := λ i H e hi => by
  have hi : min xs.length ys.length <= i := by simpa [zipD] using hi
  have e1 := r1.length
  have e2 := r2.length
  exact ⟨vs,us,h1.same e,h2.same e,by omega⟩
 yld := λ i v H H' G2 O2 e s y hi => by
  obtain ⟨T,a,b,hT,rfl,rfl,y1,y2⟩ := y
  obtain ⟨x,hx,ix⟩ := r1.getV (y1 vs (h1.same (e.g.trans s.sub)))
  obtain ⟨y,hy,iy⟩ := r2.getV (y2 us (h2.same (e.g.trans s.sub)))
  obtain ⟨e3,s3⟩ := s.laid (o := .tup [a,b]) hT
  refine ⟨.tup [x,y],_,?_,e3,s3,.tup (SqT.of Q0h) (.cons (ix.ext (e.trans e3)) (.cons (iy.ext (e.trans e3)) .nil))⟩
  unfold zipD
  rw [List.getElem?_zipWith,hx,hy]
section
variable {X : Cx} {ρ : Rho} {O : Sto} {e a b c : Expr} {es : List Expr} {d da db : D} {ds : List D} {R : D -> Sto -> Prop} {pos p : Pos} {x : Str} {xs ys : List D}
theorem ez_zip (ha : EvP X ρ O a da) (hb : EvP X ρ O b db) (fa : LF da xs) (fb : LF db ys) (hm : X.mg "zip" = none) (hg : Gl X "zip" := by rfl) (hs : starEach [a,b] X.env = [(false,eval a X.env),(false,eval b X.env)] := by rfl) (hs2 : starEach [b] X.env = [(false,eval b X.env)] := by rfl) :
  EvZ X ρ O (.Call (.Name "zip" p) [a,b] [] pos) (zipD xs ys) "zip" := λ G tg pins s σ H R I sa en k => by
 refine Call_ (Q3p I hg hm boot_zip (PyProof.Rows.callWith_type1 (thn (Q0a ha (Q0a hb Q0e hs2) (by rw [hs,hs2]) G pos pins s σ H (λ vs H' => ∃ G',Ext G G' /\ SA X.K G' H' O /\ Iss X.K G' [da,db] vs) I ⟨sa,en,λ vs G' H' e1 s1 i1 => ⟨G',e1,s1,i1⟩⟩) λ us s1 ⟨vs,H1,I1,r1,G1,e1,sa1,is1⟩ => ?_) (by rw [hs,hs2]) (by rw [hs2]; rfl)))
 cases is1 with | cons i1 is1 => cases is1 with | cons i2 is1 =>
 cases is1
 obtain ⟨k1,l1,v1,rfl,q1,j1⟩ := fa.sq i1
 obtain ⟨k2,l2,v2,rfl,q2,j2⟩ := fb.sq i2
 obtain ⟨u,u',rfl,ru,ru'⟩ := vals2 r1
 cases ru
 cases ru'
 obtain ⟨t1,w1,g1,z1⟩ := Q3O I1 (q1.same sa1.sub)
 obtain ⟨t2,w2,g2,z2⟩ := Q3O I1 (q2.same sa1.sub)
 have lt : ∀ {k : Bool} {l : Addr} {ys : Array Value},SSq k s1.heap l ys -> l < s1.heap.objs.size := λ {k l ys} q => by
  cases k with
  | true => obtain ⟨o,g,_⟩ := (q : s1.heap.IsList l ys); exact Heap.lt_size g
  | false => obtain ⟨o,g,_⟩ := (q : s1.heap.IsTuple l ys); exact Heap.lt_size g
 refine call_zip g1 g2 λ h' Z kp => ?_
 have Ik : L2.Inv X pins σ H1 { s1 with heap := h',toks := s1.toks } := I1.kept kp
 refine ⟨⟨s1.heap.objs.size + 4,zfp s1.heap.objs.size,ztn k1 k2 s1.heap.objs.size l1 l2,Itz k1 k2 X.K l1 l2,H1,rfl,Ik,turn_zip k1 k2 _ l1 l2 (lt g1) (lt g2),Z,λ b hb => ?_,k _ G1 H1 e1 sa1 (itz_yields q1 q2 j1 j2)⟩,?_⟩
 ·have hb' : s1.heap.objs.size <= b := by
   simp only [zfp,List.mem_cons,List.not_mem_nil,or_false] at hb
   rcases hb with rfl | rfl | rfl | rfl | rfl
   ·exact Nat.le_refl _
   ·exact Nat.le_add_right _ 1
   ·exact Nat.le_add_right _ 2
   ·exact Nat.le_add_right _ 3
   ·exact Nat.le_add_right _ 4
  exact I1.fpOk hb' (I1.hok.fresh hb')
 ·obtain ⟨f0,f1,a0,b0,_,hz,_⟩ := Z
  exact ⟨_,hz,rfl⟩
end
def Cx.wA (X : Cx) (A : Around) : Cx := { X with A := A }
theorem Inv_A {X : Cx} {pins : List (Addr × Obj)} {σ : L2.St} {H : Hp} {s : Shared} {A : Around} (I : L2.Inv X pins σ H s) (h1 : A.frames = X.A.frames) (h2 : A.handled = X.A.handled) : L2.Inv (Cx.wA X A) pins σ H s :=
 ⟨⟨I.ok.mod,I.ok.kind,I.ok.glob,I.ok.blt,I.ok.above,I.ok.inj,I.ok.has,I.ok.cab,λ hc => h2.trans (I.ok.hd hc),h1.trans I.ok.frames,I.ok.stk,I.ok.exf,I.ok.bs,I.ok.bsz,I.ok.noex,I.ok.exfs,I.ok.funs,I.ok.frf⟩,I.os,I.bare,I.base,I.loc,I.cell,I.free,I.freeC,I.pin,I.hok,I.len⟩
theorem Inv_unA {X : Cx} {pins : List (Addr × Obj)} {σ : L2.St} {H : Hp} {s : Shared} {A : Around} (I : L2.Inv (Cx.wA X A) pins σ H s) (ok : X.Ok) : L2.Inv X pins σ H s := ⟨ok,I.os,I.bare,I.base,I.loc,I.cell,I.free,I.freeC,I.pin,I.hok,I.len⟩
def kBd {α : Type} (n : Nat) (P : α -> Prop) : KasT α -> Prop
 | .ret a => P a
 | .ask i j k => i < n /\ j < n /\ ∀ b,kBd n P (k b)
theorem Q2M {α β : Type} {n : Nat} {f : α -> KasT β} {P : α -> Prop} {Q : β -> Prop} (hf : ∀ a,P a -> kBd n Q (f a)) : ∀ (t : KasT α),kBd n P t -> kBd n Q (t.bind f)
 | .ret a,h => hf a h
 | .ask i j k,h => ⟨h.1,h.2.1,λ b => Q2M hf (k b) (h.2.2 b)⟩
theorem kBd_wp {α : Type} {n : Nat} {P : α -> Prop} {cmp : Nat -> Nat -> (Bool -> Shared -> Prop) -> Shared -> Prop} {lt : Nat -> Nat -> Bool} {s : Shared} {Q : α -> Shared -> Prop} (hc : ∀ i j C,i < n -> j < n -> C (lt i j) s -> cmp i j C s) : ∀ (t : KasT α),kBd n P t -> (P (kRun lt t) -> Q (kRun lt t) s) -> t.kasWp cmp Q s
 | .ret a,h,q => q h
 | .ask i j k,h,q => hc i j _ h.1 h.2.1 (kBd_wp hc (k (lt i j)) (h.2.2 _) q)
def In (n : Nat) (p : Array Nat) : Prop := ∀ k,p.getD k 0 < n
theorem In_perm {n : Nat} {p q : Array Nat} (h : In n p) (e : q.Perm p) (hn : 0 < n) : In n q := λ k => by
 rw [Q2h]
 cases hk : q[k]? with
 | none => exact hn
 | some v =>
  have hv : v ∈ p := e.mem_iff.mp (Array.mem_of_getElem? hk)
  obtain ⟨i,hi,ei⟩ := Array.mem_iff_getElem.mp hv
  have := h i
  rw [Q2h,Array.getElem?_eq_getElem hi,ei] at this
  exact this
theorem asc_bd {n : Nat} {p : Array Nat} (h : In n p) : ∀ (f m : Nat),kBd n (λ _ => True) (kas_asc p f m)
 | 0,m => trivial
 | f + 1,m => ⟨h _,h _,λ b => by cases b; exact asc_bd h f (m + 1); exact trivial⟩
theorem rev_In {n : Nat} {p : Array Nat} (h : In n p) (hn : 0 < n) (i j : Nat) : In n (kas_rev p i j) := In_perm h (mirror_perm _ _ _ _) hn
theorem desc_bd {n : Nat} (hn : 0 < n) : ∀ (f : Nat) (p : Array Nat) (m q : Nat),In n p -> kBd n (λ r : Array Nat × Nat × Nat => In n r.1) (kas_desc f p m q)
 | 0,p,m,q,h => h
 | f + 1,p,m,q,h => ⟨h _,h _,λ b => by
   cases b
   ·exact ⟨h _,h _,λ c => by
     cases c
     ·exact desc_bd hn f p _ _ h
     ·exact h⟩
   ·show kBd n _ (if true = true then _ else _)
    rw [if_pos rfl]
    split
    ·exact desc_bd hn f _ _ _ (rev_In h hn _ _)
    ·exact desc_bd hn f p _ _ h⟩
theorem tail3_bd {n : Nat} (hn : 0 < n) {p : Array Nat} (h : In n p) (m r : Nat) : kBd n (λ r : Nat × Array Nat => In n r.2) (kas_tail3 m r p) := by
 unfold kas_tail3
 refine Q2M (P := λ _ => True) (λ a _ => ?_) _ (asc_bd (rev_In h hn 0 m) _ _)
 exact rev_In h hn 0 m
theorem descPart_bd {n : Nat} (hn : 0 < n) {p : Array Nat} (h : In n p) (m r : Nat) : kBd n (λ r : Nat × Array Nat => In n r.2) (kas_descPart m r p) :=
 Q2M (λ a ha => by
  show kBd n _ (if _ > 0 then _ else _)
  split
  ·exact tail3_bd hn (rev_In ha hn _ _) _ _
  ·exact tail3_bd hn ha _ _) _ (desc_bd hn _ _ _ _ h)
theorem count_bd {n : Nat} (hn : 0 < n) {p : Array Nat} (h : In n p) (r : Nat) : kBd n (λ r : Nat × Array Nat => In n r.2) (kas_count r p) :=
 Q2M (P := λ _ => True) (λ a _ => by
  show kBd n _ (if (_ == _) = true then _ else _)
  split
  ·exact h
  ·split
   ·exact ⟨h _,h _,λ b => by
     cases b
     ·exact descPart_bd hn (rev_In h hn _ _) _ _
     ·exact h⟩
   ·exact descPart_bd hn h _ _) _ (asc_bd h _ _)
theorem place_bd {n : Nat} {p : Array Nat} (h : In n p) (k : Nat) : ∀ (f l r : Nat),kBd n (λ _ => True) (kas_place p k f l r)
 | 0,l,r => trivial
 | f + 1,l,r => by
  show kBd n _ (if l >= r then _ else _)
  split
  ·exact trivial
  ·exact ⟨h _,h _,λ b => by cases b; exact place_bd h k f _ _; exact place_bd h k f _ _⟩
theorem bin_bd {n : Nat} (hn : 0 < n) : ∀ (f : Nat) (p : Array Nat) (k : Nat),In n p -> kBd n (λ _ => True) (kas_bin f p k)
 | 0,p,k,h => trivial
 | f + 1,p,k,h => Q2M (P := λ _ => True) (λ a _ => bin_bd hn f _ _ (In_perm h (bubble_perm _ _ _) hn)) _ (place_bd h k _ _ _)
theorem sort_bd {n : Nat} (hn : 0 < n) : kBd n (λ _ => True) (kas_sort n) :=
 Q2M (λ a ha => by
  show kBd n _ (if _ < n then _ else _)
  split
  ·exact bin_bd hn _ _ _ ha
  ·exact trivial) _ (count_bd hn (λ k => by
   rw [Q2h]
   by_cases hk : k < n
   ·simp [hk]
   ·simp [hk,hn]) n)
section
variable (key : Nat -> Int)
theorem bin_ok : ∀ (f : Nat) (p : Array Nat) (k : Nat),k + f <= p.size -> Srt key p k -> ∃ p',kRun (ltK key) (kas_bin f p k) = p' /\ p'.Perm p /\ p'.size = p.size /\ Srt key p' (k + f)
 | 0,p,k,h,hs => ⟨p,rfl,Array.Perm.refl _,rfl,hs⟩
 | f + 1,p,k,h,hs => by
  obtain ⟨m,e,h1,h2,h3⟩ := place_ok key p k hs k 0 k (Nat.zero_le _) (Nat.le_refl _) (by omega) (λ i hi => by omega) (λ i i1 i2 => by omega)
  have hK : ∀ i,KQ key (bubble p k (k - m)) i = if i = m then KQ key p k else if m < i /\ i <= k then KQ key p (i - 1) else KQ key p i := λ i => by
   unfold KQ
   rw [Q2h,getElem?_bubble (by omega) (k - m) (by omega) i]
   rw [show k - (k - m) = m by omega]
   repeat' split
   all_goals rw [Q2h]
  obtain ⟨p',e',g1,g2,g3⟩ := bin_ok f (bubble p k (k - m)) (k + 1) (by rw [bubble_size]; omega) (λ i j hij hj => by
   rw [hK,hK]
   by_cases im : i = m
   ·rw [if_pos im]
    by_cases jm : j = m
    ·rw [if_pos jm]; exact Int.le_refl _
    ·rw [if_neg jm,if_pos (by omega)]
     exact Int.le_of_lt (h3 (j - 1) (by omega) (by omega))
   ·rw [if_neg im]
    by_cases jm : j = m
    ·rw [if_pos jm,if_neg (by omega)]
     exact h2 i (by omega)
    ·rw [if_neg jm]
     by_cases hi : m < i /\ i <= k
     ·rw [if_pos hi,if_pos (by omega)]
      exact hs _ _ (by omega) (by omega)
     ·rw [if_neg hi]
      by_cases hj' : m < j /\ j <= k
      ·rw [if_pos hj']
       exact hs _ _ (by omega) (by omega)
      ·rw [if_neg hj']
       exact hs _ _ hij (by omega))
  refine ⟨p',?_,g1.trans (bubble_perm _ _ _),g2.trans (bubble_size _ _ _),?_⟩
  ·show kRun _ (KasT.bind _ _) = _
   rw [Q1H,e]
   exact e'
  ·rw [show k + (f + 1) = k + 1 + f by omega]; exact g3
theorem sort_ok {n : Nat} (hn : 0 < n) : ∃ p,kRun (ltK key) (kas_sort n) = p /\ p.Perm (List.toArray (List.range n)) /\ p.size = n /\ Srt key p n := by
 obtain ⟨m,p,e,h1,h2,h3,h4,h5⟩ := count_ok key (nrem := n) (p := List.toArray (List.range n)) hn (by simp)
 have hz : p.size = n := by rw [h4]; simp
 by_cases hm : m < n
 ·obtain ⟨p',e',g1,g2,g3⟩ := bin_ok key (n - max m 1) p (max m 1) (by omega) (by rw [show max m 1 = m by omega]; exact h5)
  refine ⟨p',?_,g1.trans h3,g2.trans hz,by rw [show max m 1 + (n - max m 1) = n by omega] at g3; exact g3⟩
  unfold kas_sort
  rw [Q1H,e]
  show kRun _ (if m < n then _ else _) = _
  rw [if_pos hm]
  exact e'
 ·refine ⟨p,?_,h3,hz,by rw [show n = m by omega]; exact h5⟩
  unfold kas_sort
  rw [Q1H,e]
  show kRun _ (if m < n then _ else _) = _
  rw [if_neg hm]
  rfl
end
def Q3h {α : Type} (lt : α -> α -> Bool) (l : List α) (x : α) : Int := ((l.filter λ z => lt z x).length : Nat)
theorem rank_lt {α : Type} {lt : α -> α -> Bool} {l : List α} {x y : α} (irr : ∀ a,lt a a = false) (tr : ∀ a b c,lt a b = true -> lt b c = true -> lt a c = true) (hx : x ∈ l) (h : lt x y = true) : Q3h lt l x < Q3h lt l y := by
 have key : ∀ l : List α,(l.filter λ z => lt z x).length <= (l.filter λ z => lt z y).length := λ l => by
  induction l with
  | nil => simp
  | cons a l ih =>
   simp only [List.filter_cons]
   by_cases ha : lt a x = true
   ·rw [if_pos ha,if_pos (tr _ _ _ ha h)]; simp; exact ih
   ·rw [if_neg ha]; split
    ·simp; omega
    ·exact ih
 have strict : ∀ l : List α,x ∈ l -> (l.filter λ z => lt z x).length < (l.filter λ z => lt z y).length := λ l => by
  induction l with
  | nil => intro h; cases h
  | cons a l ih =>
   intro hm
   have base := key l
   simp only [List.filter_cons]
   rcases List.mem_cons.mp hm with rfl | hm
   ·rw [if_neg (by rw [irr]; simp),if_pos h]; simp; omega
   ·have := ih hm
    by_cases ha : lt a x = true
    ·rw [if_pos ha,if_pos (tr _ _ _ ha h)]; simp; exact this
    ·rw [if_neg ha]; split
     ·simp; omega
     ·exact this
 unfold Q3h
 have := strict l hx
 omega
theorem rank_iff {α : Type} {lt : α -> α -> Bool} {l : List α} {x y : α} (irr : ∀ a,lt a a = false) (tr : ∀ a b c,lt a b = true -> lt b c = true -> lt a c = true) (tot : ∀ a b,lt a b = false -> lt b a = false -> a = b) (hx : x ∈ l) (hy : y ∈ l) : decide (Q3h lt l x < Q3h lt l y) = lt x y := by
 cases h : lt x y with
 | true => exact decide_eq_true (rank_lt irr tr hx h)
 | false =>
  refine decide_eq_false λ z => ?_
  cases h' : lt y x with
  | true => have := rank_lt irr tr hy h'; omega
  | false => rw [tot _ _ h h'] at z; omega
abbrev inSort (h : Heap) (a : Addr) (vs : List Value) : Heap := ((h.update a (Obj.mapSeq λ _ => (#[] : Array Value))).push (seqObj "tuple" vs.toArray 0)).push (seqObj "list" #[] 0)
theorem inSort_old {h : Heap} {a b : Addr} {vs : List Value} {o : Obj} (hb : b ≠ a) (e : h.get? b = some o) : (inSort h a vs).get? b = some o :=
 Heap.get?_push_of_some _ (Heap.get?_push_of_some _ ((Heap.get?_update_ne _ _ _ _ hb).trans e))
theorem inSort_own {h : Heap} {a : Addr} {vs : List Value} {n : Nat} (e : h.get? a = some (seqObj "list" vs.toArray n)) : ∃ m,(h.update a (Obj.mapSeq λ _ => (#[] : Array Value))).get? a = some (seqObj "list" #[] m) /\ (inSort h a vs).get? a = some (seqObj "list" #[] m) :=
 ⟨_,get?_update_seq e _,Heap.get?_push_of_some _ (Heap.get?_push_of_some _ (get?_update_seq e _))⟩
section
variable {prog : Program} {w : World} {A : Around} {E : Value -> Shared -> Prop} {s : Shared}
def outOf (p : Array Nat) (vs : List Value) : List Value := p.toList.map λ i => vs.getD i Value.none
def Runs (prog : Program) (w : World) (A : Around) (vs : List Value) (s : Shared) (G : SortSt -> Prop) : Prop :=
 ∀ E : Value -> Shared -> Prop,wpAny (model prog w) A (if vs.toArray.size < 2 then pure general' else keyKind' vs.toArray)
  (λ κ s1 => wpAny (model prog w) A ((if vs.toArray.size < 2 then pure () else sortRuns').run (SortSt.mk' κ (vs.toArray.zip vs.toArray) #[] 7 none)) (λ r s2 => s2 = s /\ failedOf r.2 = none /\ G r.2) E s1) E s
theorem if_bind {α β : Type} {M : Model} {c : Prop} [Decidable c] {x y : Sem α} {f : α -> Sem β} {Q : β -> Shared -> Prop} (h : wpAny M A ((if c then x else y) >>= f) Q E s) : wpAny M A (if c then x >>= f else y >>= f) Q E s := by
 by_cases hc : c
 ·rw [if_pos hc] at h ⊢; exact h
 ·rw [if_neg hc] at h ⊢; exact h
theorem sort_outer {a : Addr} {vs : List Value} {n : Nat} {G : SortSt -> Prop} {P : PySem.Fin -> Shared -> Prop} (ho : s.heap.get? a = some (seqObj "list" vs.toArray n)) (lim : vs.length <= sizeLine) (hr : Runs prog w A vs { s with heap := inSort s.heap a vs } G)
  (h : ∀ st,G st -> ((arrOf st).map (·.2)).size <= sizeLine + 1 /\ P (.done (.ret .none)) { s with heap := sortedHeap s.heap a vs ((arrOf st).map (·.2)) }) : wpAny (model prog w) A (Builtin.«list.sort» ⟨[.ref a],[]⟩) P E s := by
 obtain ⟨m,g1,g2⟩ := inSort_own ho
 rw [list_sort_plain]
 refine wpAny_bind (listItems_at ho rfl (wpAny_bind (listUpdate_at ho rfl ?_ (by simpa using lim) (Nat.zero_le _))))
 refine wpAny_bind (seqEpoch_at g1 rfl (wpAny_bind (wpAny_newTuple (wpAny_bind (wpAny_newList (wpAny_holding ?_) (Nat.zero_le _))) lim)))
 refine if_bind (wpAny_bind (wpAny_mono (hr E) (λ κ s1 q1 => wpAny_bind (wpAny_mono q1 (λ r s2 q2 => ?_) λ _ _ e => e)) λ _ _ e => e))
 obtain ⟨⟨⟩,st⟩ := r
 obtain ⟨rfl,f0,gs⟩ := q2
 obtain ⟨z,q⟩ := h st gs
 refine wpAny_bind (seqEpoch_at g2 rfl (wpAny_bind (listUpdate_at g2 rfl ?_ (Nat.zero_le _) z)))
 dsimp only at f0
 rw [f0,bne_self_eq_false]
 exact wpAny_pure q
def Cmp (prog : Program) (w : World) (A : Around) (vs : List Value) (key : Nat -> Int) (s : Shared) : Prop :=
 ∃ κ,(∀ (E : Value -> Shared -> Prop) (Q : SortKind -> Shared -> Prop),Q κ s -> wpAny (model prog w) A (keyKind' vs.toArray) Q E s) /\ ∀ i j (C : Bool -> Shared -> Prop),i < vs.length -> j < vs.length -> C (decide (key i < key j)) s -> wpAny (model prog w) A (keyLt' κ (vs.getD i Value.none) (vs.getD j Value.none)) C (λ _ _ => False) s
def Sortd (vs : List Value) (key : Nat -> Int) (st : SortSt) : Prop := ∃ p : Array Nat,p.Perm (List.toArray (List.range vs.length)) /\ p.size = vs.length /\ Srt key p vs.length /\ (arrOf st).map (·.2) = List.toArray (outOf p vs)
theorem runs_few {vs : List Value} {key : Nat -> Int} (h : vs.length < 2) : Runs prog w A vs s (Sortd vs key) := λ E => by
 have c : vs.toArray.size < 2 := by simpa using h
 simp only [if_pos c]
 refine wpAny_pure (wpAny_pure ⟨rfl,rfl,List.toArray (List.range vs.length),Array.Perm.refl _,by simp,λ i j hij hj => ?_,?_⟩)
 ·rw [show i = j by omega]
  exact Int.le_refl _
 ·show (vs.toArray.zip vs.toArray).map (·.2) = _
  match vs,h with
  | [],_ => simp [outOf]
  | [v],_ => simp [outOf]
theorem runs_many {vs : List Value} {key : Nat -> Int} (h : 2 <= vs.length) (h64 : vs.length < 64) (cm : Cmp prog w A vs key s) : Runs prog w A vs s (Sortd vs key) := λ E => by
 have c : ¬ vs.toArray.size < 2 := by simpa using h
 simp only [if_neg c]
 obtain ⟨κ,kd,cm⟩ := cm
 obtain ⟨p,ep,g1,g2,g3⟩ := sort_ok key (n := vs.length) (by omega)
 refine kd _ _ (kat_run (ks := vs) (Q := λ st s2 => s2 = s /\ failedOf st = none /\ Sortd vs key st) (G := λ q s2 => s2 = s /\ q = p) rfl h h64 (λ q st s2 _ a2 a3 a4 => ⟨a4.1,a3,p,g1,g2,g3,?_⟩) (kBd_wp (n := vs.length) (lt := ltK key) cm _ (sort_bd (by omega)) λ _ => ⟨rfl,ep⟩))
 rw [a4.2] at a2
 exact kat_snds (ks := vs) (vs := vs) rfl a2
theorem sort_any {a : Addr} {vs : List Value} {n : Nat} {key : Nat -> Int} {P : PySem.Fin -> Shared -> Prop} (ho : s.heap.get? a = some (seqObj "list" vs.toArray n)) (h64 : vs.length < 64)
  (hk : 2 <= vs.length -> Cmp prog w A vs key { s with heap := inSort s.heap a vs })
  (h : ∀ p : Array Nat,p.Perm (List.toArray (List.range vs.length)) -> p.size = vs.length -> Srt key p vs.length -> P (.done (.ret .none)) { s with heap := sortedHeap s.heap a vs (List.toArray (outOf p vs)) }) : wpAny (model prog w) A (Builtin.«list.sort» ⟨[.ref a],[]⟩) P E s := by
 have lim : vs.length <= sizeLine := by rw [sizeLine_eq]; omega
 refine sort_outer (G := Sortd vs key) ho lim ?_ λ st ⟨p,p1,p2,p3,e⟩ => ?_
 ·by_cases c : vs.length < 2
  ·exact runs_few c
  ·exact runs_many (by omega) h64 (hk (by omega))
 ·rw [e]
  exact ⟨by simp [outOf]; omega,h p p1 p2 p3⟩
theorem call_sorted {x : Value} {Q : Value -> Shared -> Prop}
  (hc : wpAny (model prog w) A.in1 (collect x) (λ vs s1 => ∃ key,vs.length < 64 /\ (2 <= vs.length -> Cmp prog w A.in1.in1 vs key { s1 with heap := inSort (s1.heap.push (seqObj "list" vs.toArray 0)) s1.heap.objs.size vs }) /\
   ∀ p : Array Nat,p.Perm (List.toArray (List.range vs.length)) -> p.size = vs.length -> Srt key p vs.length -> Q (.ref s1.heap.objs.size) { s1 with heap := sortedHeap (s1.heap.push (seqObj "list" vs.toArray 0)) s1.heap.objs.size vs (List.toArray (outOf p vs)) }) E s) : wpAny (model prog w) A (call (.builtin "sorted") [x]) Q E s := by
 have body : wpAny (model prog w) A.in1 (Builtin.«sorted» ⟨[x],[]⟩) (λ fin s' => ∃ v,fin = .done (.ret v) /\ Q v s') E s := by
  refine wpAny_bind (m := checkCount "sorted" 1 1 _) (wpAny_pure (wpAny_bind (thn hc λ vs s1 ⟨key,h64,hk,hq⟩ => wpAny_bind (wpAny_newList (wpAny_bind (wpAny_holding ?_)) (by rw [sizeLine_eq]; omega)))))
  have own : (s1.heap.push (seqObj "list" vs.toArray 0)).get? s1.heap.objs.size = some (seqObj "list" vs.toArray 0) := Heap.get?_push_size _ rfl
  exact wpAny_call_entry slot_list_sort ⟨_,own,rfl⟩ entry_list_sort (sort_any (s := { s1 with heap := s1.heap.push (seqObj "list" vs.toArray 0) }) own h64 hk λ p p1 p2 p3 => ⟨_,rfl,wpAny_pure ⟨_,rfl,hq p p1 p2 p3⟩⟩) (args_list_sort _)
 exact Calls.call_function_entry kind_sorted plain_sorted entry_sorted (args_sorted1 _) body
end
theorem Q2W {prog : Program} {w : World} {A : Around} {s : Shared} {id : String} {b : Builtin} {args : Args} {R : Result -> Shared -> Prop} (pl : plainId id = true) (en : entryFor table id = some b)
  (h : wpAny (model prog w) A.in1 (b args) (λ fin s' => match fin with | .done f => R (.ok f) s' | .again c => c.quiet = true /\ codeAny (model prog w) A c R s') (λ e s' => R (.error e) s') s) : codeAny (model prog w) A (.builtin id args) R s :=
 codeAny_builtin en (by rw [Around.under_plainId pl]; exact h)
abbrev lsC (its : List Value) (c : Nat) : Obj := { cls := .type "list",dict := none,data := .seq its.toArray c,slots := #[] }
theorem after_pure {M : Model} {A : Around} {E : Value -> Shared -> Prop} {s : Shared} {α : Type} {t : Sem α} {Q : α -> Shared -> Prop} {F : Shared -> Prop} {u : Sem Unit} (hu : u = pure ()) (h : wpAny M A u (λ _ s2 => F s2) E s) (k : ∀ s2,F s2 -> wpAny M A t Q E s2) : wpAny M A t Q E s := by
 subst hu
 have := wpAny_bind (f := λ _ => t) (wpAny_mono h (λ _ s2 q => k s2 q) λ _ _ e => e)
 simpa using this
theorem fp_pin {X : Cx} {pins : List (Addr × Obj)} {H : Hp} {b S : Addr} {o : Obj} (h : FpOk X pins H b) (hb : S ≠ b) : FpOk X ((S,o) :: pins) H b := by
 obtain ⟨f0,f1,f2,f3,f4,f5⟩ := h
 refine ⟨f0,f1,f2,f3,f4,λ p hp => ?_⟩
 simp only [List.mem_append,List.mem_cons] at hp
 rcases hp with q | rfl | q
 ·exact f5 p (List.mem_append_left _ q)
 ·exact hb
 ·exact f5 p (List.mem_append_right _ q)
theorem Inv_unpin {X : Cx} {pins : List (Addr × Obj)} {σ : L2.St} {H : Hp} {s : Shared} {q : Addr × Obj} (I : L2.Inv X (q :: pins) σ H s) : L2.Inv X pins σ H s := I.pins_of λ p hp => I.pin p (List.mem_append_right _ (List.mem_cons_of_mem _ hp))
structure Got (X : Cx) (pins : List (Addr × Obj)) (σ : L2.St) (O : Sto) (G1 : Wd) (xs : List D) (S : Addr) (i : Nat) (s : Shared) (H : Hp) (G : Wd) (vs : List V) (its : List Value) (c : Nat) : Prop where
 inv : L2.Inv X ((S,lsC its c) :: pins) σ H s
 ext : Ext G1 G
 sa : SA X.K G H O
 iss : Iss X.K G (xs.take i) vs
 vals : Vals vs its
section
variable {X : Cx} {A : Around} {tg : Expr} {J : It} {fp : List Addr} {it : Addr} {tn : Nat -> Heap -> Prop} {pins : List (Addr × Obj)} {σ : L2.St} {O : Sto} {G1 : Wd} {xs : List D} {S : Addr} {res : Value} {R : Result -> Shared -> Prop}
theorem Got.more {i : Nat} {s s2 : Shared} {H H2 : Hp} {G G2 : Wd} {vs : List V} {its : List Value} {c : Nat} {x : D} {xv : V} {u : Value} (g : Got X pins σ O G1 xs S i s H G vs its c) (I2 : L2.Inv X ((S,lsC its c) :: pins) σ H2 s2) (hSs : X.s₀.heap.objs.size <= S) (hSC : ∀ x c,X.env.cells.lookup x = some c -> c ≠ S) (hSp : ∀ p ∈ X.pn ++ pins,p.1 ≠ S) (hx : xs[i]? = some x) (e2 : Ext G G2) (sa2 : SA X.K G2 H2 O) (ix : Is X.K G2 x xv) (r : RelV xv u) :
  Got X pins σ O G1 xs S (i + 1) { s2 with heap := s2.heap.update S (Obj.mapSeq (·.push u)) } H2 G2 (vs ++ [xv]) (its ++ [u]) (c + 1) := by
 have p := I2.pin (S,lsC its c) (List.mem_append_right _ List.mem_cons_self)
 have Iq : L2.Inv X pins σ H2 { s2 with heap := s2.heap.update S (Obj.mapSeq (·.push u)) } := (Inv_unpin I2).turned (t' := s2.toks) (λ b o hb q => (Heap.get?_update_other _ _ (Ne.symm hb)).trans q) p.2.1 p.2.2.1 (.inr hSs) hSC hSp
 refine ⟨Iq.pins_of λ q hq => ?_,g.ext.trans e2,sa2,?_,g.vals.append (.cons r .nil)⟩
 ·rcases List.mem_cons.mp hq with rfl | hq
  ·refine ⟨?_,p.2.1,p.2.2.1,p.2.2.2.1,λ v z => by cases z⟩
   rw [Heap.get?_update_self _ p.1 rfl]
   simp [Obj.mapSeq,lsC]
  ·exact Iq.pin q (List.mem_append_right _ hq)
 ·rw [List.take_add_one,hx]
  exact (g.iss.ext e2).append (.cons ix .nil)
theorem got_loop (hA : X.A = A.in1) (hc : X.calm = true) (T : Turn X.prog X.w X.K tg J fp it tn) (hgo : ∀ v,letOwnedTupleGo tg (.ref it) v = pure ()) (Yi : Q2c X.K G1 J xs) (hsz : xs.length <= sizeLine) (hSs : X.s₀.heap.objs.size <= S) (hSC : ∀ x c,X.env.cells.lookup x = some c -> c ≠ S) (hSp : ∀ p ∈ X.pn ++ pins,p.1 ≠ S)
  (fpS : ∀ (H : Hp),(∀ b ∈ fp,H b = none) -> ∀ b ∈ fp,FpOk X pins H b) (hSf : S ∉ fp)
  (fin : ∀ s H G vs its c,Got X pins σ O G1 xs S xs.length s H G vs its c -> R (.ok (.ret res)) s) :
  ∀ (k i : Nat) (s : Shared) (H : Hp) (G : Wd) (vs : List V) (its : List Value) (c : Nat),i + k = xs.length -> Got X pins σ O G1 xs S i s H G vs its c -> tn i s.heap -> (∀ b ∈ fp,H b = none) ->
   codeAny (model X.prog X.w) A (.builtin "list.extend.loop" ⟨[.ref S,.ref it,res],[]⟩) R s
 | 0,i,s,H,G,vs,its,c,hk,g,st,fr => by
  have hi : i = xs.length := by omega
  subst hi
  have fps : ∀ b ∈ fp,FpOk X ((S,lsC its c) :: pins) H b := λ b hb => fp_pin (fpS H fr b hb) λ z => hSf (z ▸ hb)
  refine Q2W F.plain_extend_loop F.entry_extend_loop (hA ▸ wpAny_bind (thn (T.done X rfl rfl rfl hc xs.length _ s σ H _ g.inv fps st (Yi.stop _ H (g.ext.g.trans g.sa.sub) (Nat.le_refl _))) λ r s' ⟨hr,I'⟩ => ?_))
  subst hr
  exact wpAny_pure (fin s' H G vs its c ⟨I',g.ext,g.sa,g.iss,g.vals⟩)
 | k + 1,i,s,H,G,vs,its,c,hk,g,st,fr => by
  have hi : i < xs.length := by omega
  have fps : ∀ b ∈ fp,FpOk X ((S,lsC its c) :: pins) H b := λ b hb => fp_pin (fpS H fr b hb) λ z => hSf (z ▸ hb)
  have hl : its.length = i := by
   rw [<- g.vals.length,<- g.iss.length,List.length_take]; omega
  refine Q2W F.plain_extend_loop F.entry_extend_loop (hA ▸ wpAny_bind (thn (T.item X rfl rfl rfl hc i _ s σ H _ g.inv fps st (Yi.go i H (g.ext.g.trans g.sa.sub) hi)) λ r s1 ⟨u,hr,h1⟩ => ?_))
  subst hr
  refine after_pure (hgo u) h1 λ s2 ⟨xv,H2,I2,r2,y2,st2,fr2⟩ => ?_
  obtain ⟨x,G2,hx,e2,sa2,ix⟩ := Yi.yld i xv H H2 G O g.ext g.sa y2 hi
  have p2 := I2.pin (S,lsC its c) (List.mem_append_right _ List.mem_cons_self)
  refine wpAny_bind (listUpdate_at p2.1 rfl (wpAny_pure ⟨plainId_quiet F.plain_extend_loop _,got_loop hA hc T hgo Yi hsz hSs hSC hSp fpS hSf fin k (i + 1) _ H2 G2 _ _ (c + 1) (by omega) (g.more I2 hSs hSC hSp hx e2 sa2 ix r2) ?_ fr2⟩) (by simp; omega) (by simp; omega))
  exact T.keep _ _ _ st2 λ b hb o q => (Heap.get?_update_other _ _ (λ z => hSf (by rw [z]; exact hb))).trans q
end
theorem zip_nolen : typeLookup (.type "zip") "__len__" = pure none := by rw [typeLookup_type,builtinLookup_eq_fast]; kernel_rfl
theorem zip_nohint : typeLookup (.type "zip") "__length_hint__" = pure none := by rw [typeLookup_type,builtinLookup_eq_fast]; kernel_rfl
structure NoLen (T : String) : Prop where
 len : typeLookup (.type T) "__len__" = pure none
 hint : typeLookup (.type T) "__length_hint__" = pure none
 nl : (Value.type T == Value.type "list") = false
 nt : (Value.type T == Value.type "tuple") = false
theorem nolen_zip : NoLen "zip" := ⟨zip_nolen,zip_nohint,by decide,by decide⟩
theorem collect_outer {prog : Program} {w : World} {A : Around} {s : Shared} {E : Value -> Shared -> Prop} {it : Addr} {Ty : String} {Q : List Value -> Shared -> Prop} (hN : NoLen Ty) (hT : s.TypeIs (.ref it) Ty)
  (hi : ∀ (h : Heap) (F : Value -> Shared -> Prop) (E' : Value -> Shared -> Prop),(∀ c o,s.heap.get? c = some o -> h.get? c = some o) -> F (.ref it) { s with heap := h } -> wpAny (model prog w) A.in1 (pyIter (.ref it)) F E' { s with heap := h })
  (k : ∀ (h : Heap) (c : Nat) (R : Result -> Shared -> Prop),(∀ b o,s.heap.get? b = some o -> h.get? b = some o) -> h.get? s.heap.objs.size = some (lsC [] c) -> (∀ s' its c',s'.heap.get? s.heap.objs.size = some (lsC its c') -> Q its s' -> R (.ok (.ret (.ref s.heap.objs.size))) s') ->
   codeAny (model prog w) A (.builtin "list.extend.loop" ⟨[.ref s.heap.objs.size,.ref it,.ref s.heap.objs.size],[]⟩) R { s with heap := h }) :
  wpAny (model prog w) A (collect (.ref it)) Q E s := by
 obtain ⟨h,g,d,tk,os⟩ := s
 obtain ⟨o,ho,hc⟩ := hT
 have lt : it < h.objs.size := Heap.lt_size ho
 have ne : h.objs.size ≠ it := Nat.ne_of_gt lt
 dsimp only at hi k
 wp_walk
 refine Q2W F.plain_proto_collect F.entry_proto_collect ?_
 wp_walk
 have up : ∀ b u,h.get? b = some u -> (h.push { cls := .type "list",data := .seq #[] }).get? b = some u := λ b u e => Heap.get?_push_of_some _ e
 have own : (h.push { cls := .type "list",data := .seq #[] }).get? h.objs.size = some { cls := .type "list",data := .seq #[] } := Heap.get?_push_size _ rfl
 have ty : Shared.TypeIs ⟨h.push { cls := .type "list",data := .seq #[] },g,d,tk,os⟩ (.ref it) Ty := ⟨o,up _ _ ho,hc⟩
 have len := hN.len
 have hint := hN.hint
 have nl := hN.nl
 have nt := hN.nt
 refine ⟨plainId_quiet F.plain_list_iadd _,Q2W F.plain_list_iadd F.entry_list_iadd ?_⟩
 have sr : Builtin.List.listSameRef (.ref h.objs.size) (.ref it) = false := beq_eq_false_iff_ne.mpr ne
 wp_walk using hi _ _ _ up
 have g1 := Heap.get?_update_self (Obj.mapSeq λ x => x.push Value.none) own rfl
 refine ⟨plainId_quiet F.plain_extend_loop _,k _ _ _ (λ b u e => ?_) (Heap.get?_update_self (Obj.mapSeq λ x => x.pop) g1 rfl) λ s' its c' e q => wpAny_bind (wpAny_load e (wpAny_pure q))⟩
 have nb : h.objs.size ≠ b := λ z => Nat.lt_irrefl _ (z ▸ Heap.lt_size e)
 rw [Heap.get?_update_other _ _ nb,Heap.get?_update_other _ _ nb]
 exact up b u e
theorem collect_turn {X : Cx} {A : Around} {tg : Expr} {J : It} {fp : List Addr} {it : Addr} {tn : Nat -> Heap -> Prop} {pins : List (Addr × Obj)} {σ : L2.St} {O : Sto} {G1 : Wd} {xs : List D} {s : Shared} {H : Hp} {E : Value -> Shared -> Prop} {Ty : String} {Q : List Value -> Shared -> Prop}
  (hA : X.A = A.in1) (hc : X.calm = true) (T : Turn X.prog X.w X.K tg J fp it tn) (hgo : ∀ v,letOwnedTupleGo tg (.ref it) v = pure ()) (Yi : Q2c X.K G1 J xs) (hsz : xs.length <= sizeLine) (hN : NoLen Ty) (hT : s.TypeIs (.ref it) Ty) (I : L2.Inv X pins σ H s) (st : tn 0 s.heap) (f : ∀ b ∈ fp,FpOk X pins H b) (sa : SA X.K G1 H O)
  (hQ : ∀ (s' : Shared) (H' : Hp) (G' : Wd) (vs : List V) (its : List Value),L2.Inv X pins σ H' s' -> Ext G1 G' -> SA X.K G' H' O -> Iss X.K G' xs vs -> Vals vs its -> Q its s') : wpAny (model X.prog X.w) A (collect (.ref it)) Q E s := by
 have out : s.heap.objs.size ∉ fp := λ m => let ⟨o,e,_⟩ := T.obj 0 _ st _ m; Nat.lt_irrefl _ (Heap.lt_size e)
 obtain ⟨g0,g1,g2,g3,g4,g5⟩ : FpOk X pins H s.heap.objs.size := I.fpOk (Nat.le_refl _) (I.hok.fresh (Nat.le_refl _))
 refine collect_outer hN hT (λ h F E' up q => T.self A.in1 0 _ _ _ (T.keep 0 _ _ st λ b _ o e => up b o e) q) λ h c R up own kr => ?_
 have I3 : L2.Inv X pins σ H { s with heap := h,toks := s.toks } := I.kept up
 refine got_loop hA hc T hgo Yi hsz I.sz g4 g5 (λ H' fr b hb => ⟨fr b hb,(f b hb).2⟩) out (λ s' H' G' vs its c' g => ?_) xs.length 0 _ H G1 [] [] c (by omega) ⟨I3.pins_of λ p hp => ?_,Ext.refl _,sa,.nil,.nil⟩ (T.keep 0 _ _ st λ b _ o e => up b o e) λ b hb => (f b hb).1
 ·exact kr s' its c' (g.inv.pin (_,lsC its c') (List.mem_append_right _ List.mem_cons_self)).1 (hQ s' H' G' vs its (Inv_unpin g.inv) g.ext g.sa (by have := g.iss; rwa [List.take_length] at this) g.vals)
 ·rcases List.mem_cons.mp hp with rfl | q
  ·exact ⟨own,g0,g1,g2,λ v z => by cases z⟩
  ·exact I3.pin p (List.mem_append_right _ q)
structure Ord {α : Type} (lt : α -> α -> Bool) : Prop where
 irr : ∀ a,lt a a = false
 tr : ∀ a b c,lt a b = true -> lt b c = true -> lt a c = true
 tot : ∀ a b,lt a b = false -> lt b a = false -> a = b
def srt {α : Type} (lt : α -> α -> Bool) (l : List α) : List α := l.mergeSort λ a b => !lt b a
theorem Q1K {α : Type} (lt : α -> α -> Bool) (l : List α) : (srt lt l).Perm l := List.mergeSort_perm _ _
theorem Ord.trle {α : Type} {lt : α -> α -> Bool} (o : Ord lt) : ∀ a b c : α,(!lt b a) = true -> (!lt c b) = true -> (!lt c a) = true := λ a b c h1 h2 => by
 have h1 : lt b a = false := by simpa using h1
 have h2 : lt c b = false := by simpa using h2
 cases h : lt c a with
 | false => rfl
 | true =>
  cases h3 : lt a b with
  | true => rw [o.tr _ _ _ h h3] at h2; cases h2
  | false => rw [o.tot _ _ h3 h1] at h; rw [h] at h2; cases h2
theorem Ord.totle {α : Type} {lt : α -> α -> Bool} (o : Ord lt) : ∀ a b : α,((!lt b a) || (!lt a b)) = true := λ a b => by
 cases h : lt b a with
 | false => rfl
 | true =>
  cases h2 : lt a b with
  | false => rfl
  | true => have := o.tr _ _ _ h h2; rw [o.irr] at this; cases this
theorem srt_pw {α : Type} {lt : α -> α -> Bool} (o : Ord lt) (l : List α) : (srt lt l).Pairwise λ a b => (!lt b a) = true := List.pairwise_mergeSort o.trle o.totle l
theorem srt_uniq {α : Type} {lt : α -> α -> Bool} (o : Ord lt) {l q : List α} (h1 : q.Perm l) (h2 : q.Pairwise λ a b => (!lt b a) = true) : q = srt lt l :=
 List.Perm.eq_of_pairwise (λ a b _ _ x y => o.tot a b (by simpa using y) (by simpa using x)) h2 (srt_pw o l) (h1.trans (Q1K lt l).symm)
theorem pp_mem {p : Array Nat} {n : Nat} (g : p.Perm (List.toArray (List.range n))) : ∀ i ∈ p.toList,i < n := λ i hi => by
 have : i ∈ List.toArray (List.range n) := g.mem_iff.mp (Array.mem_toList_iff.mp hi)
 simpa using this
theorem pp_map {α : Type} [Inhabited α] {p : Array Nat} {ps : List α} (g : p.Perm (List.toArray (List.range ps.length))) : (p.toList.map λ i => ps.getD i default).Perm ps := by
 have e : (List.range ps.length).map (λ i => ps.getD i default) = ps := by
  apply List.ext_getElem
  ·simp
  ·intro i h1 h2
   simp
   rw [List.getElem?_eq_getElem h2]
   rfl
 have q : p.toList.Perm (List.range ps.length) := by
  have := Array.perm_iff_toList_perm.mp g
  simpa using this
 have := q.map λ i => ps.getD i default
 rw [e] at this
 exact this
theorem sorted_fin {α : Type} [Inhabited α] {lt : α -> α -> Bool} (o : Ord lt) {K : PySem.W.Frag} {G : Wd} {ps : List α} {f : α -> D} {vs : List V} {its : List Value} {key : Nat -> Int} (hkey : ∀ i,i < ps.length -> key i = Q3h lt ps (ps.getD i default)) (is : Iss K G (ps.map f) vs) (va : Vals vs its)
  {p : Array Nat} (g1 : p.Perm (List.toArray (List.range ps.length))) (g2 : p.size = ps.length) (g3 : Srt key p ps.length) : ∃ us,Vals us (outOf p its) /\ Iss K G ((srt lt ps).map f) us /\ us.length = ps.length := by
 have hb := pp_mem g1
 have e1 := is.length
 have e2 := va.length
 rw [List.length_map] at e1
 refine ⟨p.toList.map λ i => vs.getD i .non,?_,?_,by simp [g2]⟩
 ·unfold outOf
  have : ∀ l : List Nat,(∀ i ∈ l,i < ps.length) -> Vals (l.map λ i => vs.getD i .non) (l.map λ i => its.getD i Value.none) := λ l => by
   induction l with
   | nil => intro _; exact .nil
   | cons a l ih =>
    intro h
    have ha := h a List.mem_cons_self
    obtain ⟨u,hu,ru⟩ := va.get (i := a) (x := vs[a]'(by omega)) (by simp)
    refine .cons ?_ (ih λ i hi => h i (List.mem_cons_of_mem _ hi))
    dsimp only
    rw [List.getD_eq_getElem?_getD,List.getD_eq_getElem?_getD,List.getElem?_eq_getElem (show a < vs.length by omega),hu]
    exact ru
  exact this _ hb
 ·rw [<- srt_uniq o (pp_map g1) ?_]
  ·have : ∀ l : List Nat,(∀ i ∈ l,i < ps.length) -> Iss K G ((l.map λ i => ps.getD i default).map f) (l.map λ i => vs.getD i .non) := λ l => by
    induction l with
    | nil => intro _; exact .nil
    | cons a l ih =>
     intro h
     have ha := h a List.mem_cons_self
     obtain ⟨v,hv,iv⟩ := is.get (i := a) (d := f ps[a]) (by simp [ha])
     refine .cons ?_ (ih λ i hi => h i (List.mem_cons_of_mem _ hi))
     dsimp only
     rw [List.getD_eq_getElem?_getD,List.getD_eq_getElem?_getD,List.getElem?_eq_getElem ha,hv]
     exact iv
   exact this _ hb
  ·rw [List.pairwise_iff_getElem]
   intro i j hi hj hij
   rw [List.length_map,Array.length_toList] at hi hj
   have kq : ∀ i (h : i < p.size),KQ key p i = Q3h lt ps (ps.getD p[i] default) := λ i h => by
    unfold KQ
    rw [Q2h,Array.getElem?_eq_getElem h,Option.getD_some]
    exact hkey _ (hb _ (Array.mem_toList_iff.mpr (Array.getElem_mem h)))
   have k := g3 i j (Nat.le_of_lt hij) (by omega)
   rw [kq i hi,kq j hj] at k
   rw [List.getElem_map,List.getElem_map,Array.getElem_toList,Array.getElem_toList]
   have mem : ∀ i (h : i < p.size),ps.getD p[i] default ∈ ps := λ i h => by
    have := hb _ (Array.mem_toList_iff.mpr (Array.getElem_mem h))
    rw [List.getD_eq_getElem?_getD,List.getElem?_eq_getElem this]
    exact List.getElem_mem _
   have := rank_iff o.irr o.tr o.tot (mem j hj) (mem i hi)
   rw [<- this]
   simp only [Bool.not_eq_true',decide_eq_false_iff_not]
   omega
def ltP (a b : Int × Int) : Bool := decide (a.1 < b.1 \/ (a.1 = b.1 /\ a.2 < b.2))
theorem ordP : Ord ltP := ⟨λ a => by simp [ltP],λ a b c h1 h2 => by simp [ltP] at *; omega,λ a b h1 h2 => by
 simp [ltP] at *
 obtain ⟨a1,a2⟩ := a; obtain ⟨b1,b2⟩ := b
 simp at *
 omega⟩
abbrev pD (p : Int × Int) : D := .tup [.int p.1,.int p.2]
def CmpD {α : Type} [Inhabited α] (X : Cx) (lt : α -> α -> Bool) (f : α -> D) : Prop :=
 ∀ (A : Around) (G : Wd) (H : Hp) (pins : List (Addr × Obj)) (σ : L2.St) (s : Shared) (s' : Shared) (O : Sto) (ps : List α) (vs : List V) (its : List Value),L2.Inv X pins σ H s -> SA X.K G H O -> Iss X.K G (ps.map f) vs -> Vals vs its -> 2 <= ps.length -> (∀ b o,s.heap.get? b = some o -> s'.heap.get? b = some o) ->
  Cmp X.prog X.w A its (λ i => Q3h lt ps (ps.getD i default)) s'
theorem getD_at {α : Type} {l : List α} {i : Nat} (h : i < l.length) (d : α) : l.getD i d = l[i] := by rw [List.getD_eq_getElem?_getD,List.getElem?_eq_getElem h]; rfl
theorem at_mem {α : Type} {l : List α} {i : Nat} (h : i < l.length) (d : α) : l.getD i d ∈ l := by rw [getD_at h]; exact List.getElem_mem _
theorem cmpP {X : Cx} : CmpD X ltP pD := λ A G H pins σ s s' O ps vs its I sa is va h2 up => by
 have e1 := is.length
 have e2 := va.length
 rw [List.length_map] at e1
 have at' : ∀ i,i < ps.length -> ∃ a t u,its.getD i Value.none = .ref a /\ ∃ o n,s'.heap.get? a = some o /\ o.cls = .type "tuple" /\ o.data = .seq #[.int (ps.getD i default).1 t,.int (ps.getD i default).2 u] n := λ i hi => by
  obtain ⟨v,hv,iv⟩ := is.get (i := i) (d := pD ps[i]) (by simp [hi])
  obtain ⟨w,hw,rw'⟩ := va.get hv
  cases iv with
  | tup h r =>
  cases r with | cons j1 r => cases r with | cons j2 r =>
  cases r
  cases j1
  cases j2
  cases rw'
  obtain ⟨its2,v2,⟨o,g1,g2,n,g3⟩,_⟩ := I.tuple (Q1c sa.sub h)
  obtain ⟨u1,u2,rfl,q1,q2⟩ := vals2 v2
  obtain ⟨t,rfl⟩ := q1
  obtain ⟨t',rfl⟩ := q2
  refine ⟨_,t,t',by rw [List.getD_eq_getElem?_getD,hw]; rfl,o,n,up _ _ g1,g2,?_⟩
  rw [getD_at hi]
  exact g3
 refine ⟨tuples' (Value.type "int" != Value.type "tuple"),λ E Q hq => ?_,λ i j C hi hj hC => ?_⟩
 ·have tp : ∀ (l : List Nat),(∀ i ∈ l,i < ps.length) -> ∃ fs,KatTups s'.heap (l.map λ i => its.getD i Value.none) fs /\ fs.length = l.length /\ ∀ f ∈ fs,∃ k t,f = Value.int k t := λ l => by
   induction l with
   | nil => intro _; exact ⟨[],.nil,rfl,λ f h => by cases h⟩
   | cons a l ih =>
    intro h
    obtain ⟨fs,f1,f2,f3⟩ := ih λ i hi => h i (List.mem_cons_of_mem _ hi)
    obtain ⟨b,t,u,e,o,n,g1,g2,g3⟩ := at' a (h a List.mem_cons_self)
    refine ⟨.int (ps.getD a default).1 t :: fs,?_,by simp [f2],λ f hf => ?_⟩
    ·show KatTups s'.heap (its.getD a Value.none :: _) _
     rw [e]
     exact .cons g1 g2 g3 rfl f1
    ·rcases List.mem_cons.mp hf with q | q
     ·exact ⟨_,_,q⟩
     ·exact f3 f q
  obtain ⟨fs,f1,f2,f3⟩ := tp (List.range ps.length) λ i hi => List.mem_range.mp hi
  have ei : ((List.range ps.length).map λ i => its.getD i Value.none) = its := by
   apply List.ext_getElem
   ·simp; omega
   ·intro i h1 h3
    simp
    rw [List.getElem?_eq_getElem h3]; rfl
  rw [ei] at f1
  refine kat_kind f1 (by rw [f2,List.length_range]; omega) (λ f hf => ?_) (by decide) hq
  obtain ⟨k,t,rfl⟩ := f3 f hf
  exact .now
 ·obtain ⟨a,t,u,ea,oa,na,a1,a2,a3⟩ := at' i (by omega)
  obtain ⟨b,t',u',eb,ob,nb,b1,b2,b3⟩ := at' j (by omega)
  have hr := rank_iff ordP.irr ordP.tr ordP.tot (at_mem (show i < ps.length by omega) default) (at_mem (show j < ps.length by omega) default)
  rw [hr] at hC
  rw [ea,eb]
  generalize ps.getD i default = x at hC a3
  generalize ps.getD j default = y at hC b3
  refine kat_lt a1 a3 b1 b3 ?_
  show KatLex _ _ _ _ _ _ [(Value.int x.1 t,Value.int y.1 t'),(Value.int x.2 u,Value.int y.2 u')] 0 s'
  refine kat_cons (wpAny_eqBool_int ?_)
  by_cases h1 : x.1 = y.1
  ·rw [show (x.1 == y.1) = true by simpa using h1]
   refine kat_yes (kat_cons (wpAny_eqBool_int ?_))
   by_cases h2 : x.2 = y.2
   ·rw [show (x.2 == y.2) = true by simpa using h2]
    refine kat_yes (kat_nil ?_)
    have : ltP x y = false := by unfold ltP; exact decide_eq_false (by omega)
    rw [this] at hC
    exact hC
   ·rw [show (x.2 == y.2) = false by simpa using h2]
    refine kat_no (kat_one _ _ (lt_int ?_))
    have : ltP x y = decide (x.2 < y.2) := by unfold ltP; exact decide_eq_decide.mpr (by omega)
    rw [this] at hC
    exact hC
  ·rw [show (x.1 == y.1) = false by simpa using h1]
   refine kat_no ?_
   have e : ((Value.type "int" != Value.type "tuple") && (0 : Nat) == 0) = true := by decide
   rw [e]
   refine oneLt_int ?_
   have : ltP x y = decide (x.1 < y.1) := by unfold ltP; exact decide_eq_decide.mpr (by omega)
   rw [this] at hC
   exact hC
section
variable {X : Cx} {ρ : Rho} {O : Sto} {e a b c : Expr} {es : List Expr} {d da db : D} {ds : List D} {R : D -> Sto -> Prop} {pos p : Pos} {x : Str} {xs ys : List D} {α : Type} [Inhabited α] {lt : α -> α -> Bool} {f : α -> D} {ps : List α}
theorem sorted_laid (o : Ord lt) (cm : CmpD X lt f) {pins : List (Addr × Obj)} {σ : L2.St} {s1 : Shared} {H1 : Hp} {G1 : Wd} {vs : List V} {its : List Value} {Q : VK} (I : L2.Inv X pins σ H1 s1) (sa : SA X.K G1 H1 O) (is : Iss X.K G1 (ps.map f) vs) (va : Vals vs its) (h64 : ps.length < 64)
  (hq : ∀ v G' H',Ext G1 G' -> SA X.K G' H' O -> Is X.K G' (.lst ((srt lt ps).map f)) v -> Q v H') :
  ∃ key,its.length < 64 /\ (2 <= its.length -> Cmp X.prog X.w X.A.in1.in1 its key { s1 with heap := inSort (s1.heap.push (seqObj "list" its.toArray 0)) s1.heap.objs.size its }) /\
   ∀ p : Array Nat,p.Perm (List.toArray (List.range its.length)) -> p.size = its.length -> Srt key p its.length -> EP X pins σ Q (.ref s1.heap.objs.size) { s1 with heap := sortedHeap (s1.heap.push (seqObj "list" its.toArray 0)) s1.heap.objs.size its (List.toArray (outOf p its)) } := by
 have e1 := is.length
 have e2 := va.length
 rw [List.length_map] at e1
 have el : its.length = ps.length := by omega
 refine ⟨λ i => Q3h lt ps (ps.getD i default),by omega,λ h2 => ?_,λ p p1 p2 p3 => ?_⟩
 ·refine cm _ G1 H1 pins σ s1 _ O ps vs its I sa is va (by omega) λ b ob q => ?_
  exact inSort_old (Nat.ne_of_lt (Heap.lt_size q)) (Heap.get?_push_of_some _ q)
 ·rw [el] at p1 p2 p3
  obtain ⟨us,u1,u2,u3⟩ := sorted_fin o (λ i _ => rfl) is va p1 p2 p3
  obtain ⟨ec,hD⟩ := sortedHeap_at (h := s1.heap.push (seqObj "list" its.toArray 0)) (a := s1.heap.objs.size) (vs := its) (n := 0) (out := List.toArray (outOf p its)) (Heap.get?_push_size _ rfl)
  have fr : H1 s1.heap.objs.size = none := I.hok.fresh (Nat.le_refl _)
  obtain ⟨e3,s3⟩ := sa.laid (o := .lst us) fr
  refine ⟨.ref s1.heap.objs.size,upd H1 s1.heap.objs.size (.lst us),?_,rfl,hq _ _ _ e3 s3 (.lst Q0h (u2.ext e3))⟩
  refine I.laid (t' := s1.toks) (λ b u q => ?_) (Nat.le_refl _) ⟨by rw [u3,sizeLine_eq]; omega,outOf p its,ec,u1,hD⟩
  have hb : b < s1.heap.objs.size := Heap.lt_size q
  rw [sortedHeap_old (Nat.ne_of_lt hb) (by rw [Heap.size_push]; exact Nat.lt_succ_of_lt hb)]
  exact Heap.get?_push_of_some _ q
theorem ev_sortedZ (o : Ord lt) (cm : ∀ Y,CmpD Y lt f) {Ty : String} (hN : NoLen Ty) (hz : EvZ X ρ O e (ps.map f) Ty) (h64 : ps.length < 64) (hm : X.mg "sorted" = none) (hc : X.calm = true := by rfl) (hg : Gl X "sorted" := by rfl) (hs : starEach [e] X.env = [(false,eval e X.env)] := by rfl) :
  EvP X ρ O (.Call (.Name "sorted" p) [e] [] pos) (.lst ((srt lt ps).map f)) := λ G pins s σ H Q I ⟨h1,h2,h3⟩ => by
 refine wpAny_Call_Name_kw (Q3p I hg hm boot_sorted ?_)
 refine PyProof.Rows.callWith_builtin1 ?_ (by rw [hs]; rfl) rfl
 rw [hs]
 show wpAny _ _ (spliced ((false,eval e X.env) :: backTo pos [])) _ _ s
 refine Calls.spliced_cons (thn (hz G (.Name "" pos) pins s σ H (λ J H1 => ∃ G1,Ext G G1 /\ SA X.K G1 H1 O /\ Q2c X.K G1 J (ps.map f)) I h1 h2 λ J G' H' q1 q2 q3 => ⟨G',q1,q2,q3⟩) λ v s1 ⟨⟨it,fp,tn,J,H1,hv,I1,T,st,fo,G1,e1,sa1,Yi⟩,hT⟩ => Calls.spliced_nil ?_)
 subst hv
 refine call_sorted (collect_turn (X := Cx.wA X X.A.in1.in1) (A := X.A.in1) rfl hc T (λ v => rfl) Yi (by rw [List.length_map,sizeLine_eq]; omega) hN hT (Inv_A I1 rfl rfl) st fo sa1 λ s' H' G' vs its I' e' sa' is' va' => ?_)
 exact sorted_laid o (cm X) (Inv_unA I' I.ok) sa' is' va' h64 λ v G'' H'' q1 q2 q3 => h3 v G'' H'' (e1.trans (e'.trans q1)) q2 q3
end
mutual
def toPy : D -> PyData
 | .non => .none | .bl b => .bool b | .int i => .int i | .str x => .str x | .tup xs => .tuple (Q2q xs) | .lst xs => .list (Q2q xs) | .scr xs => .list (Q2q xs) | .ptr _ => .none | .ty _ => .none | .fn _ => .none | .dct _ _ => .none
def Q2q : List D -> List PyData
 | [] => []
 | x :: xs => toPy x :: Q2q xs
end
mutual
def plD : D -> Bool
 | .non => true | .bl _ => true | .int _ => true | .str x => PyData.strOk x | .tup xs => plDs xs | .lst xs => plDs xs | .scr xs => plDs xs | .ptr _ => false | .ty _ => false | .fn _ => false | .dct _ _ => false
def plDs : List D -> Bool
 | [] => true
 | x :: xs => plD x && plDs xs
end
mutual
def dpD : D -> Nat
 | .tup xs => dpDs xs + 1 | .lst xs => dpDs xs + 1 | .scr xs => dpDs xs + 1 | .non => 0 | .bl _ => 0 | .int _ => 0 | .str _ => 0 | .ptr _ => 0 | .ty _ => 0 | .fn _ => 0 | .dct _ _ => 0
def dpDs : List D -> Nat
 | [] => 0
 | x :: xs => max (dpD x) (dpDs xs)
end
def eqD (a b : D) : Bool := PyData.eqv (toPy a) (toPy b)
def eqDs (a b : List D) : Bool := PyData.eqvAll (Q2q a) (Q2q b)
mutual
theorem dp_py : ∀ d : D,(toPy d).depth = dpD d
 | .non => rfl | .bl _ => rfl | .int _ => rfl | .str _ => rfl | .ptr _ => rfl | .ty _ => rfl | .fn _ => rfl | .dct _ _ => rfl
 | .tup xs => by simp only [toPy,PyData.depth,dpD]; rw [Q3M xs]
 | .lst xs => by simp only [toPy,PyData.depth,dpD]; rw [Q3M xs]
 | .scr xs => by simp only [toPy,PyData.depth,dpD]; rw [Q3M xs]
theorem Q3M : ∀ xs : List D,PyData.depthAll (Q2q xs) = dpDs xs
 | [] => rfl
 | x :: xs => by simp only [Q2q,PyData.depthAll,dpDs]; rw [dp_py x,Q3M xs]
end
mutual
theorem pl_lay : ∀ d : D,plD d = true -> (toPy d).canLay0 = true
 | .non,_ => rfl | .bl _,_ => rfl | .int _,_ => rfl | .str x,h => by simp only [plD] at h; simp only [toPy,PyData.canLay0]; exact h | .ptr _,h => nomatch h | .ty _,h => nomatch h | .fn _,h => nomatch h | .dct _ _,h => nomatch h
 | .tup xs,h => Q2t xs h
 | .lst xs,h => Q2t xs h
 | .scr xs,h => Q2t xs h
theorem Q2t : ∀ xs : List D,plDs xs = true -> PyData.canLayAll0 (Q2q xs) = true
 | [],_ => rfl
 | x :: xs,h => by
  have h : (plD x && plDs xs) = true := h
  rw [Bool.and_eq_true] at h
  show (PyData.canLay0 (toPy x) && PyData.canLayAll0 (Q2q xs)) = true
  rw [pl_lay x h.1,Q2t xs h.2]; rfl
end
section
variable {X : Cx} {pins : List (Addr × Obj)} {σ : L2.St} {H : Hp} {s : Shared} {G : Wd}
mutual
theorem rd_of (I : L2.Inv X pins σ H s) (sub : Same G.g H) : ∀ {d : D} {v : V} {u : Value},Is X.K G d v -> RelV v u -> plD d = true -> ∃ as,Reads s.heap u (toPy d) as
 | _,_,_,.non,r,_ => by cases r; exact ⟨[],.none⟩
 | _,_,_,.bl b,r,_ => by cases r; exact ⟨[],.bool b⟩
 | _,_,_,.int i,r,_ => by obtain ⟨t,rfl⟩ := r; exact ⟨[],.int i t⟩
 | _,_,_,.str x,r,_ => by obtain ⟨t,rfl⟩ := r; exact ⟨[],.str x t⟩
 | _,_,_,.tup h q,r,p => by
  cases r
  obtain ⟨its,va,⟨o,g1,g2,n,g3⟩,_⟩ := I.tuple (Q1c sub h)
  obtain ⟨as,ra⟩ := rds_of I sub q va p
  exact ⟨as,.tuple g1 g2 g3 (by simpa using ra)⟩
 | _,_,_,.lst h q,r,p => by
  cases r
  obtain ⟨its,va,pl,_⟩ := I.list (SqL.of (sub _ _ h))
  obtain ⟨o,g1,g2,n,g3⟩ := pl.isList
  obtain ⟨as,ra⟩ := rds_of I sub q va p
  exact ⟨_,.list g1 g2 g3 (by simpa using ra)⟩
 | _,_,_,.scr h q,r,p => by
  cases r
  obtain ⟨its,va,pl,_⟩ := I.list (sub.seq h)
  obtain ⟨o,g1,g2,n,g3⟩ := pl.isList
  obtain ⟨as,ra⟩ := rds_of I sub q va p
  exact ⟨_,.list g1 g2 g3 (by simpa using ra)⟩
 | _,_,_,.ptr _ _,_,p => by simp [plD] at p
 | _,_,_,.ty _,_,p => by simp [plD] at p
 | _,_,_,.fn _,_,p => by simp [plD] at p
 | _,_,_,.dct _ _ _,_,p => by simp [plD] at p
theorem rds_of (I : L2.Inv X pins σ H s) (sub : Same G.g H) : ∀ {ds : List D} {vs : List V} {us : List Value},Iss X.K G ds vs -> Vals vs us -> plDs ds = true -> ∃ as,ReadsAll s.heap us (Q2q ds) as
 | _,_,_,.nil,.nil,_ => ⟨[],.nil⟩
 | d :: ds,_,_,.cons i is,.cons r rs,p => by
  have p : (plD d && plDs ds) = true := p
  rw [Bool.and_eq_true] at p
  obtain ⟨as,ra⟩ := rd_of I sub i r p.1
  obtain ⟨bs,rb⟩ := rds_of I sub is rs p.2
  exact ⟨_,.cons ra rb⟩
end
end
def RD (O : Sto) (d e : D) : Prop := e = d \/ ∃ n xs,d = .ptr n /\ O[n]? = some (some (.lst xs)) /\ e = .lst xs
theorem RD.reads {X : Cx} {pins : List (Addr × Obj)} {σ : L2.St} {H : Hp} {s : Shared} {G : Wd} {O : Sto} {d e : D} {v : V} {u : Value} (h : RD O d e) (I : L2.Inv X pins σ H s) (sa : SA X.K G H O) (i : Is X.K G d v) (r : RelV v u) (p : plD e = true) : ∃ as,Reads s.heap u (toPy e) as := by
 rcases h with rfl | ⟨n,xs,rfl,h,rfl⟩
 ·exact rd_of I sa.sub i r p
 ·cases i with | ptr _ ha =>
  cases r
  obtain ⟨a,g0,_,vs,g1,g2⟩ := sa.mt n _ h
  have := Option.some.inj (ha.symm.trans g0)
  subst this
  obtain ⟨its,va,pl,_⟩ := I.list (SqL.of g1)
  obtain ⟨o,q1,q2,k,q3⟩ := pl.isList
  obtain ⟨as,ra⟩ := rds_of I sa.sub g2 va p
  exact ⟨_,.list q1 q2 q3 (by simpa using ra)⟩
section
variable {X : Cx} {ρ : Rho} {O : Sto} {e a b c : Expr} {es : List Expr} {d da db ea eb : D} {ds xs ys : List D} {R : D -> Sto -> Prop} {pos p : Pos} {x : Str} {k : Nat}
end
theorem plDs_all {l : List D} (h : ∀ d ∈ l,plD d = true) : plDs l = true := by
 induction l with
 | nil => rfl
 | cons x xs ih =>
  show (plD x && plDs xs) = true
  rw [h x List.mem_cons_self,ih λ d hd => h d (List.mem_cons_of_mem _ hd)]; rfl
theorem plDs_map {α : Type} {f : α -> D} {l : List α} (h : ∀ a ∈ l,plD (f a) = true) : plDs (l.map f) = true := plDs_all λ d hd => by obtain ⟨a,ha,rfl⟩ := List.mem_map.mp hd; exact h a ha
theorem eqDs_map {α : Type} {f : α -> D} [DecidableEq α] (h : ∀ a b,eqD (f a) (f b) = decide (a = b)) : ∀ l m : List α,eqDs (l.map f) (m.map f) = decide (l = m)
 | [],[] => rfl
 | [],_ :: _ => rfl
 | _ :: _,[] => rfl
 | a :: l,b :: m => by
  show (eqD (f a) (f b) && eqDs (l.map f) (m.map f)) = _
  rw [h a b,eqDs_map h l m]
  by_cases h1 : a = b
  ·by_cases h2 : l = m
   ·simp [h1,h2]
   ·simp [h1,h2]
  ·simp [h1]
theorem getD_in {α : Type} {l : List α} {i : Nat} (h : i < l.length) (d : α) : l.getD i d = l[i] := by simp [h]
section
variable {X : Cx} {ρ : Rho} {O : Sto} {e a b c : Expr} {es : List Expr} {d da db ea eb : D} {ds xs ys : List D} {R : D -> Sto -> Prop} {pos p : Pos} {x : Str} {k : Nat}
theorem LT.sq {K : PySem.W.Frag} {G : Wd} {H : Hp} {O : Sto} {d : D} {xs : List D} {v : V} (h : LT O d xs) (s : SA K G H O) (i : Is K G d v) : ∃ k a vs,v = .ref a /\ Sq k K H a vs /\ Iss K G xs vs := by
 rcases h with h | rfl
 ·obtain ⟨a,vs,rfl,q,r⟩ := h.sq s i; exact ⟨true,a,vs,rfl,q,r⟩
 ·obtain ⟨a,vs,rfl,q,r⟩ := tup_sq s i; exact ⟨false,a,vs,rfl,q,r⟩
theorem preSum_is (ns : List Int) : preSum (λ i => ns.getD i 0) ns.length = ns.sum := by rw [preSum_getD,List.take_length]
theorem ssq_lt {k : Bool} {h : Heap} {l : Addr} {ys : Array Value} (q : SSq k h l ys) : l < h.objs.size := by
 cases k with
 | true => obtain ⟨o,g,_⟩ := (q : h.IsList l ys); exact Heap.lt_size g
 | false => obtain ⟨o,g,_⟩ := (q : h.IsTuple l ys); exact Heap.lt_size g
theorem call_sum_sq {prog : Program} {w : World} {A : Around} {E : Value -> Shared -> Prop} {s : Shared} {k : Bool} {l : Addr} {its : List Value} {ns : List Int} {Q : Value -> Shared -> Prop} (hh : A.handled = none) (q : SSq k s.heap l its.toArray) (hv : ∀ (i : Nat) (v : Value),its[i]? = some v -> ∃ t,v = .int (ns.getD i 0) t) (hn : ns.length = its.length)
  (h : ∀ h' tk t,(∀ b o,s.heap.get? b = some o -> h'.get? b = some o) -> Q (.int ns.sum t) { s with heap := h',toks := tk }) : wpAny (model prog w) A (call (.builtin "sum") [.ref l]) Q E s := by
 have hl := ssq_lt q
 have fin : ∀ (h2 : Heap),(∀ b o,s.heap.get? b = some o -> h2.get? b = some o) -> ∀ h' tk t',(∀ b o,b ∉ [s.heap.objs.size] -> h2.get? b = some o -> h'.get? b = some o) -> Q (.int (preSum (λ i => ns.getD i 0) its.toArray.size) t') { s with heap := h',toks := tk } := λ h2 up h' tk t' kp => by
  rw [show its.toArray.size = ns.length by simp [hn],preSum_is]
  exact h h' tk t' λ b o e => kp b o (by simpa using Nat.ne_of_lt (Heap.lt_size e)) (up b o e)
 cases k with
 | true =>
  refine call_sum_walkG (wpAny_pyIter_list q ⟨s.heap.objs.size,[s.heap.objs.size,l],[s.heap.objs.size],its.toArray.size,λ i v => its.toArray[i]? = some v,λ i h => h.IsListIter s.heap.objs.size l i /\ h.IsList l its.toArray,λ i => ns.getD i 0,rfl,Walks.list (A := A.in1) hh _ l (Nat.ne_of_lt hl) its.toArray,⟨⟨_,Heap.get?_push_size _ rfl,rfl,rfl⟩,Heap.IsList.push q _⟩,λ b hb => ?_,λ i v e => hv i v (by simpa using e),fin _ λ b o e => Heap.get?_push_of_some _ e⟩)
  rw [Heap.size_push]
  rcases List.mem_cons.mp hb with rfl | hb
  ·exact Nat.lt_succ_self _
  ·rw [List.mem_singleton.mp hb]; exact Nat.lt_succ_of_lt hl
 | false =>
  refine call_sum_walkG (wpAny_pyIter_tuple q ⟨s.heap.objs.size,[s.heap.objs.size,l],[s.heap.objs.size],its.toArray.size,λ i v => its.toArray[i]? = some v,λ i h => h.IsTupleIter s.heap.objs.size l i /\ h.IsTuple l its.toArray,λ i => ns.getD i 0,rfl,Walks.tuple (A := A.in1) hh _ l (Nat.ne_of_lt hl) its.toArray,⟨⟨_,Heap.get?_push_size _ rfl,rfl,rfl⟩,(SSq.at (k := false) q λ o e => Heap.get?_push_of_some _ e : SSq false _ l _)⟩,λ b hb => ?_,λ i v e => hv i v (by simpa using e),fin _ λ b o e => Heap.get?_push_of_some _ e⟩)
  rw [Heap.size_push]
  rcases List.mem_cons.mp hb with rfl | hb
  ·exact Nat.lt_succ_self _
  ·rw [List.mem_singleton.mp hb]; exact Nat.lt_succ_of_lt hl
theorem c_sum {ns : List Int} (h : LT O d (ns.map D.int)) (hc : X.calm = true := by rfl) : Q2p X O (.builtin "sum") [d] (.int ns.sum) := λ G pins s σ H vs us Q I r ⟨h1,h2,h3⟩ => by
 cases h2 with | cons i r2 =>
 cases r2
 obtain ⟨kk,ad,ws,rfl,q,is⟩ := h.sq h1 i
 obtain ⟨u,rfl,ru⟩ := vals1 r
 cases ru
 obtain ⟨its,va,sq,_⟩ := Q3O I q
 have e := is.toInts
 subst e
 have el := va.length
 rw [List.length_map] at el
 refine call_sum_sq (ns := ns) (I.ok.hd hc) sq (λ i v hv => ?_) el λ h' tk t kp => ⟨.int ns.sum,H,I.kept kp,⟨t,rfl⟩,h3 _ G H (Ext.refl _) h1 (.int _)⟩
 have hi : i < ns.length := by rw [el]; exact (List.getElem?_eq_some_iff.mp hv).1
 obtain ⟨w,hw,rw'⟩ := va.get (i := i) (x := .int ns[i]) (by simp [hi])
 rw [hv] at hw
 cases hw
 obtain ⟨t,e⟩ := rw'
 exact ⟨t,by rw [e,getD_in hi]⟩
theorem call_all_sq {prog : Program} {w : World} {A : Around} {E : Value -> Shared -> Prop} {s : Shared} {k : Bool} {l : Addr} {its : List Value} {bs : List Bool} {Q : Value -> Shared -> Prop} (hh : A.handled = none) (q : SSq k s.heap l its.toArray) (hv : ∀ (i : Nat) (v : Value),its[i]? = some v -> v = .bool (bs.getD i true)) (hn : bs.length = its.length) (al : Bool)
  (h : ∀ h' tk,(∀ b o,s.heap.get? b = some o -> h'.get? b = some o) -> Q (.bool (if al then bs.all id else bs.any id)) { s with heap := h',toks := tk }) : wpAny (model prog w) A (call (.builtin (if al then "all" else "any")) [.ref l]) Q E s := by
 have hl := ssq_lt q
 have ea : (List.range its.toArray.size).all (λ i => bs.getD i true) = bs.all id := by
  have : bs = (List.range bs.length).map λ i => bs.getD i true := by
   apply List.ext_getElem
   ·simp
   ·intro i h1 h2; simp; rw [List.getElem?_eq_getElem h1]; rfl
  conv => rhs; rw [this,List.all_map]
  rw [show its.toArray.size = bs.length by simp [hn]]
  rfl
 have eb : (List.range its.toArray.size).any (λ i => bs.getD i true) = bs.any id := by
  have : bs = (List.range bs.length).map λ i => bs.getD i true := by
   apply List.ext_getElem
   ·simp
   ·intro i h1 h2; simp; rw [List.getElem?_eq_getElem h1]; rfl
  conv => rhs; rw [this,List.any_map]
  rw [show its.toArray.size = bs.length by simp [hn]]
  rfl
 have kp' : ∀ (h2 : Heap),(∀ b o,s.heap.get? b = some o -> h2.get? b = some o) -> ∀ h' : Heap,(∀ b o,b ∉ [s.heap.objs.size] -> h2.get? b = some o -> h'.get? b = some o) -> ∀ b o,s.heap.get? b = some o -> h'.get? b = some o := λ h2 up h' kp b o e => kp b o (by simpa using Nat.ne_of_lt (Heap.lt_size e)) (up b o e)
 have tr : TruthOf prog w A.in1 (λ i v => its.toArray[i]? = some v) (λ i => bs.getD i true) := λ i v s Q E hP hQ => by
  rw [hv i v (by simpa using hP)]; exact wpAny_truthy_bool hQ
 cases k with
 | true =>
  have W := Walks.list (prog := prog) (w := w) (A := A.in1) hh s.heap.objs.size l (Nat.ne_of_lt hl) its.toArray
  have st : (s.heap.push { cls := .type "list_iterator",data := .fields #[.ref l,.int 0 0] }).IsListIter s.heap.objs.size l 0 /\ (s.heap.push { cls := .type "list_iterator",data := .fields #[.ref l,.int 0 0] }).IsList l its.toArray := ⟨⟨_,Heap.get?_push_size _ rfl,rfl,rfl⟩,Heap.IsList.push q _⟩
  cases al with
  | true => exact call_all_walk (wpAny_pyIter_list q ⟨_,_,_,_,_,_,_,rfl,W,st,tr,λ h' tk kp => by rw [ea]; exact h h' tk (kp' _ (λ b o e => Heap.get?_push_of_some _ e) h' kp)⟩)
  | false => exact call_any_walk (wpAny_pyIter_list q ⟨_,_,_,_,_,_,_,rfl,W,st,tr,λ h' tk kp => by rw [eb]; exact h h' tk (kp' _ (λ b o e => Heap.get?_push_of_some _ e) h' kp)⟩)
 | false =>
  have W := Walks.tuple (prog := prog) (w := w) (A := A.in1) hh s.heap.objs.size l (Nat.ne_of_lt hl) its.toArray
  have st : (s.heap.push { cls := .type "tuple_iterator",data := .fields #[.ref l,.int 0 0] }).IsTupleIter s.heap.objs.size l 0 /\ (s.heap.push { cls := .type "tuple_iterator",data := .fields #[.ref l,.int 0 0] }).IsTuple l its.toArray := ⟨⟨_,Heap.get?_push_size _ rfl,rfl,rfl⟩,(SSq.at (k := false) q λ o e => Heap.get?_push_of_some _ e : SSq false _ l _)⟩
  cases al with
  | true => exact call_all_walk (wpAny_pyIter_tuple q ⟨_,_,_,_,_,_,_,rfl,W,st,tr,λ h' tk kp => by rw [ea]; exact h h' tk (kp' _ (λ b o e => Heap.get?_push_of_some _ e) h' kp)⟩)
  | false => exact call_any_walk (wpAny_pyIter_tuple q ⟨_,_,_,_,_,_,_,rfl,W,st,tr,λ h' tk kp => by rw [eb]; exact h h' tk (kp' _ (λ b o e => Heap.get?_push_of_some _ e) h' kp)⟩)
theorem c_allany {bs : List Bool} (al : Bool) (h : LT O d (bs.map D.bl)) (hc : X.calm = true) : Q2p X O (.builtin (if al then "all" else "any")) [d] (.bl (if al then bs.all id else bs.any id)) := λ G pins s σ H vs us Q I r ⟨h1,h2,h3⟩ => by
 cases h2 with | cons i r2 =>
 cases r2
 obtain ⟨kk,ad,ws,rfl,q,is⟩ := h.sq h1 i
 obtain ⟨u,rfl,ru⟩ := vals1 r
 cases ru
 obtain ⟨its,va,sq,_⟩ := Q3O I q
 have e1 := is.length
 have e2 := va.length
 rw [List.length_map] at e1
 refine call_all_sq (bs := bs) (I.ok.hd hc) sq (λ i v hv => ?_) (by omega) al λ h' tk kp => ⟨.bl _,H,I.kept kp,rfl,h3 _ G H (Ext.refl _) h1 (.bl _)⟩
 have hi : i < bs.length := by rw [e1,e2]; exact (List.getElem?_eq_some_iff.mp hv).1
 obtain ⟨w,hw,iw⟩ := is.get (i := i) (d := .bl bs[i]) (by simp [hi])
 obtain ⟨z,hz,rz⟩ := va.get hw
 rw [hv] at hz
 cases hz
 cases iw
 rw [getD_in hi]
 exact rz
theorem c_all {bs : List Bool} (h : LT O d (bs.map D.bl)) (hc : X.calm = true := by rfl) : Q2p X O (.builtin "all") [d] (.bl (bs.all id)) := c_allany true h hc
end
end DL
namespace DL
open PySem PySem.Spec PyProof.Rows L2
mutual
def npD : D -> Bool
 | .ptr _ => false
 | .tup xs => npDs xs
 | .lst xs => npDs xs
 | .scr xs => npDs xs
 | .dct _ xs => npDs xs
 | _ => true
def npDs : List D -> Bool
 | [] => true
 | d :: ds => npD d && npDs ds
end
theorem npDs_map {α : Type} {f : α -> D} (h : ∀ a,npD (f a) = true) (l : List α) : npDs (l.map f) = true := by
 induction l with
 | nil => rfl
 | cons a l ih => rw [List.map_cons]; unfold npDs; rw [h,ih]; rfl
theorem npDs_ints (l : List Int) : npDs (l.map D.int) = true := npDs_map (λ _ => rfl) l
section
variable {K : PySem.W.Frag} {G G' : Wd} {t : List Addr}
mutual
theorem Is.cut : ∀ {d : D} {v : V},Is K G' d v -> npD d = true -> ∀ l,Is K ⟨G'.g,l⟩ d v
 | _,_,.non,_,l => .non
 | _,_,.bl b,_,l => .bl b
 | _,_,.int i,_,l => .int i
 | _,_,.str x,_,l => .str x
 | _,_,.tup h r,e,l => .tup h (Iss.cut r e l)
 | _,_,.lst h r,e,l => .lst h (Iss.cut r e l)
 | _,_,.scr h r,e,l => .scr h (Iss.cut r e l)
 | _,_,.ptr n h,e,l => by cases e
 | _,_,.ty n,_,l => .ty n
 | _,_,.fn n,_,l => .fn n
 | _,_,.dct h hl r,e,l => .dct h hl (Iss.cut r e l)
theorem Iss.cut : ∀ {ds : List D} {vs : List V},Iss K G' ds vs -> npDs ds = true -> ∀ l,Iss K ⟨G'.g,l⟩ ds vs
 | _,_,.nil,_,l => .nil
 | _,_,.cons h r,e,l => by
  have e := (Bool.and_eq_true _ _).mp e
  exact .cons (Is.cut h e.1 l) (Iss.cut r e.2 l)
end
mutual
theorem Is.back (e : G'.l = G.l ++ t) : ∀ {d : D} {v v0 : V},Is K G d v0 -> Is K G' d v -> Is K ⟨G'.g,G.l⟩ d v
 | _,_,_,.non,h => by cases h; exact .non
 | _,_,_,.bl b,h => by cases h; exact .bl b
 | _,_,_,.int i,h => by cases h; exact .int i
 | _,_,_,.str x,h => by cases h; exact .str x
 | _,_,_,.tup _ r0,h => by cases h with | tup h r => exact .tup h (Iss.back e r0 r)
 | _,_,_,.lst _ r0,h => by cases h with | lst h r => exact .lst h (Iss.back e r0 r)
 | _,_,_,.scr _ r0,h => by cases h with | scr h r => exact .scr h (Iss.back e r0 r)
 | _,_,_,.ptr n q,h => by
  cases h with
  | ptr _ h =>
   refine .ptr n ?_
   rw [e,List.getElem?_append_left (List.getElem?_eq_some_iff.mp q).1] at h
   exact h
 | _,_,_,.ty n,h => by cases h; exact .ty n
 | _,_,_,.fn n,h => by cases h; exact .fn n
 | _,_,_,.dct _ _ r0,h => by cases h with | dct h hl r => exact .dct h hl (Iss.back e r0 r)
theorem Iss.back (e : G'.l = G.l ++ t) : ∀ {ds : List D} {vs v0 : List V},Iss K G ds v0 -> Iss K G' ds vs -> Iss K ⟨G'.g,G.l⟩ ds vs
 | _,_,_,.nil,h => by cases h; exact .nil
 | _,_,_,.cons q r,h => by cases h with | cons h1 h2 => exact .cons (Is.back e q h1) (Iss.back e r h2)
end
theorem FsIs.back (e : G'.l = G.l ++ t) : ∀ {fs : List (Str × D)} {vs v0 : List (Str × V)},FsIs K G fs v0 -> FsIs K G' fs vs -> FsIs K ⟨G'.g,G.l⟩ fs vs
 | _,_,_,.nil,h => by cases h; exact .nil
 | _,_,_,.cons q r,h => by cases h with | cons h1 h2 => exact .cons (Is.back e q h1) (FsIs.back e r h2)
theorem SA.cut {H H' : Hp} {O O2 : Sto} (s : SA K G H O) (e : Ext G G') (s' : SA K G' H' (O ++ O2)) : Ext G ⟨G'.g,G.l⟩ /\ SA K ⟨G'.g,G.l⟩ H' O := by
 obtain ⟨t,et⟩ := e.l
 refine ⟨⟨e.g,[],(List.append_nil _).symm⟩,⟨s'.sub,s.len,s.nd,λ a ha => s'.liv a (by rw [et]; exact List.mem_append_left _ ha),λ n m h => ?_⟩⟩
 have hn := (List.getElem?_eq_some_iff.mp h).1
 obtain ⟨a,q1,q2,q3⟩ := s'.mt n m (by rw [List.getElem?_append_left hn]; exact h)
 obtain ⟨a0,p1,p2,p3⟩ := s.mt n m h
 rw [et,List.getElem?_append_left (by rw [s.len]; exact hn)] at q1
 refine ⟨a,q1,q2,?_⟩
 cases m with
 | lst xs =>
  obtain ⟨vs,g1,g2⟩ := q3
  obtain ⟨v0,h1,h2⟩ := p3
  exact ⟨vs,g1,Iss.back et h2 g2⟩
 | ins C fs =>
  obtain ⟨dx,vs,g1,g2⟩ := q3
  obtain ⟨dx0,v0,h1,h2⟩ := p3
  exact ⟨dx,vs,g1,FsIs.back et h2 g2⟩
 | exc C fs ha =>
  obtain ⟨ob,g1,g2,g3,g4⟩ := q3
  obtain ⟨ob0,h1,h2,h3,_⟩ := p3
  refine ⟨ob,g1,g2,?_,g4⟩
  rcases h3 with h3 | ⟨dx0,v0,b1,b2,b3⟩
  ·exact .inl h3
  ·refine g3.imp id ?_
   rintro ⟨dx,vs,a1,a2,a3⟩
   exact ⟨dx,vs,a1,a2,FsIs.back et b3 a3⟩
 | dct ks xs =>
  obtain ⟨vs,g1,g2,g3⟩ := q3
  obtain ⟨v0,h1,h2,h3⟩ := p3
  exact ⟨vs,g1,g2,Iss.back et h3 g3⟩
 | pin ob vs ks xs => exact ⟨q3.1,q3.2.1,Iss.back et p3.2.2 q3.2.2⟩
end
section
variable {X : Cx} {ρ : Rho} {O : Sto} {e a b c : Expr} {es : List Expr} {d da db : D} {ds : List D} {R : D -> Sto -> Prop} {pos p : Pos} {x : Str} {rest : List Stmt} {P : Post}
theorem Q3u (h : Exs X ρ O rest { nx := λ _ _ => False,rt := λ d O' => (∃ O2,O' = O ++ O2) /\ npD d = true /\ P.rt d O }) : Exs X ρ O rest P := λ G pins s σ H E I ⟨q1,q2,q3⟩ => by
 refine h G pins s σ H E I ⟨q1,q2,⟨λ σ' ρ' O' G3 H3 e3 s3 n3 q => q.elim,λ v d O' G3 H3 e3 s3 i3 r => ?_,λ σ' ρ' O' G3 H3 e3 s3 n3 q => q.elim,λ σ' ρ' O' G3 H3 e3 s3 n3 q => q.elim⟩⟩
 obtain ⟨⟨O2,rfl⟩,r2,r3⟩ := r
 obtain ⟨e4,s4⟩ := q1.cut e3 s3
 exact q3.rt v d O _ H3 e4 s4 (i3.cut r2 _) r3
def relSp (pre : List D -> Prop) (f : List D -> D -> Prop) : SpD := λ ds O R => pre ds /\ ∀ d,f ds d -> R d O
theorem x_asgE {tg : Expr} (he : Ev X ρ O e λ d O' => ∃ ρ1,Tg X tg d ρ ρ1 /\ P.nx ρ1 O') (hs : swapsWithSole [tg] e pos.line X.env = pure false := by rfl) (hw : swappedStores [tg] e X.env = pure none := by rfl)
  (h1 : (assignEach [tg] X.env).map (·.2) = [assign tg X.env] := by rfl) : Ex X ρ O (.Assign [tg] e pos) P := λ G =>
 PS.imp (ps_asg (he G) (g := λ v σ H Q => ∃ G1 d ρ1,Tg X tg d ρ ρ1 /\ Is X.K G1 d v /\ Same G1.g H /\ EnvR X.K G1 σ ρ /\ ∀ σ',EnvR X.K G1 σ' ρ1 -> Q σ' H) (λ pins s σ H v u Q I r ⟨G1,d,ρ1,ht,q⟩ => ht G1 pins s σ H v u Q I r q) hs hw h1) λ E σ H ⟨q1,q2,q3⟩ =>
  ⟨q1,q2,λ v d O' G' H' e1 s1 i1 ⟨ρ1,t1,r1⟩ => ⟨G',d,ρ1,t1,i1,s1.sub,q2.ext e1,λ σ' n' => q3.nx _ _ O' G' H' e1 s1 n' r1⟩⟩
theorem st0 {m : Option MO} {O2 : Sto} : (O ++ m :: O2)[O.length]? = some m := by
 rw [List.getElem?_append_right (Nat.le_refl _),Nat.sub_self]; rfl
theorem st1 {m n : Option MO} {O2 : Sto} : (O ++ m :: n :: O2)[O.length + 1]? = some n := by
 rw [List.getElem?_append_right (by omega),show O.length + 1 - O.length = 1 by omega]; rfl
theorem ss0 {m z : Option MO} {O2 : Sto} : (O ++ m :: O2).set O.length z = O ++ z :: O2 := by
 rw [List.set_append_right (h := Nat.le_refl _),Nat.sub_self]; rfl
theorem ss1 {m n z : Option MO} {O2 : Sto} : (O ++ m :: n :: O2).set (O.length + 1) z = O ++ m :: z :: O2 := by
 rw [List.set_append_right (h := by omega),show O.length + 1 - O.length = 1 by omega]; rfl
theorem sl1 {m : Option MO} : (O ++ [m]).length = O.length + 1 := by rw [List.length_append]; rfl
section
variable {α : Type} {ps : List α} {f g : α -> D} {h : α -> Option D} {tg iter elt : Expr} {ifs : List Expr} {scope : Scope}
theorem fm_some (ps : List α) (g : α -> D) : (ps.map λ q => some (g q)).filterMap id = ps.map g := by
 induction ps with
 | nil => rfl
 | cons a l ih => rw [List.map_cons,List.filterMap_cons,ih]; rfl
theorem fm_map (ps : List α) (h : α -> Option D) : (ps.map h).filterMap id = ps.filterMap h := by
 rw [List.filterMap_map]; rfl
theorem ev_compF (h : α -> Option D) (T F : List Str) (js : List Nat) (hi : EvI X ρ O tg iter (ps.map f)) (hsz : ps.length <= sizeLine) (turn : ∀ q,q ∈ ps -> CTurn X T F js ρ O scope tg elt ifs (f q) (h q))
  (hfl : F.length = js.length := by rfl) (hB : freeB X.N X.env.scope.names scope.names F js = true := by rfl) (hc : X.calm = true := by rfl) (hk : scope.kind = .function := by rfl) (hs : ∀ x,foldedSetIterable iter X.env x = pure x := by intro _; rfl) :
  EvP X ρ O (.ListComp elt [⟨tg,iter,ifs,0⟩] scope pos) (.lst (ps.filterMap h)) := by
 rw [<- fm_map]
 refine ev_compZ T F js hi (by rw [List.length_map,List.length_map]) (by rw [List.length_map]; exact hsz) (λ i x z h1 h2 => ?_) hfl hB hc hk hs
 rw [List.getElem?_map] at h1 h2
 cases e : ps[i]? with
 | none => rw [e] at h1; cases h1
 | some q => rw [e] at h1 h2; cases h1; cases h2; exact turn q (List.mem_of_getElem? e)
theorem Q4f (g : α -> D) (T F : List Str) (js : List Nat) (hi : EvI X ρ O tg iter (ps.map f)) (hsz : ps.length <= sizeLine) (turn : ∀ q,q ∈ ps -> CTurn X T F js ρ O scope tg elt ifs (f q) (some (g q)))
  (hfl : F.length = js.length := by rfl) (hB : freeB X.N X.env.scope.names scope.names F js = true := by rfl) (hc : X.calm = true := by rfl) (hk : scope.kind = .function := by rfl) (hs : ∀ x,foldedSetIterable iter X.env x = pure x := by intro _; rfl) :
  EvP X ρ O (.ListComp elt [⟨tg,iter,ifs,0⟩] scope pos) (.lst (ps.map g)) := by
 rw [<- fm_some,fm_map]
 exact ev_compF (λ q => some (g q)) T F js hi hsz turn hfl hB hc hk hs
theorem ei_LF {xs : List D} (he : EvP X ρ O e d) (fa : LF d xs) : EvI X ρ O tg e xs := by
 rcases fa with rfl | rfl | rfl
 ·exact ei_lst he
 ·exact ei_scr he
 ·exact ei_tup he
end
end
def cutA {α : Type} (a : List α) (lo hi : Option Int) : List α := (a.drop (HT.sIx a.length 0 lo)).take (HT.sIx a.length a.length hi - HT.sIx a.length 0 lo)
theorem slice_map {α : Type} {f : α -> D} (a : List α) (lo hi : Option Int) : sliceD (a.map f) lo hi = (cutA a lo hi).map f := by
 unfold sliceD cutA
 rw [List.length_map,List.map_take,List.map_drop]
theorem cutA_le {α : Type} (a : List α) (lo hi : Option Int) : (cutA a lo hi).length <= a.length := by
 unfold cutA
 rw [List.length_take,List.length_drop]
 omega
theorem cutA_drop {α : Type} (a : List α) (k : Nat) : cutA a (some (k : Int)) none = a.drop k := by
 unfold cutA
 rw [HT.sIx_none,HT.sIx_nat]
 rcases Nat.le_total k a.length with h | h
 ·rw [Nat.min_eq_left h,List.take_of_length_le (by rw [List.length_drop]; exact Nat.le_refl _)]
 ·rw [Nat.min_eq_right h,Nat.sub_self,List.take_zero,List.drop_of_length_le h]
theorem zipD_map {α β : Type} {f : α -> D} {g : β -> D} : ∀ (a : List α) (b : List β),zipD (a.map f) (b.map g) = (a.zip b).map λ q => .tup [f q.1,g q.2]
 | [],_ => rfl
 | _ :: _,[] => rfl
 | x :: a,y :: b => by
  have ih := zipD_map (f := f) (g := g) a b
  unfold zipD at ih ⊢
  rw [List.map_cons,List.map_cons,List.zipWith_cons_cons,ih]
  rfl
section
variable {X : Cx} {ρ : Rho} {O : Sto} {e a b c : Expr} {es : List Expr} {d da db : D} {ds : List D} {R : D -> Sto -> Prop} {pos p : Pos} {x : Str} {rest : List Stmt} {P : Post}
theorem ev_slLA {α : Type} {f : α -> D} {as : List α} {lo hi : Option Expr} {l u : Option Int} {p2 : Pos} (ha : EvP X ρ O a da) (hx : LV O da (as.map f)) (hl : EvO X ρ O lo l) (hh : EvO X ρ O hi u) : EvP X ρ O (.Subscript a (.Slice lo hi none p2) pos) (.lst ((cutA as l u).map f)) := by
 rw [<- slice_map]
 exact ev_slL ha hx hl hh
theorem ez_zipM {α β : Type} {f : α -> D} {g : β -> D} {as : List α} {bs : List β} (ha : EvP X ρ O a da) (hb : EvP X ρ O b db) (fa : LF da (as.map f)) (fb : LF db (bs.map g)) (hm : X.mg "zip" = none) (hg : Gl X "zip" := by rfl) (hs : starEach [a,b] X.env = [(false,eval a X.env),(false,eval b X.env)] := by rfl) (hs2 : starEach [b] X.env = [(false,eval b X.env)] := by rfl) :
  EvZ X ρ O (.Call (.Name "zip" p) [a,b] [] pos) ((as.zip bs).map λ q => .tup [f q.1,g q.2]) "zip" := by
 rw [<- zipD_map]
 exact ez_zip ha hb fa fb hm hg hs hs2
end
theorem atI_map {α : Type} {f : α -> D} {a : List α} {i : Int} {v : α} (h0 : 0 <= i) (h : a[i.toNat]? = some v) : atI (a.map f) i = some (f v) := by
 obtain ⟨k,rfl⟩ := Int.eq_ofNat_of_zero_le h0
 rw [Int.toNat_natCast] at h
 exact Q2z (by rw [List.getElem?_map,h]; rfl)
def sm {α : Type} (g : α -> Int) : List α -> Int
 | [] => 0
 | a :: l => g a + sm g l
section
variable {α β : Type} {g h : α -> Int} {l m : List α}
theorem sm_app : sm g (l ++ m) = sm g l + sm g m := by
 induction l with
 | nil => exact (Int.zero_add _).symm
 | cons a l ih => show g a + sm g (l ++ m) = (g a + sm g l) + sm g m; rw [ih]; omega
theorem sm_perm (p : l.Perm m) : sm g l = sm g m := by
 induction p with
 | nil => rfl
 | cons a _ ih => unfold sm; rw [ih]
 | swap a b l => unfold sm; unfold sm; omega
 | trans _ _ h1 h2 => rw [h1,h2]
theorem sm_take {i : Nat} {a : α} (e : l[i]? = some a) : sm g (l.take (i + 1)) = sm g (l.take i) + g a := by
 rw [List.take_add_one,e,sm_app]
 show _ + (g a + 0) = _
 omega
theorem sm_sum (g : α -> Int) (l : List α) : (l.map g).sum = sm g l := by
 induction l with
 | nil => rfl
 | cons a l ih => rw [List.map_cons,List.sum_cons,ih]; rfl
theorem sum_sm (l : List Int) : l.sum = sm (λ i => i) l := by rw [<- sm_sum,List.map_id']
theorem sm_le (q : ∀ a ∈ l,g a <= h a) : sm g l <= sm h l := by
 induction l with
 | nil => exact Int.le_refl _
 | cons a l ih =>
  have h1 := q a List.mem_cons_self
  have h2 := ih λ b hb => q b (List.mem_cons_of_mem _ hb)
  unfold sm
  omega
theorem sm_eq (q : ∀ a ∈ l,g a = h a) : sm g l = sm h l := by
 induction l with
 | nil => rfl
 | cons a l ih =>
  have h1 := q a List.mem_cons_self
  have h2 := ih λ b hb => q b (List.mem_cons_of_mem _ hb)
  unfold sm
  omega
theorem sm_add : sm (λ a => g a + h a) l = sm g l + sm h l := by
 induction l with
 | nil => rfl
 | cons a l ih => unfold sm; rw [ih]; omega
theorem sm_zero : sm (λ _ : α => (0 : Int)) l = 0 := by
 induction l with
 | nil => rfl
 | cons a l ih => unfold sm; rw [ih]; rfl
theorem sm_pos (q : ∀ a ∈ l,0 <= g a) : 0 <= sm g l := by
 have := sm_le (g := λ _ => 0) (h := g) q
 rw [sm_zero] at this
 exact this
theorem sm_zip_snd {a : List β} {b : List Int} (e : a.length = b.length) : sm (λ q : β × Int => q.2) (a.zip b) = b.sum := by
 induction a generalizing b with
 | nil => cases b with | nil => rfl | cons _ _ => cases e
 | cons x a ih =>
  cases b with
  | nil => cases e
  | cons y b =>
   rw [List.zip_cons_cons,List.sum_cons]
   unfold sm
   rw [ih (by simpa using e)]
end
theorem bitsP {b : Int} {n : Nat} (h0 : 0 <= b) (h1 : b < 2 ^ n) : PySem.Builtin.Int.intBits b <= n := by
 unfold PySem.Builtin.Int.intBits
 split
 ·exact Nat.zero_le _
 ·rename_i hz
  have hn : b.natAbs < 2 ^ n := by
   have e : ((2 ^ n : Nat) : Int) = 2 ^ n := by rw [Int.natCast_pow]; rfl
   omega
  have hp : b.natAbs ≠ 0 := by
   intro z; apply hz; rw [Int.natAbs_eq_zero.mp z]; rfl
  have := (Nat.log2_lt hp).mpr hn
  omega
theorem mulP {a b : Int} {m n : Nat} (a0 : 0 <= a) (a1 : a < 2 ^ m) (b0 : 0 <= b) (b1 : b < 2 ^ n) (h : m + n <= 134217728 := by decide) : IntMulOk a b := IntMulOk.of_le (bitsP a0 a1) (bitsP b0 b1) h
section
variable {prog : Program} {w : World} {A : Around} {E : Value -> Shared -> Prop} {s : Shared}
end
section
variable {X : Cx} {ρ : Rho} {O : Sto} {e a b c st : Expr} {es : List Expr} {d da db : D} {ds xs : List D} {R : D -> Sto -> Prop} {pos p p2 : Pos} {x : Str} {rest : List Stmt} {P : Post}
end
section
variable {prog : Program} {w : World} {A : Around} {E : Value -> Shared -> Prop} {s : Shared}
end
section
variable {X : Cx} {O : Sto} {xs : List D}
end
def putD (f : Str) (d : D) : List (Str × D) -> List (Str × D)
 | [] => [(f,d)]
 | (g,x) :: r => if g = f then (g,d) :: r else (g,x) :: putD f d r
section
variable {K : PySem.W.Frag} {G : Wd}
theorem FsIs.look {f : Str} {d : D} : ∀ {fs : List (Str × D)} {vs : List (Str × V)},FsIs K G fs vs -> fs.lookup f = some d -> ∃ v,vs.lookup f = some v /\ Is K G d v
 | _,_,.nil,e => by cases e
 | _,_,.cons (f := g) h r,e => by
  rw [List.lookup_cons] at e
  cases hc : f == g with
  | true =>
   rw [hc] at e
   cases e
   exact ⟨_,by rw [List.lookup_cons,hc],h⟩
  | false =>
   rw [hc] at e
   obtain ⟨v,e1,e2⟩ := FsIs.look r e
   exact ⟨v,by rw [List.lookup_cons,hc]; exact e1,e2⟩
theorem FsIs.none {f : Str} : ∀ {fs : List (Str × D)} {vs : List (Str × V)},FsIs K G fs vs -> fs.lookup f = Option.none -> vs.lookup f = Option.none
 | _,_,.nil,e => rfl
 | _,_,.cons (f := g) h r,e => by
  rw [List.lookup_cons] at e
  cases hc : f == g with
  | true => rw [hc] at e; cases e
  | false =>
   rw [hc] at e
   rw [List.lookup_cons,hc]
   exact FsIs.none r e
theorem FsIs.put {f : Str} {d : D} {v : V} (i : Is K G d v) : ∀ {fs : List (Str × D)} {vs : List (Str × V)},FsIs K G fs vs -> FsIs K G (putD f d fs) (putF f v vs)
 | _,_,.nil => .cons i .nil
 | _,_,.cons (f := g) h r => by
  unfold putD putF
  by_cases e : g = f
  ·rw [if_pos e,if_pos e]; exact .cons i r
  ·rw [if_neg e,if_neg e]; exact .cons h (FsIs.put i r)
theorem FsIs.len : ∀ {fs : List (Str × D)} {vs : List (Str × V)},FsIs K G fs vs -> fs.length = vs.length
 | _,_,.nil => rfl
 | _,_,.cons _ r => by rw [List.length_cons,List.length_cons,r.len]
end
theorem SA.ins {K : PySem.W.Frag} {G : Wd} {H : Hp} {O : Sto} {q : Nat} {C : Addr} {fs : List (Str × D)} {v : V} (s : SA K G H O) (i : Is K G (.ptr q) v) (h : O[q]? = some (some (.ins C fs))) : ∃ a dx vs,v = .ref a /\ G.l[q]? = some a /\ H a = some (.ins C dx vs) /\ FsIs K G fs vs := by
 cases i with
 | ptr _ ha =>
  obtain ⟨a,h1,h2,dx,vs,h3,h4⟩ := s.mt q _ h
  cases Option.some.inj (ha.symm.trans h1)
  exact ⟨_,dx,vs,rfl,h1,h3,h4⟩
section
variable {X : Cx} {ρ : Rho} {O : Sto} {e a b c o value : Expr} {es : List Expr} {d da db : D} {ds : List D} {R : D -> Sto -> Prop} {pos p apos pos' : Pos} {x f m : Str} {rest : List Stmt} {P : Post} {q : Nat} {C : Addr} {fs : List (Str × D)}
theorem Q0G (he : EvP X ρ O e (.ptr q)) (hq : O[q]? = some (some (.ins C fs))) (c : Cls X.K C) (n : Q1L X.K C f) (hl : fs.lookup f = some d) (hb : attributeBase e f X.env (eval e X.env) = eval e X.env := by rfl) : EvP X ρ O (.Attribute e f pos) d := λ G =>
 PE.imp (pe_fld (he G) hb) λ σ H Q ⟨h1,h2,h3⟩ => ⟨h1,h2,λ v G1 H1 e1 s1 i1 => by
  obtain ⟨a,dx,vs,rfl,g1,g2,g3⟩ := s1.ins i1 hq
  obtain ⟨v,l,iv⟩ := g3.look hl
  exact ⟨a,C,dx,vs,v,rfl,g2,c,n,l,h3 v G1 H1 e1 s1 iv⟩⟩
theorem x_fld (hv : EvP X ρ O value d) (ho : EvP X ρ O o (.ptr q)) (hq : O[q]? = some (some (.ins C fs))) (c : Cls X.K C) (n : Q1L X.K C f) (hz : fs.length < 1000) (h : P.nx ρ (O.set q (some (.ins C (putD f d fs))))) (hs : swapsWith value (some (.Attribute o f pos')) pos.line X.env = pure false := by rfl) :
  Ex X ρ O (.Assign [.Attribute o f pos'] value pos) P := λ G pins s σ H E I ⟨h1,h2,h3⟩ => by
 refine plainObj_wpAny_Assign_Attribute (thn (hv G pins s σ H (λ v H1 => ∃ G1,Ext G G1 /\ SA X.K G1 H1 O /\ Is X.K G1 d v) I ⟨h1,h2,λ v G' H' e s i => ⟨G',e,s,i⟩⟩) λ u s1 ⟨y,H1,I1,ry,G1,e1,sa1,i1⟩ =>
  thn (ho G1 pins s1 σ H1 (λ v H2 => ∃ G2,Ext G1 G2 /\ SA X.K G2 H2 O /\ Is X.K G2 (.ptr q) v) I1 ⟨sa1,h2.ext e1,λ v G' H' e s i => ⟨G',e,s,i⟩⟩) λ ov s2 ⟨x,H2,I2,rx,G2,e2,sa2,i2⟩ => ?_) hs
 obtain ⟨a,dx,vs,rfl,g1,g2,g3⟩ := sa2.ins i2 hq
 obtain rfl : ov = Value.ref a := rx
 refine setattr_ok I2 g2 c n (by rw [<- g3.len]; exact hz) ry λ s3 I3 => ⟨σ,_,I3,?_⟩
 exact h3.nx σ ρ _ G2 _ (e1.trans e2) (sa2.put (m' := .ins C (putD f d fs)) hq g1 ⟨dx,_,Q0h,g3.put (i1.ext e2)⟩) (h2.ext (e1.trans e2)) h
structure Q3t (P : Program) (w : World) (K : PySem.W.Frag) (mg : Str -> Option Value) (base : Heap) (C : Addr) (k : Nat) (m : Str) (sp : SpD) : Prop where
 ex : ∃ f fd ps,FnOk P w K mg base CX0 k f fd ps (toSp K sp) /\ Meth K C m f /\ Q0F K fd ps []
 cls : Cls K C
theorem Q3F {k : Nat} {sp : SpD} {pl : Sem Bool} (M : Q3t X.prog X.w X.K X.mg X.base C k m sp) (hr : Room k X.A) (ho : EvP X ρ O o (.ptr q)) (hq : O[q]? = some (some (.ins C fs))) (hno : fs.lookup m = none) (ha : EvPs X ρ O (e :: es) ds) (hs : sp (.ptr q :: ds) O R)
  (hst : starEach (e :: es) X.env = (false,eval e X.env) :: starEach es X.env := by rfl) (hpl : (backTo pos (starEach es X.env)).any (·.1) = false := by rfl)
  (ht : eval (.Call (.Attribute o m apos) (e :: es) [] pos) X.env = (do
   let ov <- eval o X.env
   standAt apos.atName
   let (f,first) <- holding [ov] (getMethod ov m pl)
   callWith pos f first (backTo pos (starEach (e :: es) X.env)) (backToKw pos (keywordEach [] X.env))) := by rfl) : Ev X ρ O (.Call (.Attribute o m apos) (e :: es) [] pos) R := λ G pins s σ H Q I ⟨h1,h2,h3⟩ => by
 obtain ⟨f,fd,ps,g1,g2,g3⟩ := M.ex
 refine pe_meth (t := λ σ H Q => ∃ G1,SA X.K G1 H O /\ EnvR X.K G1 σ ρ /\ ∀ vs G' H',Ext G1 G' -> SA X.K G' H' O -> Iss X.K G' ds vs -> Q vs H') (ho G) M.cls g2 g1 hr g3 .nil pass0 (λ pos pins s σ H Q I ⟨G1,z⟩ => ha G1 pos pins s σ H Q I z) hst hpl ht pins s σ H Q I ⟨h1,h2,λ v G1 H1 e1 s1 i1 => ?_⟩
 obtain ⟨a,dx,vs,rfl,k1,k2,k3⟩ := s1.ins i1 hq
 refine ⟨a,dx,vs,rfl,k2,k3.none hno,G1,s1,h2.ext e1,λ us G2 H2 e2 s2 i2 => ?_⟩
 show toSp X.K sp (V.ref a :: (us ++ [])) H2 Q E0
 rw [List.append_nil]
 exact ⟨G2,O,.ptr q :: ds,R,s2,.cons (i1.ext e2) i2,hs,λ v d O' G' H' e3 s3 i3 r3 => h3 v d O' G' H' ((e1.trans e2).trans e3) s3 i3 r3⟩
theorem Q1o {k : Nat} {sp : SpD} {pl : Sem Bool} (M : Q3t X.prog X.w X.K X.mg X.base C k m sp) (hr : Room k X.A) (ho : EvP X ρ O o (.ptr q)) (hq : O[q]? = some (some (.ins C fs))) (hno : fs.lookup m = none) (hs : sp [.ptr q] O R)
  (ht : eval (.Call (.Attribute o m apos) [] [] pos) X.env = (do
   let ov <- eval o X.env
   standAt apos.atName
   let (f,first) <- holding [ov] (getMethod ov m pl)
   callWith pos f first (backTo pos (starEach [] X.env)) (backToKw pos (keywordEach [] X.env))) := by rfl) : Ev X ρ O (.Call (.Attribute o m apos) [] [] pos) R := λ G pins s σ H Q I ⟨h1,h2,h3⟩ => by
 obtain ⟨f,fd,ps,g1,g2,g3⟩ := M.ex
 refine pe_meth0 (ho G) M.cls g2 g1 hr g3 .nil pass0 ht pins s σ H Q I ⟨h1,h2,λ v G1 H1 e1 s1 i1 => ?_⟩
 obtain ⟨a,dx,vs,rfl,k1,k2,k3⟩ := s1.ins i1 hq
 refine ⟨a,dx,vs,rfl,k2,k3.none hno,?_⟩
 show toSp X.K sp (V.ref a :: []) H1 Q E0
 exact ⟨G1,O,[.ptr q],R,s1,.cons i1 .nil,hs,λ v d O' G' H' e3 s3 i3 r3 => h3 v d O' G' H' (e1.trans e3) s3 i3 r3⟩
structure MakeOk (P : Program) (w : World) (K : PySem.W.Frag) (mg : Str -> Option Value) (base : Heap) (C : Addr) (k : Nat) (x : Str) (sp : SpD) : Prop where
 ex : ∃ f fd ps,FnOk P w K mg base CX0 k f fd ps (toSp K sp) /\ Mk K C f /\ Q0F K fd ps []
 at_ : mg x = some (.ref C)
theorem made {K : PySem.W.Frag} {G : Wd} {H : Hp} {y dx : Addr} (s : SA K G H O) (h1 : H y = none) (h2 : H dx = none) (h3 : dx ≠ y) : Ext G ⟨G.g,G.l ++ [y]⟩ /\ SA K ⟨G.g,G.l ++ [y]⟩ (upd (upd H dx (.own y)) y (.ins C dx [])) (O ++ [some (.ins C [])]) :=
 (s.grow (Q2e h2)).new (by rw [Q0i]; exact h1; exact λ e => h3 e.symm) ⟨dx,[],Q0h,.nil⟩
theorem ev_make {k : Nat} {sp : SpD} (M : MakeOk X.prog X.w X.K X.mg X.base C k x sp) (hr : Room (k + 1) X.A) (ha : EvPs X ρ O (e :: es) ds) (hs : sp (.ptr O.length :: ds) (O ++ [some (.ins C [])]) λ d O' => d = .non /\ R (.ptr O.length) O')
  (hg : Gl X x := by rfl) (hdb : (x == ("__debug__" : Str)) = false := by decide) (he : starEach (e :: es) X.env = (false,eval e X.env) :: starEach es X.env := by rfl) (hpl : (backTo pos (starEach es X.env)).any (·.1) = false := by rfl) :
  Ev X ρ O (.Call (.Name x p) (e :: es) [] pos) R := λ G pins s σ H Q I ⟨h1,h2,h3⟩ => by
 obtain ⟨f,fd,ps,g1,g2,g3⟩ := M.ex
 refine pe_make g2 g1 hr hg M.at_ g3 .nil pass0 (ha G) hdb he hpl pins s σ H Q I ⟨h1,h2,λ vs G1 H1 e1 s1 i1 => λ y dx k1 k2 k3 => ?_⟩
 obtain ⟨e2,s2⟩ := made (C := C) s1 k1 k2 k3
 have iy : Is X.K ⟨G1.g,G1.l ++ [y]⟩ (.ptr O.length) (.ref y) := .ptr _ (by rw [<- s1.len,List.getElem?_append_right (Nat.le_refl _),Nat.sub_self]; rfl)
 show toSp X.K sp (V.ref y :: (vs ++ [])) _ _ E0
 rw [List.append_nil]
 refine ⟨_,_,.ptr O.length :: ds,_,s2,.cons iy (i1.ext e2),hs,λ v d O' G' H' e3 s3 i3 r3 => ?_⟩
 obtain ⟨rfl,r⟩ := r3
 cases i3
 exact ⟨rfl,h3 _ _ O' G' H' ((e1.trans e2).trans e3) s3 (iy.ext e3) r⟩
end
section
variable {X : Cx} {ρ : Rho} {O : Sto} {e a b c o ix value : Expr} {es : List Expr} {d da db : D} {ds xs : List D} {R : D -> Sto -> Prop} {pos p apos tpos : Pos} {x f m : Str} {rest : List Stmt} {P : Post} {q j : Nat} {i : Int}
end
end DL
namespace DL
open PySem PySem.Spec PyProof.Rows L2 PySem.W
section
variable {prog : Program} {w : World} {A : Around} {E : Value -> Shared -> Prop} {s : Shared} {n l i : Nat} {j : Int} {k : Bool} {xs : Array Value} {f0 f1 old v : Value}
end
section
variable {X : Cx} {ρ : Rho} {O : Sto} {e a b c : Expr} {es : List Expr} {d da db : D} {ds : List D} {R : D -> Sto -> Prop} {pos p : Pos} {x : Str} {xs ys : List D}
end
end DL
namespace DL
open PySem PySem.Spec PyProof.Rows L2
section
variable {X : Cx} {ρ : Rho} {O : Sto} {e a b c o value : Expr} {es : List Expr} {d da db : D} {ds : List D} {R : D -> Sto -> Prop} {pos p p2 apos pos' : Pos} {x y f m : Str} {rest : List Stmt} {P : Post} {q : Nat} {C C2 : Addr} {fs : List (Str × D)}
theorem ev_gint {i : Int} {t : Tok} (hm : X.mg x = some (.int i t)) (hg : Gl X x := by rfl) (hd : (x == ("__debug__" : Str)) = false := by decide) : EvP X ρ O (.Name x pos) (.int i) := λ G =>
 PE.imp (pe_glob (v := .int i) hg hm ⟨t,rfl⟩ hd) λ σ H Q ⟨h1,h2,h3⟩ => h3 _ G H (Ext.refl _) h1 (.int i)
structure ClsTy (K : PySem.W.Frag) (C : Addr) : Prop where
 cls : Cls K C
 ha : PySem.W.findIn K (.ref C) "__class__" = some (some (.builtin "object.__class__"))
 hn : PySem.W.specialIn K (.builtin "object.__class__") "__get__" = some (some (.builtin "getset_descriptor.__get__"))
 htk : PySem.W.takesIn K (.builtin "object.__class__") = some true
 hm : PySem.W.mroIn K C (.type "object") = some true
end
def EvTE (X : Cx) (ρ : Rho) (O : Sto) (e : Expr) (R : Bool -> Sto -> Prop) : Prop :=
 ∀ G,PT X e (λ σ H Q => SA X.K G H O /\ EnvR X.K G σ ρ /\ ∀ k O' G' H',Ext G G' -> SA X.K G' H' O' -> R k O' -> Q k H')
section
variable {X : Cx} {ρ : Rho} {O : Sto} {e a b c : Expr} {body orelse : List Stmt} {d da db : D} {pos : Pos} {P : Post}
theorem x_ifE {R : Bool -> Sto -> Prop} (hc : EvTE X ρ O c R) (h : ∀ k O',R k O' -> (k = true -> Exs X ρ O' body P) /\ (k = false -> Exs X ρ O' orelse P)) : Ex X ρ O (.If c body orelse pos) P := λ G =>
 PS.imp (ps_if (hc G) (t := λ E σ H => ∃ G1 O',R true O' /\ SA X.K G1 H O' /\ EnvR X.K G1 σ ρ /\ Q2o X.K G1 P E) (λ pins s σ H E I ⟨G1,O',z,q⟩ => (h true O' z).1 rfl G1 pins s σ H E I q)
  (u := λ E σ H => ∃ G1 O',R false O' /\ SA X.K G1 H O' /\ EnvR X.K G1 σ ρ /\ Q2o X.K G1 P E) (λ pins s σ H E I ⟨G1,O',z,q⟩ => (h false O' z).2 rfl G1 pins s σ H E I q)) λ E σ H ⟨q1,q2,q3⟩ =>
  ⟨q1,q2,λ k O' G' H' e1 s1 r1 => by
   cases k with
   | true => exact iteT ⟨G',O',r1,s1,q2.ext e1,q3.ext e1⟩
   | false => exact iteF ⟨G',O',r1,s1,q2.ext e1,q3.ext e1⟩⟩
end
section
variable {X : Cx} {ρ : Rho} {O : Sto} {a b : Expr} {pos : Pos} {R : D -> Sto -> Prop} {xs : List D}
end
end DL
namespace DL
open PySem PySem.Spec PyProof.Rows L2 PySem.W
section
variable {X : Cx} {ρ : Rho} {O : Sto} {d : D} {xs ys : List D}
theorem ev_lstA {es : List Expr} {R : D -> Sto -> Prop} {pos : Pos} (h : EvAs X ρ O es λ ds O' => ds.length <= sizeLine /\ R (.lst ds) O') : Ev X ρ O (.List es pos) R := λ G =>
 PE.imp (pe_lst (h G)) λ σ H Q ⟨h1,h2,h3⟩ => ⟨h1,h2,λ vs ds O1 G1 H1 e1 s1 i1 ⟨hz,r⟩ => ⟨by rw [<- i1.length]; exact hz,λ p hp => by
  obtain ⟨e2,s2⟩ := s1.laid (o := .lst vs) hp
  exact h3 _ _ _ _ _ (e1.trans e2) s2 (.lst Q0h (i1.ext e2)) r⟩⟩
theorem Iss.toBls {K : PySem.W.Frag} {G : Wd} : ∀ {bs : List Bool} {vs : List V},Iss K G (bs.map D.bl) vs -> vs = bs.map V.bl
 | [],_,.nil => rfl
 | b :: bs,_,.cons h r => by cases h; rw [Iss.toBls r]; rfl
end
section
variable {P : Program} {w : World} {K : PySem.W.Frag} {mg : Str -> Option Value} {base : Heap}
end
section
variable {X : Cx} {ρ : Rho} {O : Sto} {a : Expr} {pos p : Pos} {R : D -> Sto -> Prop} {xs : List D} {d : D}
end
section
variable {prog : Program} {w : World} {A : Around} {E : Value -> Shared -> Prop} {s : Shared}
end
section
variable {X : Cx} {O : Sto} {d : D} {k : Nat}
end
section
variable {X : Cx} {ρ : Rho} {O : Sto} {e : Expr} {p p2 pos pos2 : Pos}
end
section
variable {X : Cx} {ρ : Rho} {O : Sto} {e : Expr} {es : List Expr} {ds : List D} {R : D -> Sto -> Prop} {pos p : Pos} {x : Str} {C : Addr}
end
end DL
namespace DL
open PySem PySem.Spec PyProof.Rows L2
theorem Ev.keep {X : Cx} {ρ : Rho} {O : Sto} {e : Expr} {d0 : D} (h : Ev X ρ O e λ d O' => (∃ O2,O' = O ++ O2) /\ npD d = true /\ d = d0) : EvP X ρ O e d0 := λ G => PE.imp (h G) λ σ H Q ⟨q1,q2,q3⟩ => ⟨q1,q2,λ v d O' G' H' e1 s1 i1 r => by
 obtain ⟨⟨O2,rfl⟩,hn,rfl⟩ := r
 obtain ⟨e2,s2⟩ := q1.cut e1 s1
 exact q3 v _ H' e2 s2 (i1.cut hn _)⟩
section
variable {X : Cx} {ρ : Rho} {O : Sto} {a b : Expr} {pos : Pos}
end
section
variable {X : Cx} {ρ : Rho} {O : Sto} {a e : Expr} {d : D}
end
section
variable {prog : Program} {w : World} {A : Around} {E : Value -> Shared -> Prop} {s : Shared}
end
section
variable {X : Cx} {O : Sto} {xs : List D}
end
section
variable {X : Cx} {ρ : Rho} {O : Sto} {a b : Expr} {d : D} {pos : Pos}
end
section
variable {X : Cx} {ρ : Rho} {O : Sto} {e a b c st : Expr} {d da db : D} {xs ys : List D} {R : D -> Sto -> Prop} {pos p p2 : Pos} {P : Post} {q : Nat}
end
section
variable {prog : Program} {w : World} {A : Around} {E : Value -> Shared -> Prop} {s : Shared}
end
section
variable {X : Cx} {ρ : Rho} {O : Sto} {a st lo : Expr} {xs : List D} {pos p2 : Pos}
end
section
variable {X : Cx} {ρ : Rho} {O : Sto} {e : Expr} {C C2 : Addr} {x : Str} {p p2 pos : Pos} {R : D -> Sto -> Prop}
end
section
variable {X : Cx} {ρ : Rho} {O : Sto} {o ix e : Expr} {pos tpos : Pos} {P : Post} {q : Nat}
end
end DL
namespace DL
open PySem PySem.Spec PyProof.Rows L2 PySem.W
section
variable {prog : Program} {w : World} {A : Around} {E : Value -> Shared -> Prop} {s : Shared} {n l : Nat} {j : Int} {xs : Array Value} {v : Value}
end
section
variable {X : Cx} {ρ : Rho} {O : Sto} {a : Expr} {pos p : Pos} {xs : List D}
end
section
variable {prog : Program} {w : World} {A : Around} {E : Value -> Shared -> Prop} {s : Shared} {l : Nat} {k : Int} {t : Tok} {vs : List Value} {ns : List Int}
end
section
variable {X : Cx} {ρ : Rho} {O : Sto} {a e : Expr}
end
end DL
namespace L2
open PySem PySem.Spec PyProof.Rows
def Mild {α : Type} : Sem α -> Prop
 | .pure _ => True
 | .raise _ => True
 | .unsupported _ => True
 | .finish _ => True
 | .rule _ k => Mild (k ())
 | .at _ k => Mild (k ())
 | .load _ _ k => ∀ o,Mild (k o)
 | .update _ _ f k => (∀ o : Obj,((f o).dict = o.dict /\ ctxOf (f o) = ctxOf o) /\ (o.data ≠ .freed -> (f o).data ≠ .freed)) /\ Mild (k ())
 | .alloc _ k => ∀ a,Mild (k a)
 | .loadIfAlive _ k => ∀ o,Mild (k o)
 | .point _ k => Mild (k ())
 | .fresh k => ∀ t,Mild (k t)
 | .ask k => ∀ t,Mild (k t)
 | .handled _ k => ∀ t,Mild (k t)
 | .stack k => ∀ t,Mild (k t)
 | .thread k => ∀ t,Mild (k t)
 | _ => False
theorem Mild.bind {α β : Type} {t : Sem α} {k : α -> Sem β} (h : Mild t) (g : ∀ a,Mild (k a)) : Mild (t >>= k) := by
 show Mild (Sem.bind t k)
 induction t with
 | pure a => exact g a
 | raise _ => trivial
 | unsupported _ => trivial
 | finish _ => trivial
 | rule _ _ ih => exact ih () h
 | «at» _ _ ih => exact ih () h
 | load _ _ _ ih => exact λ o => ih o (h o)
 | update _ _ _ _ ih => exact ⟨h.1,ih () h.2⟩
 | alloc _ _ ih => exact λ o => ih o (h o)
 | loadIfAlive _ _ ih => exact λ o => ih o (h o)
 | point _ _ ih => exact ih () h
 | fresh _ ih => exact λ o => ih o (h o)
 | ask _ ih => exact λ o => ih o (h o)
 | handled _ _ ih => exact λ o => ih o (h o)
 | stack _ ih => exact λ o => ih o (h o)
 | thread _ ih => exact λ o => ih o (h o)
 | _ => exact h.elim
def DK (h h' : Heap) : Prop := ∀ b o,h.get? b = some o -> ∃ o',h'.get? b = some o' /\ o'.dict = o.dict /\ ctxOf o' = ctxOf o
theorem DK.refl (h : Heap) : DK h h := λ _ o e => ⟨o,e,rfl,rfl⟩
theorem DK.trans {h h1 h2 : Heap} (x : DK h h1) (y : DK h1 h2) : DK h h2 := λ b o e => by
 obtain ⟨o1,e1,d1⟩ := x b o e
 obtain ⟨o2,e2,d2⟩ := y b o1 e1
 exact ⟨o2,e2,d2.1.trans d1.1,d2.2.trans d1.2⟩
theorem DK.push {h : Heap} (o : Obj) : DK h (h.push o) := λ b o' e => ⟨o',Heap.get?_push_of_some _ e,rfl,rfl⟩
theorem DK.update {h : Heap} {a : Addr} {f : Obj -> Obj} (hf : ∀ o : Obj,((f o).dict = o.dict /\ ctxOf (f o) = ctxOf o) /\ (o.data ≠ .freed -> (f o).data ≠ .freed)) : DK h (h.update a f) := λ b o e => by
 by_cases hb : a = b
 ·subst hb
  have hn : o.data ≠ .freed := λ z => by
   unfold Heap.get? at e
   split at e
   ·cases e
   ·rename_i hx
    obtain ⟨c,d,x,l⟩ := o
    subst z
    exact hx _ _ _ e
  refine ⟨f o,Heap.get?_update_self f e ?_,(hf o).1⟩
  have := (hf o).2 hn
  revert this
  generalize f o = z
  obtain ⟨c,d,y,l⟩ := z
  intro this
  cases y <;> first | rfl | exact absurd rfl this
 ·exact ⟨o,(Heap.get?_update_other _ _ hb).trans e,rfl,rfl⟩
theorem Mild.wp {α : Type} {M : Model} {Γ : PySem.Ctx} {t : Sem α} (h : Mild t) : ∀ {Q : α -> Pos -> Shared -> Prop} {E : Value -> Pos -> Shared -> Prop} {p : Pos} {s : Shared} {h0 : Heap},DK h0 s.heap -> Sem.wp M Γ t Q E p s -> Sem.wp M Γ t (λ a p' s' => Q a p' s' /\ DK h0 s'.heap) (λ e p' s' => E e p' s' /\ DK h0 s'.heap) p s := by
 induction t with
 | pure a => exact λ d q => ⟨q,d⟩
 | raise _ => exact λ d q => ⟨q,d⟩
 | unsupported _ => exact λ d q => q.elim
 | finish _ => exact λ d q => q.elim
 | rule _ _ ih => exact λ d q => ih () h d q
 | «at» _ _ ih => exact λ d q => ih () h d q
 | load _ _ _ ih => exact λ d ⟨o,e,q⟩ => ⟨o,e,ih o (h o) d q⟩
 | update _ _ _ _ ih => exact λ d ⟨e,q⟩ => ⟨e,ih () h.2 (d.trans (DK.update h.1)) q⟩
 | alloc _ _ ih => exact λ d q => ih _ (h _) (d.trans (DK.push _)) q
 | loadIfAlive _ _ ih => exact λ d q => ih _ (h _) d q
 | point _ _ ih => exact λ d q => ih () h d q
 | fresh _ ih => exact λ d q => ih _ (h _) d q
 | ask _ ih => exact λ d q => ih _ (h _) d q
 | handled _ _ ih => exact λ d q => ih _ (h _) d q
 | stack _ ih => exact λ d q => ih _ (h _) d q
 | thread _ ih => exact λ d q => ih _ (h _) d q
 | _ => exact h.elim
theorem Mild.any {α : Type} {M : Model} {A : Around} {t : Sem α} {Q : α -> Shared -> Prop} {E : Value -> Shared -> Prop} {s : Shared} (h : Mild t) (q : wpAny M A t Q E s) : wpAny M A t (λ a s' => Q a s' /\ DK s.heap s'.heap) (λ e s' => E e s' /\ DK s.heap s'.heap) s :=
 λ Γ p hi => h.wp (DK.refl _) (q Γ p hi)
theorem Q2K {v : Value} {i : Nat} : Mild (field v i) := by
 unfold field fieldsOf
 refine Mild.bind ?_ λ vs => ?_
 ·cases v with
  | ref a =>
   refine Mild.bind (λ _ => trivial) λ o => ?_
   split <;> trivial
  | _ => trivial
 ·split <;> trivial
theorem Q2g {v x : Value} {i : Nat} (hi : i ≠ 2 := by decide) : Mild (setField v i x) := by
 unfold setField
 cases v with
 | ref a =>
  show Mild (updateField a i x)
  unfold updateField
  refine Mild.bind (λ _ => trivial) λ o => ?_
  split
  ·split
   ·refine ⟨λ o => ?_,trivial⟩
    obtain ⟨c,d,y,l⟩ := o
    cases y <;> refine ⟨⟨rfl,?_⟩,λ z => by first | exact z | (intro q; cases q)⟩
    all_goals first | rfl | (show (Array.setIfInBounds _ i x)[2]? = _; rw [Array.getElem?_setIfInBounds_ne hi]; rfl)
   ·trivial
  ·trivial
 | _ => trivial
theorem Q1M {e : Value} {f : Option Addr} : Mild (setFlight e f) := by
 unfold setFlight
 refine Mild.bind Q2K λ tb => ?_
 split
 ·exact Q2g
 ·trivial
theorem Q3C : Mild stack := λ _ => trivial
theorem mild_ready : ∀ l : List Env,Mild (readyFrames l)
 | [] => trivial
 | env :: outer => by
  unfold readyFrames
  split
  ·refine Mild.bind (λ _ => trivial) λ o => ?_
   split
   ·trivial
   ·refine Mild.bind ?_ λ im => Mild.bind ?_ λ back => Mild.bind ⟨λ o => ⟨⟨rfl,rfl⟩,id⟩,trivial⟩ λ _ => mild_ready outer
    ·unfold behindIsImport
     split
     ·trivial
     ·split
      ·trivial
      ·exact Mild.bind Q2K λ _ => trivial
    ·unfold keptBack underTheClaimsCaller
     split
     ·split
      ·trivial
      ·exact Mild.bind (Mild.bind Q3C λ _ => trivial) λ _ => trivial
     ·trivial
  ·trivial
theorem mild_frameOf {env : Env} : Mild (PySem.frameOf env) := by
 unfold PySem.frameOf frameEnvs
 refine Mild.bind (Mild.bind Q3C λ _ => trivial) λ es => Mild.bind ?_ λ o => ?_
 ·unfold frameObject
  split
  ·trivial
  ·exact Mild.bind (mild_ready _) λ _ => trivial
 ·split <;> trivial
theorem mild_place {f : Addr} {b : Bool} : Mild (entryPlaceOf f b) := by
 unfold entryPlaceOf
 refine Mild.bind Q3C λ a => ?_
 split <;> trivial
theorem mild_newEntry {a b c d e : Value} {l : List Value} : Mild (EntryCells.newEntry a b c d e l) := by
 unfold EntryCells.newEntry newFields newObj newObjAsIs
 dsimp only
 split <;> split <;> first | trivial | exact λ _ => trivial
theorem mild_note {e : Value} {env : Env} : Mild (noteFrame e env) := by
 unfold noteFrame
 split
 ·refine Mild.bind Q2K λ hd => ?_
  have rest : ∀ (f : Addr) (hd : Value),Mild (do setField e 1 (<- EntryCells.newEntry hd (<- PySem.frameOf env) .none (rawInt f) .none (<- entryPlaceOf f (hd != .none)))) := λ f hd =>
   Mild.bind mild_frameOf λ _ => Mild.bind mild_place λ _ => Mild.bind mild_newEntry λ _ => Q2g
  split
  ·refine Mild.bind Q2K λ x => ?_
   split
   ·trivial
   ·exact Mild.bind Q2g λ _ => rest _ _
  ·exact rest _ _
 ·trivial
theorem Q3K {e : Value} {env : Env} : Mild (leaving env e) := Mild.bind mild_note λ _ => Q1M
def Flies (B : Heap) (l : List Env) (a C : Addr) (od : Option Addr) (h : Heap) : Prop :=
 (∃ t,Heap.FlyingW B l a (.ref C) (.ref t) h) /\ ∃ oe,h.get? a = some oe /\ oe.dict = od /\ ctxOf oe = some .none
structure Gone (P : Program) (w : World) (outer : List Env) (H H' : Hp) (s s' : Shared) (a C : Addr) (od : Option Addr) (B : Heap) : Prop where
 os : s'.os = s.os
 bare : AllBare s'.gens
 fly : Flies B outer a C od s'.heap
 un : Un (frs outer) [] H H' s.heap s'.heap
 hok : HOk P w H' s'.heap
 old : ∀ b o,s.heap.get? b = some o -> b ∉ frs outer -> ∃ o',B.get? b = some o'
 trk : ∀ b u,H' b = some u -> ∃ o',B.get? b = some o'
def CX1 (P : Program) (w : World) : CXT := λ outer H s E e s' => ∃ a C od B H',e = .ref a /\ Gone P w outer H H' s s' a C od B /\ E (.ref C) od H'
section
variable {P : Program} {w : World}
theorem hok_in {H : Hp} {h h' B : Heap} (ok : HOk P w H h) (k1 : B.StaysIn h) (k2 : B.StaysIn h') (t : ∀ b u,H b = some u -> ∃ o',B.get? b = some o') : HOk P w H h' := λ a o e =>
 (ok a o e).stay (λ b u hb q => by
  have hb' : ∃ v,H b = some v := by
   rcases hb with rfl | hb
   ·exact ⟨o,e⟩
   ·exact ⟨_,hb⟩
  obtain ⟨v,hv⟩ := hb'
  obtain ⟨o',h1⟩ := t b v hv
  have h2 := k1 b o' h1
  rw [q] at h2
  cases h2
  exact k2 b _ h1) (λ _ q => q) λ _ _ q => q
theorem HOk.get {H : Hp} {h : Heap} {a : Addr} {o : HO} (x : HOk P w H h) (e : H a = some o) : ∃ ob,h.get? a = some ob := by
 have x := x a o e
 induction o with
 | lst xs => obtain ⟨_,_,_,_,e⟩ := x; exact ⟨_,e⟩
 | tup xs => obtain ⟨_,_,_,_,e,_⟩ := x; exact ⟨_,e⟩
 | dK kvs => obtain ⟨_,_,_,_,o,_,_,e,_⟩ := x; exact ⟨_,e⟩
 | dT kvs => obtain ⟨_,_,_,_,o,_,_,e,_⟩ := x; exact ⟨_,e⟩
 | set S n => obtain ⟨o,_,_,_,e,_⟩ := x; exact ⟨_,e⟩
 | ins C dx fs => obtain ⟨_,_,_,e,_⟩ := x; exact ⟨_,e⟩
 | own y => exact x
 | xd fs => obtain ⟨_,⟨_,_,_,e,_⟩,_⟩ := x; exact ⟨_,e⟩
 | rng lo hi => obtain ⟨_,_,_,e⟩ := x; exact ⟨_,e⟩
 | frz ob u => obtain ⟨e,_⟩ := x; exact ⟨_,e⟩
 | tbl ps => exact ⟨_,show h.get? a = some _ from x⟩
 | met f y => exact ⟨_,show h.get? a = some _ from x⟩
 | ext φ => obtain ⟨_,q,_⟩ := x; exact q
theorem hide_get {h : Heap} {as : List Addr} {b : Addr} {o : Obj} (e : h.get? b = some o) (n : b ∉ as) : (PySem.W.hideAll h as).get? b = some o := PySem.W.hideAll_get _ e n
end
section
variable {CX : CXT} {P : Program} {w : World} {K : PySem.W.Frag} {mg : Str -> Option Value} {base : Heap} {N : List Str} {qual : Str} {scope : Scope} {f : Addr} {cd : Value} {A : Around} {outer : List Env} {s : Shared} {H : Hp} {E : XK}
theorem pass1 : Q3N (CX1 P w) (cxOf (CX1 P w) P w K mg base N qual scope f cd A outer s H E) E := λ pins σ H1 s1 e s2 I hc => by
 obtain ⟨a,C,od,B,H2,rfl,g,he⟩ := hc
 obtain ⟨⟨t,fl⟩,hd⟩ := g.fly
 show wpAny _ _ (leaving _ _) _ _ s2
 have hne : ∀ b o,s.heap.get? b = some o -> b ≠ s.heap.objs.size := λ b o e z => Nat.lt_irrefl _ (z ▸ Heap.lt_size e)
 have hst : ∀ b o,s.heap.get? b = some o -> b ∉ frs outer -> b ∉ frs (envOfC qual scope s.heap.objs.size f cd :: outer) := λ b o e n z => by
  unfold frs at z n
  rw [List.filterMap_cons] at z
  have z : b ∈ s.heap.objs.size :: List.filterMap (λ x : Env => x.frame) outer := z
  rcases List.mem_cons.mp z with z | z
  ·exact hne b o e z
  ·exact n z
 have hin : ∀ b,b ∈ frs outer -> b ∈ frs (envOfC qual scope s.heap.objs.size f cd :: outer) := λ b z => by
  unfold frs at z ⊢
  rw [List.filterMap_cons]
  exact List.mem_cons_of_mem _ z
 obtain ⟨oe,ho0,ho1⟩ := hd
 refine wpAny_mono (Q3K.any (wpAny_leaves_onW (E := λ _ _ => False) (Q := λ _ s' => ∃ h',s' = { s2 with heap := h' } /\ Heap.FlyingW B outer a (.ref C) (.ref t) h' /\ s2.heap.UpToSlots h') I.ok.frames rfl fl λ h' fl' sm => ⟨h',rfl,fl',sm⟩)) (λ _ s3 ⟨⟨h',e3,fl',sm⟩,dk⟩ => ?_) λ _ _ z => z.1.elim
 subst e3
 obtain ⟨oe',ho2,ho3⟩ := dk a oe ho0
 refine ⟨a,C,od,B,H2,rfl,⟨g.os.trans I.os,g.bare,⟨⟨t,fl'⟩,oe',ho2,ho3.1.trans ho1.1,ho3.2.trans ho1.2⟩,?_,hok_in g.hok fl.1 fl'.1 g.trk,?_,g.trk⟩,he⟩
 ·have hu : Un (frs outer) [] H H1 s.heap s1.heap := I.base
  refine ⟨λ b o q n hb _ => ?_,λ b o q n hb _ => ?_,λ b o q n _ => ?_,λ b o q _ => ?_,λ b xs q => g.un.tups b xs (hu.tups b xs q),λ b o u q => g.un.frzs b o u (hu.frzs b o u q),λ b ps q => ?_⟩
  ·have q1 := hu.keep b o q n hb (by simp)
   have n1 := hu.free b o q n (by simp)
   have q2 := g.un.keep b o q1 n1 (hst b o q hb) (by simp)
   obtain ⟨o',ho⟩ := g.old b o q1 (hst b o q hb)
   have h2 := fl.1 b o' ho
   rw [q2] at h2
   cases h2
   exact fl'.1 b _ ho
  ·obtain ⟨sl,q1⟩ := hu.slot b o q n hb (by simp)
   have n1 := hu.free b o q n (by simp)
   obtain ⟨sl2,q2⟩ := g.un.slot b _ q1 n1 (hin b hb) (by simp)
   obtain ⟨_,oo,ho,hnf⟩ := fl.2.2.1.mem (hin b hb)
   rw [q2] at ho
   cases ho
   obtain ⟨sl3,q3⟩ := sm b _ q2 hnf
   exact ⟨sl3,q3⟩
  ·obtain ⟨o1,q1⟩ := hu.there b o q (by simp)
   exact g.un.free b o1 q1 (hu.free b o q n (by simp)) (by simp)
  ·obtain ⟨o1,q1⟩ := hu.there b o q (by simp)
   by_cases hb : b ∈ frs outer
   ·obtain ⟨_,oo,ho,hnf⟩ := fl.2.2.1.mem (hin b hb)
    obtain ⟨sl3,q3⟩ := sm b _ ho hnf
    exact ⟨_,q3⟩
   ·obtain ⟨o',ho⟩ := g.old b o1 q1 (hst b o q hb)
    exact ⟨o',fl'.1 b _ ho⟩
  ·obtain ⟨m1,e1⟩ := hu.tbls b ps q
   obtain ⟨m2,e2⟩ := g.un.tbls b _ e1
   exact ⟨m1 ++ m2,by rw [e2,Array.append_assoc]⟩
 ·intro b o q hb
  have hu : Un (frs outer) [] H H1 s.heap s1.heap := I.base
  obtain ⟨o1,q1⟩ := hu.there b o q (by simp)
  exact g.old b o1 q1 (hst b o q hb)
theorem raise2 {pins : List (Addr × Obj)} {σ : St} {H1 : Hp} {s1 : Shared} {a C t : Addr} {oe : Obj} {vs : Array Value} (I : Inv (cxOf (CX1 P w) P w K mg base N qual scope f cd A outer s H E) pins σ H1 s1) (n1 : H1 a = none) (n0 : s.heap.get? a = none)
  (ho : s1.heap.get? a = some oe) (hc : oe.cls = .ref C) (hv : oe.data = .fields vs) (h1 : vs[1]? = some .none) (h0 : vs[0]? = some (.ref t)) (h2 : vs[2]? = some .none) (he : E (.ref C) oe.dict H1) : (cxOf (CX1 P w) P w K mg base N qual scope f cd A outer s H E).xe (.ref a) s1 := by
 show wpAny _ _ (leaving _ _) _ _ _
 have hu : Un (frs outer) [] H H1 s.heap s1.heap := I.base
 have hne : ∀ b o,s.heap.get? b = some o -> b ≠ s.heap.objs.size := λ b o e z => Nat.lt_irrefl _ (z ▸ Heap.lt_size e)
 have hst : ∀ b o,s.heap.get? b = some o -> b ∉ frs outer -> b ∉ frs (envOfC qual scope s.heap.objs.size f cd :: outer) := λ b o e n z => by
  unfold frs at z n
  rw [List.filterMap_cons] at z
  have z : b ∈ s.heap.objs.size :: List.filterMap (λ x : Env => x.frame) outer := z
  rcases List.mem_cons.mp z with z | z
  ·exact hne b o e z
  ·exact n z
 have hsub : ∀ b,b ∈ frs outer -> b ∈ frs (envOfC qual scope s.heap.objs.size f cd :: outer) := λ b z => by
  unfold frs at z ⊢
  rw [List.filterMap_cons]
  exact List.mem_cons_of_mem _ z
 generalize hB : PySem.W.hideAll s1.heap (a :: frs (envOfC qual scope s.heap.objs.size f cd :: outer)) = B
 have hin : ∀ env ∈ (envOfC qual scope s.heap.objs.size f cd :: outer),∀ b,env.frame = some b -> b ∈ a :: frs (envOfC qual scope s.heap.objs.size f cd :: outer) := λ env he b hb => List.mem_cons_of_mem _ (List.mem_filterMap.mpr ⟨env,he,hb⟩)
 have ff : s1.heap.FunFrames B (envOfC qual scope s.heap.objs.size f cd :: outer) := hB ▸ PySem.W.funFrames_hide I.stack hin
 have of : ∀ b o,B.get? b = some o -> s1.heap.get? b = some o := λ b o q => PySem.W.of_hideAll _ (hB ▸ q)
 have to : ∀ b o,s1.heap.get? b = some o -> b ≠ a -> b ∉ frs (envOfC qual scope s.heap.objs.size f cd :: outer) -> B.get? b = some o := λ b o q n1 n2 => hB ▸ hide_get q (λ z => by
  rcases List.mem_cons.mp z with z | z
  ·exact n1 z
  ·exact n2 z)
 have ba : B.get? a = none := hB ▸ PySem.W.hideAll_none _ List.mem_cons_self
 have trk : ∀ b u,H1 b = some u -> ∃ o',B.get? b = some o' := λ b u q => by
  have hb : b ∉ frs (envOfC qual scope s.heap.objs.size f cd :: outer) := λ z => by
   have := I.stkFree b z
   rw [q] at this
   cases this
  obtain ⟨o,ho⟩ : ∃ o,s1.heap.get? b = some o := I.hok.get q
  exact ⟨o,to b o ho (Q0r q n1) hb⟩
 refine wpAny_mono (Q3K.any (wpAny_leaving_firstW (E := λ _ _ => False) (Q := λ _ s' => ∃ h',s' = { s1 with heap := h' } /\ Heap.LeftW B (envOfC qual scope s.heap.objs.size f cd :: outer) a oe.cls (.ref t) s1.heap h') I.ok.frames ff rfl ho of ba hv h1 h0 λ h' l => ⟨h',rfl,l⟩)) (λ _ s3 ⟨⟨h',e3,k1,⟨_,_,k2⟩,k3,sm⟩,dk⟩ => ?_) λ _ _ z => z.1.elim
 subst e3
 obtain ⟨oe',ho2,ho3⟩ := dk a oe ho
 have na : ∀ b o,s.heap.get? b = some o -> b ≠ a := λ b o q z => by rw [z,n0] at q; cases q
 refine ⟨a,C,oe.dict,B,H1,rfl,⟨I.os,I.bare,⟨⟨t,k1,ba,k2,hc ▸ k3⟩,oe',ho2,ho3.1,ho3.2.trans (by unfold ctxOf; rw [hv]; exact h2)⟩,?_,hok_in I.hok of k1 trk,?_,trk⟩,he⟩
 ·refine ⟨λ b o q n hb _ => ?_,λ b o q n hb _ => ?_,λ b o q n _ => hu.free b o q n (by simp),λ b o q _ => ?_,hu.tups,hu.frzs,hu.tbls⟩
  ·exact k1 b o (to b o (hu.keep b o q n hb (by simp)) (na b o q) (hst b o q hb))
  ·obtain ⟨sl,q1⟩ := hu.slot b o q n hb (by simp)
   obtain ⟨_,oo,ho,hnf⟩ := ff.mem (hsub b hb)
   rw [q1] at ho
   cases ho
   obtain ⟨sl3,q3⟩ := sm b _ q1 hnf
   exact ⟨sl3,q3⟩
  ·obtain ⟨o1,q1⟩ := hu.there b o q (by simp)
   by_cases hb : b ∈ frs outer
   ·obtain ⟨_,oo,ho,hnf⟩ := ff.mem (hsub b hb)
    obtain ⟨sl3,q3⟩ := sm b _ ho hnf
    exact ⟨_,q3⟩
   ·exact ⟨o1,k1 b _ (to b o1 q1 (na b o q) (hst b o q hb))⟩
 ·intro b o q hb
  obtain ⟨o1,q1⟩ := hu.there b o q (by simp)
  exact ⟨o1,to b o1 q1 (na b o q) (hst b o q hb)⟩
end
end L2
namespace DL
open PySem PySem.Spec PyProof.Rows L2
def Fds (K : PySem.W.Frag) (G : Wd) (od : Option Addr) (fs : List (Str × D)) : Prop := fs = [] \/ ∃ dx vs,od = some dx /\ G.g dx = some (.xd vs) /\ FsIs K G fs vs
abbrev XR := Addr -> List (Str × D) -> Sto -> Prop
abbrev SpX := List D -> Sto -> (D -> Sto -> Prop) -> XR -> Prop
def Q2d (K : PySem.W.Frag) (sp : SpX) : Sp := λ vs H Q E => ∃ G O ds R RX,SA K G H O /\ Iss K G ds vs /\ sp ds O R RX /\ (∀ v d O' G' H',Ext G G' -> SA K G' H' O' -> Is K G' d v -> R d O' -> Q v H') /\
 ∀ C fs od O' G' H',Ext G G' -> SA K G' H' O' -> Fds K G' od fs -> RX C fs O' -> E (.ref C) od H'
def Thr (X : Cx) (C : Addr) (od : Option Addr) (σ : L2.St) (H' : Hp) : Prop := ∀ pins H1 s1 a B s2,L2.Inv X pins σ H1 s1 -> Gone X.prog X.w X.stack H1 H' s1 s2 a C od B -> X.xe (.ref a) s2
def ThrM (X : Cx) (C : Addr) (od : Option Addr) (σ : L2.St) (H' : Hp) : Prop := ∀ pins s1 a t oe vs,L2.Inv X pins σ H' s1 -> H' a = none -> X.s₀.heap.get? a = none -> s1.heap.get? a = some oe -> oe.cls = .ref C -> oe.data = .fields vs -> vs[1]? = some .none -> vs[0]? = some (.ref t) -> vs[2]? = some .none -> oe.dict = od -> X.xe (.ref a) s1
abbrev XC := Addr -> List (Str × D) -> Rho -> Sto -> Prop
def ContX (X : Cx) (mk : Prop) (G : Wd) (RX : XC) : Prop := ∀ C fs od σ ρ O' G' H',Ext G G' -> SA X.K G' H' O' -> EnvR X.K G' σ ρ -> Fds X.K G' od fs -> RX C fs ρ O' -> Thr X C od σ H' /\ (mk -> ThrM X C od σ H')
theorem ContX.ext {X : Cx} {mk : Prop} {G G' : Wd} {RX : XC} (h : ContX X mk G RX) (e : Ext G G') : ContX X mk G' RX := λ C fs od σ ρ O' G2 H' e2 => h C fs od σ ρ O' G2 H' (e.trans e2)
def EvX (X : Cx) (mk : Prop) (ρ : Rho) (O : Sto) (e : Expr) (R : D -> Sto -> Prop) (RX : XC) : Prop :=
 ∀ G,PE X e (λ σ H Q => SA X.K G H O /\ EnvR X.K G σ ρ /\ (∀ v d O' G' H',Ext G G' -> SA X.K G' H' O' -> Is X.K G' d v -> R d O' -> Q v H') /\ ContX X mk G RX)
def ExX (X : Cx) (mk : Prop) (ρ : Rho) (O : Sto) (st : Stmt) (P : Post) (RX : XC) : Prop := ∀ G,PS X st (λ E σ H => SA X.K G H O /\ EnvR X.K G σ ρ /\ Q2o X.K G P E /\ ContX X mk G RX)
def ExsX (X : Cx) (mk : Prop) (ρ : Rho) (O : Sto) (st : List Stmt) (P : Post) (RX : XC) : Prop := ∀ G,PSs X st (λ E σ H => SA X.K G H O /\ EnvR X.K G σ ρ /\ Q2o X.K G P E /\ ContX X mk G RX)
section
variable {X : Cx} {mk : Prop} {ρ : Rho} {O : Sto} {e a b c o : Expr} {es : List Expr} {d da db : D} {ds : List D} {R : D -> Sto -> Prop} {RX : XC} {pos p apos : Pos} {x m : Str} {st : Stmt} {rest body orelse : List Stmt} {P : Post} {C : Addr} {q : Nat} {fs : List (Str × D)}
theorem _root_.DL.Ex.x_ (h : Ex X ρ O st P) : ExX X mk ρ O st P RX := λ G => PS.imp (h G) λ E σ H ⟨h1,h2,h3,_⟩ => ⟨h1,h2,h3⟩
theorem _root_.DL.Exs.x_ (h : Exs X ρ O rest P) : ExsX X mk ρ O rest P RX := λ G => PSs.imp (h G) λ E σ H ⟨h1,h2,h3,_⟩ => ⟨h1,h2,h3⟩
theorem Q1R (h : P.nx ρ O) : ExsX X mk ρ O [] P RX := Exs.x_ (Q0m h)
theorem Q0g (h : ExX X mk ρ O st { P with nx := λ ρ' O' => ExsX X mk ρ' O' rest P RX } RX) : ExsX X mk ρ O (st :: rest) P RX := λ G =>
 PSs.imp (pss_cons (h G) (u := λ E σ H => ∃ G1 ρ1 O1,SA X.K G1 H O1 /\ EnvR X.K G1 σ ρ1 /\ ExsX X mk ρ1 O1 rest P RX /\ Q2o X.K G1 P E /\ ContX X mk G1 RX) (λ pins s σ H E I ⟨G1,ρ1,O1,q1,q2,q3,q4,q5⟩ => q3 G1 pins s σ H E I ⟨q1,q2,q4,q5⟩)) λ E σ H ⟨h1,h2,h3,h4⟩ =>
  ⟨h1,h2,⟨λ σ1 ρ1 O1 G1 H1 e1 s1 n1 q1 => ⟨G1,ρ1,O1,s1,n1,q1,h3.ext e1,h4.ext e1⟩,h3.rt,h3.bk,h3.ct⟩,h4⟩
theorem Q1i {k : Bool} (hc : EvT X ρ O c k) (h1 : k = true -> ExsX X mk ρ O body P RX) (h2 : k = false -> ExsX X mk ρ O orelse P RX) : ExX X mk ρ O (.If c body orelse pos) P RX := λ G =>
 PS.imp (ps_if (hc G) (t := λ E σ H => ∃ G1,k = true /\ SA X.K G1 H O /\ EnvR X.K G1 σ ρ /\ Q2o X.K G1 P E /\ ContX X mk G1 RX) (λ pins s σ H E I ⟨G1,z,q⟩ => h1 z G1 pins s σ H E I q)
  (u := λ E σ H => ∃ G1,k = false /\ SA X.K G1 H O /\ EnvR X.K G1 σ ρ /\ Q2o X.K G1 P E /\ ContX X mk G1 RX) (λ pins s σ H E I ⟨G1,z,q⟩ => h2 z G1 pins s σ H E I q)) λ E σ H ⟨q1,q2,q3,q4⟩ =>
  ⟨q1,q2,λ G' H' e1 s1 => by
   cases k with
   | true => exact iteT ⟨G',rfl,s1,q2.ext e1,q3.ext e1,q4.ext e1⟩
   | false => exact iteF ⟨G',rfl,s1,q2.ext e1,q3.ext e1,q4.ext e1⟩⟩
theorem Q0s (h : EvX X mk ρ O e (λ _ O' => P.nx ρ O') RX) (hs : swapsWith e none pos.line X.env = pure false := by rfl) : ExX X mk ρ O (.Expr e pos) P RX := λ G => PS.imp (Q3z (h G) hs) λ E σ H ⟨h1,h2,h3,h4⟩ =>
 ⟨h1,h2,λ v d O' G' H' e1 s1 i1 r1 => h3.nx σ ρ O' G' H' e1 s1 (h2.ext e1) r1,h4⟩
theorem xX_set (i : Nat) (he : EvX X mk ρ O e (λ d O' => P.nx (ρ.set i (some d)) O') RX) (hN : X.N.Nodup) (hi : X.N[i]? = some x := by rfl) (hx : Loc X.env.scope x := by first | exact Or.inl rfl | exact Or.inr rfl) {p : Pos}
  (hs : swapsWith e (some (.Name x p)) pos.line X.env = pure false := by rfl) (hf : X.fn x = true \/ X.env.scope.names.lookup x = some .local := by first | exact .inl rfl | exact .inr rfl | assumption) : ExX X mk ρ O (.Assign [.Name x p] e pos) P RX := λ G =>
 PS.imp (ps_set hN hi hx (he G) hs hf) λ E σ H ⟨h1,h2,h3,h4⟩ => ⟨h1,h2,λ v d O' G' H' e1 s1 i1 r1 => h3.nx _ _ O' G' H' e1 s1 ((h2.ext e1).set i i1) r1,h4⟩
theorem run_fnX {CX : CXT} {k : Nat} {f : Addr} {fd : FuncData} {ps : List Str} {sp : Sp} {E : XK} {pins : List (Addr × Obj)} {σ : L2.St} {H : Hp} {s : Shared} {Q : VK} {us : List Value} {vs : List V} (F : FnOk X.prog X.w X.K X.mg X.base CX k f fd ps sp) (hr : Room k X.A) (hb : Q0F X.K fd ps [])
  (I : L2.Inv X pins σ H s) (r : Vals vs us) (h : sp vs H Q E) (hx : ∀ e s',CX X.stack H s E e s' -> X.xe e s') : wpAny (model X.prog X.w) X.A (call (.ref f) us) (EP X pins σ Q) X.xe s := by
 have hl : us.length = ps.length := by rw [<- r.length]; exact F.len _ _ _ _ h
 have hb' := hb s us I.kIn (by rw [List.append_nil]; exact hl)
 rw [List.append_nil] at hb'
 refine wpAny_call (codeAny_mono (F.run X.A X.stack s H ⟨us,[]⟩ us vs Q E hr I.env0 hb' r h) λ r s' hq => ?_)
 match r,hq with
 | .error e,hq => exact hx e s' hq
 | .ok (.ret u),hq => exact I.after hq
theorem thr_of {G : Wd} {H' H1 : Hp} {σ : L2.St} {pins : List (Addr × Obj)} {s1 s2 : Shared} {e : Value} {E : XK} (I : L2.Inv X pins σ H1 s1) (k : ∀ C od H2,E (.ref C) od H2 -> Thr X C od σ H2) (h : CX1 X.prog X.w X.stack H1 s1 E e s2) : X.xe e s2 := by
 obtain ⟨a,C,od,B,H2,rfl,g,he⟩ := h
 exact k C od H2 he pins H1 s1 a B s2 I g
def EOf (X : Cx) (σ : L2.St) : XK := λ c od H' => ∀ C,c = .ref C -> Thr X C od σ H'
theorem eof_thr {σ : L2.St} : ∀ C od H2,EOf X σ (.ref C) od H2 -> Thr X C od σ H2 := λ C od H2 h => h C rfl
structure DefX (P : Program) (w : World) (K : PySem.W.Frag) (mg : Str -> Option Value) (base : Heap) (k : Nat) (x : Str) (sp : SpX) : Prop where
 ex : ∃ f fd ps,FnOk P w K mg base (CX1 P w) k f fd ps (Q2d K sp) /\ mg x = some (.ref f) /\ PySem.W.keepIn K (.ref f) = true /\ Q0F K fd ps []
theorem Q0z {k : Nat} {sp : SpX} (F : DefX X.prog X.w X.K X.mg X.base k x sp) (hr : Room k X.A) (ha : EvPs X ρ O (e :: es) ds) (hs : sp ds O R λ C fs O' => RX C fs ρ O') (hg : Gl X x := by rfl) (hdb : (x == ("__debug__" : Str)) = false := by decide)
  (he : starEach (e :: es) X.env = (false,eval e X.env) :: starEach es X.env := by rfl) (hpl : (backTo pos (starEach es X.env)).any (·.1) = false := by rfl) : EvX X mk ρ O (.Call (.Name x p) (e :: es) [] pos) R RX := λ G pins s σ H Q I ⟨h1,h2,h3,h4⟩ => by
 obtain ⟨f,fd,ps,g1,g2,g3,g4⟩ := F.ex
 refine wpAny_Call_Name_kw (Q2v I hg g2 ?_ hdb)
 refine PySem.W.callWith_K (h₀ := X.base) I.ok.mod.kin g3 (thn (ha G pos pins s σ H (λ vs H' => ∃ G',Ext G G' /\ SA X.K G' H' O /\ Iss X.K G' ds vs) I ⟨h1,h2,λ vs G' H' e1 s1 i1 => ⟨G',e1,s1,i1⟩⟩) λ us s1 ⟨vs,H1,I1,r,G1,e1,sa,i1⟩ => ⟨I1.kIn,?_⟩) he hpl
 refine run_fnX (E := EOf X σ) g1 hr g4 I1 r ⟨G1,O,ds,R,_,sa,i1,hs,λ v d O' G' H' e2 s2 i2 r2 => h3 v d O' G' H' (e1.trans e2) s2 i2 r2,λ C fs od O' G' H' e2 s2 f2 r2 => ?_⟩ λ e s' hx => thr_of (G := G) (H' := H) I1 eof_thr hx
 intro C' hC
 cases hC
 exact (h4 _ fs od σ ρ O' G' H' (e1.trans e2) s2 (h2.ext (e1.trans e2)) f2 r2).1
structure Q2A (P : Program) (w : World) (K : PySem.W.Frag) (mg : Str -> Option Value) (base : Heap) (C : Addr) (k : Nat) (m : Str) (sp : SpX) : Prop where
 ex : ∃ f fd ps,FnOk P w K mg base (CX1 P w) k f fd ps (Q2d K sp) /\ Meth K C m f /\ Q0F K fd ps []
 cls : Cls K C
theorem Q0E {k : Nat} {sp : SpX} {pl : Sem Bool} (M : Q2A X.prog X.w X.K X.mg X.base C k m sp) (hr : Room k X.A) (ho : EvP X ρ O o (.ptr q)) (hq : O[q]? = some (some (.ins C fs))) (hno : fs.lookup m = none) (ha : EvPs X ρ O (e :: es) ds)
  (hs : sp (.ptr q :: ds) O R λ C fs O' => RX C fs ρ O') (hst : starEach (e :: es) X.env = (false,eval e X.env) :: starEach es X.env := by rfl) (hpl : (backTo pos (starEach es X.env)).any (·.1) = false := by rfl)
  (ht : eval (.Call (.Attribute o m apos) (e :: es) [] pos) X.env = (do
   let ov <- eval o X.env
   standAt apos.atName
   let (f,first) <- holding [ov] (getMethod ov m pl)
   callWith pos f first (backTo pos (starEach (e :: es) X.env)) (backToKw pos (keywordEach [] X.env))) := by rfl) : EvX X mk ρ O (.Call (.Attribute o m apos) (e :: es) [] pos) R RX := λ G pins s σ H Q I ⟨h1,h2,h3,h4⟩ => by
 obtain ⟨f,fd,ps,g1,g2,g3⟩ := M.ex
 refine PySem.W.methodCall_KW (pl := pl) (thn (ho G pins s σ H (λ v H' => ∃ G',Ext G G' /\ SA X.K G' H' O /\ Is X.K G' (.ptr q) v) I ⟨h1,h2,λ v G' H' e s i => ⟨G',e,s,i⟩⟩) λ u s1 ⟨y,H1,I1,ry,G1,e1,sa1,i1⟩ => ?_) ht
 obtain ⟨a,dx,vs,rfl,k1,k2,k3⟩ := sa1.ins i1 hq
 obtain rfl : u = Value.ref a := ry
 refine Q3E I1 k2 M.cls g2 (k3.none hno) ?_
 refine PySem.W.callWith_K (first := [.ref a]) (h₀ := X.base) I.ok.mod.kin g2.kp (thn (ha G1 pos pins s1 σ H1 (λ vs H' => ∃ G',Ext G1 G' /\ SA X.K G' H' O /\ Iss X.K G' ds vs) I1 ⟨sa1,h2.ext e1,λ vs G' H' e1 s1 i1 => ⟨G',e1,s1,i1⟩⟩) λ us s2 ⟨ws,H2,I2,r,G2,e2,sa2,i2⟩ => ⟨I2.kIn,?_⟩) hst hpl
 have e12 := e1.trans e2
 refine run_fnX (us := .ref a :: us) (vs := .ref a :: ws) (E := EOf X σ) g1 hr g3 I2 (.cons rfl r) ⟨G2,O,.ptr q :: ds,R,_,sa2,.cons (i1.ext e2) i2,hs,λ v d O' G' H' e3 s3 i3 r3 => h3 v d O' G' H' (e12.trans e3) s3 i3 r3,λ C fs od O' G' H' e3 s3 f3 r3 => ?_⟩ λ e s' hx => thr_of (G := G) (H' := H) I2 eof_thr hx
 intro C' hC
 cases hC
 exact (h4 _ fs od σ ρ O' G' H' (e12.trans e3) s3 (h2.ext (e12.trans e3)) f3 r3).1
structure MakeX (P : Program) (w : World) (K : PySem.W.Frag) (mg : Str -> Option Value) (base : Heap) (C : Addr) (k : Nat) (x : Str) (sp : SpX) : Prop where
 ex : ∃ f fd ps,FnOk P w K mg base (CX1 P w) k f fd ps (Q2d K sp) /\ Mk K C f /\ Q0F K fd ps []
 at_ : mg x = some (.ref C)
theorem evX_make {k : Nat} {sp : SpX} (M : MakeX X.prog X.w X.K X.mg X.base C k x sp) (hr : Room (k + 1) X.A) (ha : EvPs X ρ O (e :: es) ds)
  (hs : sp (.ptr O.length :: ds) (O ++ [some (.ins C [])]) (λ d O' => d = .non /\ R (.ptr O.length) O') λ C fs O' => RX C fs ρ O')
  (hg : Gl X x := by rfl) (hdb : (x == ("__debug__" : Str)) = false := by decide) (he : starEach (e :: es) X.env = (false,eval e X.env) :: starEach es X.env := by rfl) (hpl : (backTo pos (starEach es X.env)).any (·.1) = false := by rfl) :
  EvX X mk ρ O (.Call (.Name x p) (e :: es) [] pos) R RX := λ G pins s σ H Q I ⟨h1,h2,h3,h4⟩ => by
 obtain ⟨f,fd,ps,g1,g2,g3⟩ := M.ex
 refine wpAny_Call_Name_kw (Q2v I hg M.at_ ?_ hdb)
 refine PySem.W.callWith_K (h₀ := X.base) I.ok.mod.kin g2.kp (thn (ha G pos pins s σ H (λ vs H' => ∃ G',Ext G G' /\ SA X.K G' H' O /\ Iss X.K G' ds vs) I ⟨h1,h2,λ vs G' H' e1 s1 i1 => ⟨G',e1,s1,i1⟩⟩) λ us s1 ⟨vs,H1,I1,r,G1,e1,sa,i1⟩ => ⟨I1.kIn,?_⟩) he hpl
 obtain ⟨e2,sa2⟩ := made (C := C) sa (I1.hok.fresh (Nat.le_succ _)) (I1.hok.fresh (Nat.le_refl _)) (Nat.ne_of_lt (Nat.lt_succ_self _))
 have I2 := L2.Inv.made (C := C) I1
 have e12 := e1.trans e2
 have iy : Is X.K ⟨G1.g,G1.l ++ [s1.heap.objs.size + 1]⟩ (.ptr O.length) (.ref (s1.heap.objs.size + 1)) := .ptr _ (by rw [<- sa.len,List.getElem?_append_right (Nat.le_refl _),Nat.sub_self]; rfl)
 have hsp : Q2d X.K sp (V.ref (s1.heap.objs.size + 1) :: vs) (upd (upd H1 s1.heap.objs.size (.own (s1.heap.objs.size + 1))) (s1.heap.objs.size + 1) (.ins C s1.heap.objs.size [])) (λ v H2 => v = .non /\ Q (.ref (s1.heap.objs.size + 1)) H2) (EOf X σ) := by
  refine ⟨_,_,.ptr O.length :: ds,_,_,sa2,.cons iy (i1.ext e2),hs,λ v d O' G' H' e3 s3 i3 r3 => ?_,λ C fs od O' G' H' e3 s3 f3 r3 => ?_⟩
  ·obtain ⟨rfl,r⟩ := r3
   cases i3
   exact ⟨rfl,h3 _ _ O' G' H' (e12.trans e3) s3 (iy.ext e3) r⟩
  ·intro C' hC
   cases hC
   exact (h4 _ fs od σ ρ O' G' H' (e12.trans e3) s3 (h2.ext (e12.trans e3)) f3 r3).1
 have r2 : Vals (V.ref (s1.heap.objs.size + 1) :: vs) (Value.ref (s1.heap.objs.size + 1) :: us) := .cons rfl r
 have hl : (Value.ref (s1.heap.objs.size + 1) :: us).length = ps.length := by rw [<- r2.length]; exact g1.len _ _ _ _ hsp
 have hb := g3 { s1 with heap := _ } (Value.ref (s1.heap.objs.size + 1) :: us) I2.kIn (by rw [List.append_nil]; exact hl)
 rw [List.append_nil] at hb
 refine wpAny_call (make_map (f := f) I1.kIn g2.makes g2.init (beq_iff_eq.mp g2.fn) (codeAny_mono (g1.run _ X.stack _ _ ⟨Value.ref (s1.heap.objs.size + 1) :: us,[]⟩ _ _ _ (EOf X σ) (hr.make C us []) (I2.env0.make C us []) hb r2 hsp) λ r s' hq' => ?_))
 match r,hq' with
 | .error e,hq' => exact thr_of (G := G) (H' := H) I2 eof_thr hq'
 | .ok (.ret u),hq' =>
  obtain ⟨v,H',I3,rv,ev,q3⟩ := I2.after hq'
  subst ev
  exact ⟨rv,⟨V.ref (s1.heap.objs.size + 1),H',I3,rfl,q3⟩⟩
end
section
variable {P : Program} {w : World} {K : PySem.W.Frag} {mg : Str -> Option Value} {base : Heap}
theorem okX {x qual : Str} {st : Stmt} {f : Addr} {fd : FuncData} {N ps : List Str} {k : Nat} {sp : SpX} (F : Fun K x qual st f fd) (S : Q0o N ps (Q0f st)) (len : ∀ ds O R RX,sp ds O R RX -> ds.length = ps.length)
  (hbody : ∀ (cdv : Value) (A : Around) (outer : List Env) (s : Shared) (H : Hp) (E : XK) (ds : List D) (O : Sto) (R : D -> Sto -> Prop) (RX : XR),Room k (A.deeper (envOfC qual (Q0f st) s.heap.objs.size f cdv)) -> sp ds O R RX ->
   ExsX (cxOf (CX1 P w) P w K mg base N qual (Q0f st) f cdv A outer s H E) True (startD N ds) O (Q0l st) { nx := λ _ O' => R .non O',rt := R } λ C fs _ O' => RX C fs O') : FnOk P w K mg base (CX1 P w) (k + 1) f fd ps (Q2d K sp) := by
 obtain ⟨oc,od,kV,doc,pm,an,cdv,ct,osl,rfl,lk,hcd⟩ := F.ex
 refine fn_of lk hcd S (λ vs H Q E h => ?_) λ A outer s H vs Q E hr h => ?_
 ·obtain ⟨G,O,ds,R,RX,h1,h2,h3,h4⟩ := h
  rw [<- h2.length]
  exact len _ _ _ _ h3
 ·obtain ⟨G,O,ds,R,RX,h1,h2,h3,h4,h5⟩ := h
  refine ⟨_,hbody cdv A outer s H E ds O R RX hr h3 G,h1,start_env h2,⟨λ σ ρ O' G' H' e1 s1 n1 q => h4 _ _ O' G' H' e1 s1 .non q,λ v d O' G' H' e1 s1 i1 q => h4 v d O' G' H' e1 s1 i1 q,λ σ ρ O' G' H' e1 s1 n1 q => q.elim,λ σ ρ O' G' H' e1 s1 n1 q => q.elim⟩,?_⟩
  intro C fs od σ ρ O' G' H' e1 s1 n1 f1 r1
  have hE := h5 C fs od O' G' H' e1 s1 f1 r1
  refine ⟨λ pins H1 s1 a B s2 I g => pass1 pins σ H1 s1 (.ref a) s2 I ⟨a,C,od,B,H',rfl,g,hE⟩,λ _ pins s1 a t oe vs I x1 x2 x3 x4 x5 x6 x7 x9 x8 => raise2 I x1 x2 x3 x4 x5 x6 x7 x9 (x8 ▸ hE)⟩
end
end DL
namespace L2
open PySem PySem.Spec PyProof.Rows
theorem exc_cls {K : PySem.W.Frag} {h : Heap} {C : Addr} {bmB : List Value} {newId : String} (X : K.In h) (q : PySem.W.excIn K C bmB newId = true) : OwnCls "e" C bmB newId (λ _ => some (.ref C)) h := by
 unfold PySem.W.excIn at q
 split at q
 ·rename_i dd cd sl ho
  split at q
  ·rename_i C' bm k0 k1 k2 k3 n k5 hm hs
   have e := X _ _ ho
   obtain ⟨nm,bs,mro,ns,qn,hd,sn,sub,ab,col,del⟩ := cd
   obtain ⟨l⟩ := sl
   simp only [Bool.and_eq_true,beq_iff_eq,Bool.not_eq_true'] at q hm hs
   obtain ⟨⟨⟨⟨⟨q1,q2⟩,q3⟩,q4⟩,q5⟩,q6⟩ := q
   subst q1 q2 hm hs
   subst q3
   exact ⟨rfl,bm,ns,nm,qn,bs,hd,sn,sub,ab,col,dd,k0,k1,k2,k3,k5,_,e,.of_isNs (PySem.W.isNs_of_in X q5),PySem.W.nsMap_none_of_in X q5 q6,PySem.W.tail_of_in X q4⟩
  ·cases q
 ·cases q
section
variable {X : Cx} {pins : List (Addr × Obj)} {σ : St} {H : Hp} {s : Shared}
theorem Q3n {M : Model} {A : Around} {E : Value -> Shared -> Prop} {i : Nat} {n : Str} {pos : Pos} {Q : Unit -> Shared -> Prop} (I : Inv X pins σ H s) (hN : X.N.Nodup) (hi : X.N[i]? = some n) (hl : X.env.kindOf n = some .local)
  (h : ∀ s',Inv X pins (σ.set i none) H s' -> Q () s') : wpAny M A (do bindName X.env n .none; unbindBehindTheSuite X.env n pos) Q E s := by
 refine wpAny_bind (wpAny_bindName (Q3Y I hN hi (.inl hl) (v := .non) (u := .none) rfl (λ s1 I1 => ?_) (.inr hl)))
 have hiσ : i < σ.length := by rw [I.len]; exact (List.getElem?_eq_some_iff.mp hi).1
 obtain ⟨m,hn,hk⟩ := id I1.loc
 obtain ⟨u,ru,lu⟩ := hk i n .non hi (List.getElem?_set_self hiσ) (.inl hl)
 have hv : m n = some u := by
  rcases lu with ⟨_,e⟩ | ⟨k | k,_⟩
  ·exact e
  ·rw [hl] at k; cases k
  ·rw [hl] at k; cases k
 unfold unbindBehindTheSuite
 refine wpAny_onRaise (wpAny_unbindName_local hl hn hv (by rw [I.ok.kind]; rfl) λ h' u' hn' hs => h _ ?_)
 have ne : ∀ b o,X.s₀.heap.get? b = some o -> b ≠ X.env.locals := λ b o e => Nat.ne_of_lt (Nat.lt_of_lt_of_le (Heap.lt_size e) I.ok.above)
 refine ⟨I1.ok,I1.os,I1.bare,⟨λ b o e n hb hx => (hs.2 b (ne b o e)).trans (I1.base.keep b o e n hb hx),λ b o e n hb hx => ?_,I1.base.free,λ b o e hx => ?_,I1.base.tups,I1.base.frzs,I1.base.tbls⟩,⟨_,hn',λ j y v' e1 e2 e3 => ?_⟩,λ y c e => ?_,I1.free,I1.freeC,λ p hp => ?_,λ b ob e => ?_,by simpa using I.len⟩
 ·obtain ⟨sl,q⟩ := I1.base.slot b o e n hb hx
  exact ⟨sl,(hs.2 b (ne b o e)).trans q⟩
 ·obtain ⟨o',q⟩ := I1.base.there b o e hx
  exact ⟨o',(hs.2 b (ne b o e)).trans q⟩
 ·have hj : j ≠ i := by
   rintro rfl
   rw [List.getElem?_set_self hiσ] at e2
   cases e2
  rw [List.getElem?_set_ne (Ne.symm hj)] at e2
  obtain ⟨u2,r2,q⟩ := hk j y v' e1 (by rw [List.getElem?_set_ne (Ne.symm hj)]; exact e2) e3
  refine ⟨u2,r2,?_⟩
  rcases q with ⟨k,e⟩ | ⟨k,c,e,z⟩
  ·refine .inl ⟨k,?_⟩
   have : y ≠ n := λ e => hj (nodup_ix hN e1 (e ▸ hi))
   simp [this,e]
  ·exact .inr ⟨k,c,e,z.sameBut hs (I.cne y c e)⟩
 ·obtain ⟨w',z⟩ := I1.cell y c e
  exact ⟨w',z.sameBut hs (I.cne y c e)⟩
 ·obtain ⟨e,n,ne,nf,d⟩ := I1.pin p hp
  exact ⟨(hs.2 p.1 ne).trans e,n,ne,nf,d⟩
 ·refine (I1.hok b ob e).stay (λ c w' hc q => (hs.2 c ?_).trans q) (λ _ q => q) λ _ _ q => q
  intro z
  subst z
  rcases hc with hc | hc
  ·rw [<- hc,I1.free] at e; cases e
  ·rw [I1.free] at hc; cases hc
theorem Gone.on {P : Program} {w : World} {l : List Env} {H H' : Hp} {s s' : Shared} {a C t : Addr} {od : Option Addr} {B h' : Heap} (g : Gone P w l H H' s s' a C od B) (fl' : Heap.FlyingW B l a (.ref C) (.ref t) h') (sm : s'.heap.UpToSlots h') (dk : DK s'.heap h') :
  Gone P w l H H' s { s' with heap := h' } a C od B := by
 obtain ⟨⟨t0,fl⟩,oe,ho0,ho1⟩ := g.fly
 obtain ⟨oe',ho2,ho3⟩ := dk a oe ho0
 refine ⟨g.os,g.bare,⟨⟨t,fl'⟩,oe',ho2,ho3.1.trans ho1.1,ho3.2.trans ho1.2⟩,⟨λ b o q n hb _ => ?_,λ b o q n hb _ => ?_,λ b o q n hx => g.un.free b o q n hx,λ b o q _ => ?_,g.un.tups,g.un.frzs,g.un.tbls⟩,hok_in g.hok fl.1 fl'.1 g.trk,g.old,g.trk⟩
 ·obtain ⟨o',ho⟩ := g.old b o q hb
  have h2 := fl.1 b o' ho
  rw [g.un.keep b o q n hb (by simp)] at h2
  cases h2
  exact fl'.1 b _ ho
 ·obtain ⟨sl,q1⟩ := g.un.slot b o q n hb (by simp)
  obtain ⟨_,oo,ho,hnf⟩ := fl.2.2.1.mem hb
  rw [q1] at ho
  cases ho
  obtain ⟨sl3,q3⟩ := sm b _ q1 hnf
  exact ⟨sl3,q3⟩
 ·by_cases hb : b ∈ frs l
  ·obtain ⟨_,oo,ho,hnf⟩ := fl.2.2.1.mem hb
   obtain ⟨sl3,q3⟩ := sm b _ ho hnf
   exact ⟨_,q3⟩
  ·obtain ⟨o',ho⟩ := g.old b o q hb
   exact ⟨o',fl'.1 b _ ho⟩
theorem Gone.new {P : Program} {w : World} {l : List Env} {H H' : Hp} {s s' : Shared} {a C : Addr} {od : Option Addr} {B : Heap} (g : Gone P w l H H' s s' a C od B) : s.heap.get? a = none /\ a ∉ frs l /\ H' a = none := by
 obtain ⟨⟨t,fl⟩,hd⟩ := g.fly
 have hn : a ∉ frs l := λ z => by
  obtain ⟨_,o,ho,hnf⟩ := fl.2.2.1.mem z
  obtain ⟨oe,vs,h1,h2,h3,h4⟩ := fl.first
  rw [h1] at ho
  cases ho
  exact hnf _ h3
 have hb := fl.2.1
 refine ⟨?_,hn,?_⟩
 ·cases q : s.heap.get? a with
  | none => rfl
  | some o =>
   obtain ⟨o',ho⟩ := g.old a o q hn
   rw [hb] at ho
   cases ho
 ·cases q : H' a with
  | none => rfl
  | some u =>
   obtain ⟨o',ho⟩ := g.trk a u q
   rw [hb] at ho
   cases ho
abbrev Cx.as (X : Cx) (A : Around) (calm : Bool) (pn : List (Addr × Obj)) (E : Value -> Shared -> Prop) : Cx := { X with A := A,calm := calm,pn := pn,xe := E }
theorem Inv.as {A : Around} {calm : Bool} {pn pins' : List (Addr × Obj)} {E : Value -> Shared -> Prop} (I : Inv X pins σ H s) (hd : calm = true -> A.handled = none) (hf : A.frames = some X.stack) (hp : ∀ p ∈ pn ++ pins',p ∈ X.pn ++ pins) : Inv (X.as A calm pn E) pins' σ H s :=
 ⟨⟨I.ok.mod,I.ok.kind,I.ok.glob,I.ok.blt,I.ok.above,I.ok.inj,I.ok.has,I.ok.cab,hd,hf,I.ok.stk,I.ok.exf,I.ok.bs,I.ok.bsz,I.ok.noex,I.ok.exfs,I.ok.funs,I.ok.frf⟩,I.os,I.bare,I.base,I.loc,I.cell,I.free,I.freeC,λ p q => I.pin p (hp p q),I.hok,I.len⟩
theorem Inv.asI {A : Around} {calm : Bool} {pn pins' : List (Addr × Obj)} {E : Value -> Shared -> Prop} (I : Inv (X.as A calm pn E) pins' σ H s) (hd : X.calm = true -> X.A.handled = none) (hf : X.A.frames = some X.stack) (hp : ∀ p ∈ X.pn ++ pins,p ∈ pn ++ pins') : Inv X pins σ H s :=
 ⟨⟨I.ok.mod,I.ok.kind,I.ok.glob,I.ok.blt,I.ok.above,I.ok.inj,I.ok.has,I.ok.cab,hd,hf,I.ok.stk,I.ok.exf,I.ok.bs,I.ok.bsz,I.ok.noex,I.ok.exfs,I.ok.funs,I.ok.frf⟩,I.os,I.bare,I.base,I.loc,I.cell,I.free,I.freeC,λ p q => I.pin p (hp p q),I.hok,I.len⟩
theorem Inv.tracked {a : Addr} {ob : Obj} (I : Inv X pins σ H s) (hx : X.ex = []) (h1 : s.heap.get? a = some ob) (h2 : H a = none) (h3 : X.s₀.heap.get? a = none) (h4 : a ≠ X.env.locals) (h5 : ∀ x c,X.env.cells.lookup x = some c -> c ≠ a) (h6 : ∀ p ∈ X.pn ++ pins,p.1 ≠ a) :
  Inv X pins σ (upd H a (.ext λ h => h.get? a = some ob)) s := by
 refine ⟨I.ok,I.os,I.bare,⟨I.base.keep,I.base.slot,λ b o q n hb => ?_,I.base.there,λ b xs q => ?_,λ b o u q => ?_,λ b ps q => ?_⟩,I.loc,I.cell,by rw [Q0i (Ne.symm h4)]; exact I.free,λ x c q => by rw [Q0i (h5 x c q)]; exact I.freeC x c q,λ p hp => ?_,λ b u q => ?_,I.len⟩
 ·rw [Q0i]
  ·exact I.base.free b o q n hb
  ·rintro rfl; rw [h3] at q; cases q
 ·have := I.base.tups b xs q
  rw [Q0i (Q0r this h2)]; exact this
 ·have := I.base.frzs b o u q
  rw [Q0i (Q0r this h2)]; exact this
 ·obtain ⟨m,this⟩ := I.base.tbls b ps q
  exact ⟨m,by rw [Q0i (Q0r this h2)]; exact this⟩
 ·obtain ⟨e,n,r⟩ := I.pin p hp
  exact ⟨e,by rw [Q0i (h6 p hp)]; exact n,r⟩
 ·by_cases hb : b = a
  ·subst hb
   rw [Q0h] at q
   cases q
   exact ⟨h1,⟨ob,h1⟩,λ x y e k => k ob e⟩
  ·rw [Q0i hb] at q
   exact (I.hok b u q).stay (λ _ _ _ e => e) (λ c e => by rw [Q0i (Q0r e h2)]; exact e) λ c xs e => by rw [Q0i (Q0r e h2)]; exact e
end
end L2
namespace DL
open PySem PySem.Spec PyProof.Rows L2
abbrev bmV : List Value := [.type "ValueError",.type "Exception",.type "BaseException",.type "object"]
section
variable {X : Cx} {mk : Prop} {ρ : Rho} {O : Sto} {e a b c o : Expr} {es : List Expr} {d da db : D} {ds : List D} {R : D -> Sto -> Prop} {RX : XC} {pos p np cpos hpos : Pos} {x y n : Str} {st b₀ : Stmt} {rest body suite : List Stmt} {P : Post} {C CB : Addr} {fs : List (Str × D)}
theorem ev_fstr {p1 p2 p3 : Pos} {j : Nat} (he : EvP X ρ O e (.str x)) (hz : (Str.empty ++ x ++ y).length <= sizeLine) (hx : x.length <= sizeLine) (h1 : (Str.empty ++ x).length <= sizeLine) : EvP X ρ O (.JoinedStr [.FormattedValue e (-1) none p1,.Constant (.str y) j p2] p3) (.str (Str.empty ++ x ++ y)) := λ G pins s σ H Q I ⟨h1',h2,h3⟩ => by
 refine JoinedStr_many (joinParts_cons (FormattedValue_plain (thn (he G pins s σ H (λ v H' => ∃ G',Ext G G' /\ SA X.K G' H' O /\ Is X.K G' (.str x) v) I ⟨h1',h2,λ v G' H' e s i => ⟨G',e,s,i⟩⟩) λ u s1 ⟨v,H1,I1,r,G1,e1,sa1,i1⟩ => ?_)))
 cases i1
 obtain ⟨t,rfl⟩ := (show ∃ t,u = Value.str x t from r)
 refine formatField_str (λ t' tk => ⟨h1,joinParts_cons ?_⟩) hx
 refine thn (Q0k (X := X) (ρ := ρ) (O := O) (x := y) (j := j) (pos := p2) G1 pins _ σ H1 (λ v H' => ∃ G',Ext G1 G' /\ SA X.K G' H' O /\ Is X.K G' (.str y) v) (I1.tok tk) ⟨sa1,h2.ext e1,λ v G' H' e s i => ⟨G',e,s,i⟩⟩) λ u2 s2 ⟨v2,H2,I2,r2,G2,e2,sa2,i2⟩ => ?_
 cases i2
 obtain ⟨t2,rfl⟩ := (show ∃ t,u2 = Value.str y t from r2)
 exact ⟨hz,joinParts_nil ⟨.str (Str.empty ++ x ++ y),H2,I2.tok _,⟨_,rfl⟩,h3 _ G2 H2 (e1.trans e2) sa2 (.str _)⟩ hz⟩
theorem Q2Y (hx : PySem.W.excIn X.K C bmV "ValueError.__new__" = true) (hm : X.mg x = some (.ref C)) (ha : EvPs X ρ O (e :: es) ds) (hr : RX C [] ρ O) (hmk : mk) (hz : ds.length <= 1000 := by simp) (hc : X.calm = true := by rfl) (hex : X.ex = [] := by rfl) (hg : Gl X x := by rfl)
  (hdb : (x == ("__debug__" : Str)) = false := by decide) (he : starEach (e :: es) X.env = (false,eval e X.env) :: starEach es X.env := by rfl) (hpl : (backTo cpos (starEach es X.env)).any (·.1) = false := by rfl) :
  ExX X mk ρ O (.Raise (some (.Call (.Name x np) (e :: es) [] cpos)) none pos) P RX := λ G pins s σ H E I ⟨h1,h2,h3,h4⟩ => by
 obtain ⟨tl,N,nm,q,bs,hdct,sn,sub,ab,col,dd,k0,k1,k2,k3,k5,mN,hC,hN,hni,T⟩ := (exc_cls I.mod.kin hx).obj
 have ha' := ha G cpos pins s σ H (λ vs H' => ∃ G',Ext G G' /\ SA X.K G' H' O /\ Iss X.K G' ds vs) I ⟨h1,h2,λ vs G' H' e1 s1 i1 => ⟨G',e1,s1,i1⟩⟩
 refine wpAny_Raise_call_subU (k5 := k5) (k3 := k3) (k2 := k2) (k1 := k1) (k0 := k0) (dd := dd) (col := col) (ab := ab) (sub := sub) (sn := sn) (hdct := hdct) (bs := bs) (N := N) (q := q) (nm := nm) (C := C) (bm := tl) (mN := mN) PySem.F.excBase_ValueError (by decide +kernel) PySem.F.excBase_ValueError (T.hasType PySem.F.excBase_ValueError.hasBase) (I.ok.hd hc) (by rw [he]; exact hpl) hni (Q2v I hg hm ⟨rfl,?_⟩ hdb)
 rw [he] at ha' ⊢
 refine Calls.evalArgs_plain (thn ha' λ us s2 ⟨vs,H2,I2,r,G2,e2,sa,i2⟩ => ⟨rfl,?_,I2.bk _ _ hC,hN.keeps I2.bk,T.keeps I2.bk,λ h' a' hx => ?_⟩)
 ·show us.length <= sizeLine
  rw [<- r.length,<- i2.length]
  exact Nat.le_of_lt (small1000 hz)
 ·obtain ⟨t,he',_,_⟩ := hx.there
  refine (h4 C [] none σ ρ O G2 H2 e2 sa (h2.ext e2) (.inl rfl) hr).2 hmk pins { s2 with heap := h' } a' t _ _ (I2.kept (t' := s2.toks) hx.keeps) ?_ ?_ he' rfl rfl rfl rfl rfl rfl
  ·cases z : H2 a' with
   | none => rfl
   | some u =>
    obtain ⟨o,z'⟩ := I2.hok.get z
    rw [hx.new] at z'
    cases z'
  ·cases z : X.s₀.heap.get? a' with
   | none => rfl
   | some o =>
    have hu : Un X.fs X.ex X.H₀ H2 X.s₀.heap s2.heap := I2.base
    obtain ⟨o',z'⟩ := hu.there a' o z (by rw [hex]; simp)
    rw [hx.new] at z'
    cases z'
abbrev _root_.L2.Cx.tried (X : Cx) (pn : List (Addr × Obj)) (E : Value -> Shared -> Prop) : Cx := X.as X.A X.calm pn E
abbrev _root_.L2.Cx.held (X : Cx) (v : Value) : Cx := X.as (X.A.mark (some v)) false X.pn λ _ _ => False
abbrev catchW (X : Cx) (pins : List (Addr × Obj)) (E : Ends) (x n : Str) (np hpos : Pos) (b₀ : Stmt) (suite : List Stmt) : Value -> Shared -> Prop := λ e s₁ => wpAny (model X.prog X.w) X.A (noteFrame e X.env) (λ _ s₂ => wpAny (model X.prog X.w) X.A (setFlight e none) (λ _ s₃ => wpAny (model X.prog X.w) X.A (handleBy e X.env [.ExceptHandler (some (.Name x np)) (some n) (b₀ :: suite) hpos]) (SP X pins E) X.xe s₃) X.xe s₂) X.xe s₁
theorem x_try (i : Nat) (hN : X.N.Nodup) (hm : X.mg x = some (.ref CB)) (hb : ∀ pn E,ExsX (X.tried pn E) False ρ O body P RX)
  (hh : ∀ v C fs ρ' O',RX C fs ρ' O' -> PySem.W.exmOne X.K (.ref C) (.ref CB) = some true /\
   Exs (X.held v) (ρ'.set i (some (.ptr O'.length))) (O' ++ [some (.exc C fs)]) (b₀ :: suite) { nx := λ ρ2 O2 => P.nx (ρ2.set i none) O2,rt := P.rt,bk := λ ρ2 O2 => P.bk (ρ2.set i none) O2,ct := λ ρ2 O2 => P.ct (ρ2.set i none) O2 })
  (hi : X.N[i]? = some n := by rfl) (hl : X.env.kindOf n = some .local := by rfl) (hg : Gl X x := by rfl) (hst : X.stack = X.env :: X.outer := by rfl) (hfr : X.env.frame = some X.env.locals := by rfl) (hex : X.ex = [] := by rfl) (hdb : (x == ("__debug__" : Str)) = false := by decide) :
  Ex X ρ O (.Try body [.ExceptHandler (some (.Name x np)) (some n) (b₀ :: suite) hpos] [] [] pos) P := λ G pins s σ H E I ⟨h1,h2,h3⟩ => by
 refine wpAny_Try_except ?_
 have I0 : L2.Inv (X.tried (X.pn ++ pins) (catchW X pins E x n np hpos b₀ suite)) [] σ H s :=
  I.as I.ok.hd I.ok.frames λ p q => by simpa using q
 refine wpAny_mono (hb (X.pn ++ pins) (catchW X pins E x n np hpos b₀ suite) G [] s σ H E I0 ⟨h1,h2,h3,λ C fs od σ2 ρ2 O2 G2 H2 e2 sa2 n2 f2 r2 => ⟨λ pins2 H1 s1 a' B s2 I1 g => ?_,λ z => z.elim⟩⟩) (λ f s1 hs => ?_) λ e s1 z => z
 ·obtain ⟨hq,hsu⟩ := hh (.ref a') C fs ρ2 O2 r2
  have hg1 : Gone X.prog X.w (X.env :: X.outer) H1 H2 s1 s2 a' C od B := hst ▸ g
  obtain ⟨⟨t,fl⟩,hd⟩ := hg1.fly
  obtain ⟨n1,n3,n4⟩ := hg1.new
  have hfrm : X.A.frames = some (X.env :: X.outer) := hst ▸ I.ok.frames
  show wpAny (model X.prog X.w) X.A (noteFrame _ X.env) _ _ s2
  refine wpAny_mono (mild_note.any (wpAny_looks_onW (E := λ _ _ => False) (Q := λ _ s' => ∃ h',s' = { s2 with heap := h' } /\ Heap.HeldW B (X.env :: X.outer) a' (.ref C) (.ref t) X.env.locals h' /\ s2.heap.UpToSlots h') hfrm hfr fl λ h4 held4 sm4 => ⟨h4,rfl,held4,sm4⟩)) (λ _ s4 ⟨⟨h4,e4,held4,sm4⟩,dk4⟩ => ?_) λ _ _ z => z.1.elim
  subst e4
  refine wpAny_mono (Q1M.any (wpAny_landsW (E := λ _ _ => False) (s := { s2 with heap := h4 }) (Q := λ _ s' => ∃ h',s' = { s2 with heap := h' } /\ Heap.FlyingW B (X.env :: X.outer) a' (.ref C) (.ref t) h' /\ h4.UpToSlots h') held4 λ h5 fl5 sm5 => ⟨h5,rfl,fl5,sm5⟩)) (λ _ s5 ⟨⟨h5,e5,fl5,sm5⟩,dk5⟩ => ?_) λ _ _ z => z.1.elim
  subst e5
  have g5 := hg1.on fl5 (sm4.trans sm5) (dk4.trans dk5)
  have J : ∀ (s' : Shared),Gone X.prog X.w (X.env :: X.outer) H1 H2 s1 s' a' C od B -> L2.Inv X pins σ2 H2 s' := λ s' g' => by
   have := I1.call' (ch := []) g'.os (by show Un (frs X.stack) _ _ _ _ _; rw [hst]; exact g'.un) g'.hok g'.bare (λ b z => absurd z (by simp))
   exact this.asI I.ok.hd I.ok.frames λ p q => List.mem_append_left _ q
  have hmark : (X.A.mark (some (.ref a'))).frames = some X.stack := I.ok.frames
  have I5 := J _ g5
  have I5h : L2.Inv (X.held (.ref a')) pins σ2 H2 _ := I5.as (by intro z; cases z) hmark λ p q => q
  refine wpAny_handleBy_cons (codeAny_handlers_test (Q2v (X := X.held (.ref a')) I5h hg hm ?_ hdb)) (by intro q; cases q)
  obtain ⟨ob,ho1,ho2⟩ := fl5.there
  have LT : PySem.W.Looks (model X.prog X.w) h5 (typeOf (.ref a')) (.ref C) := ho2 ▸ (PySem.W.Looks.ld ho1).andThen .now
  refine (PySem.W.exm_one I5.kIn LT hq).here (codeAny_handlers_suite_as ?_)
  refine wpAny_mono (Q1M.any (lands_againW (E := λ _ _ => False) (Q := λ _ s' => ∃ h',s' = { s2 with heap := h' } /\ Heap.FlyingW B (X.env :: X.outer) a' (.ref C) (.ref t) h' /\ h5.UpToSlots h') fl5 λ h6 fl6 sm6 => ⟨h6,rfl,fl6,sm6⟩)) (λ _ s6 ⟨⟨h6,e6,fl6,sm6⟩,dk6⟩ => ?_) λ _ _ z => z.1.elim
  subst e6
  have g6 := g5.on fl6 sm6 dk6
  have I6 := J _ g6
  obtain ⟨ob6,ws,u1,u2,u3,u4⟩ := fl6.first
  obtain ⟨_,ob6',u1',hd6,hcx6⟩ := g6.fly
  cases Option.some.inj (u1.symm.trans u1')
  have hloc : a' ≠ X.env.locals := λ z => n3 (List.mem_filterMap.mpr ⟨X.env,List.mem_cons_self,by rw [hfr,z]⟩)
  have hs0 : X.s₀.heap.get? a' = none := by
   cases z : X.s₀.heap.get? a' with
   | none => rfl
   | some o =>
    have hu : Un X.fs X.ex X.H₀ H1 X.s₀.heap s1.heap := I1.base
    obtain ⟨o',z'⟩ := hu.there a' o z (by rw [hex]; simp)
    rw [n1] at z'
    cases z'
  have I7 := I6.tracked hex u1 n4 hs0 hloc (λ y c q z => by
   obtain ⟨v,o,z',_⟩ := I1.cell y c q
   rw [z,n1] at z'
   cases z') (λ p hp z => by
   obtain ⟨z',_⟩ := I1.pin p (List.mem_append_left _ hp)
   rw [z,n1] at z'
   cases z')
  have I7h : L2.Inv (X.held (.ref a')) pins σ2 _ _ := I7.as (by intro z; cases z) hmark λ p q => q
  have eG : Ext G2 ⟨G2.g,G2.l ++ [a']⟩ := ⟨Same.refl _,[a'],rfl⟩
  have hfd : fs = [] \/ ∃ dx vs,ob6.dict = some dx /\ G2.g dx = some (.xd vs) /\ FsIs X.K ⟨G2.g,G2.l ++ [a']⟩ fs vs := by
   rcases f2 with z | ⟨dx,vs,z1,z2,z3⟩
   ·exact .inl z
   ·exact .inr ⟨dx,vs,hd6.trans z1,z2,FsIs.ext eG z3⟩
  obtain ⟨e3,sa3⟩ := sa2.new (p := a') (o := .ext λ h => h.get? a' = some ob6) (m := .exc C fs) n4 ⟨ob6,Q0h,⟨u2,ws,u3⟩,hfd,λ a z => by cases z⟩
  have ia : Is X.K ⟨G2.g,G2.l ++ [a']⟩ (.ptr O2.length) (.ref a') := .ptr _ (by rw [<- sa2.len,List.getElem?_append_right (Nat.le_refl _),Nat.sub_self]; rfl)
  refine Q3Y (X := X.held (.ref a')) I7h hN hi (.inl hl) (v := .ref a') rfl (λ s8 I8 => ?_) (.inr hl)
  have e23 := e2.trans e3
  refine wpAny_mono (hsu _ pins s8 _ _ { nx := λ σ3 H3 => E.nx (σ3.set i none) H3,rt := E.rt,bk := λ σ3 H3 => E.bk (σ3.set i none) H3,ct := λ σ3 H3 => E.ct (σ3.set i none) H3 } I8 ⟨sa3,(n2.ext e3).set i ia,?_⟩) (λ f s9 hs => ?_) λ _ _ z => z.elim
  ·have dr : ∀ {K : PySem.W.Frag} {G : Wd} {σ : L2.St} {ρ : Rho},EnvR K G σ ρ -> EnvR K G (σ.set i none) (ρ.set i none) := λ {K G σ ρ} h => ⟨by simp [h.len],λ j d' hj => by
    by_cases hij : i = j
    ·subst hij
     rw [List.getElem?_set] at hj
     simp at hj
    ·rw [List.getElem?_set_ne hij] at hj ⊢
     exact h.get j d' hj⟩
   exact ⟨λ σ3 ρ3 O3 G3 H3 e4 s4 n4 q => h3.nx _ _ O3 G3 H3 (e23.trans e4) s4 (dr n4) q,λ v d' O3 G3 H3 e4 s4 i4 q => h3.rt v d' O3 G3 H3 (e23.trans e4) s4 i4 q,λ σ3 ρ3 O3 G3 H3 e4 s4 n4 q => h3.bk _ _ O3 G3 H3 (e23.trans e4) s4 (dr n4) q,λ σ3 ρ3 O3 G3 H3 e4 s4 n4 q => h3.ct _ _ O3 G3 H3 (e23.trans e4) s4 (dr n4) q⟩
  ·have fin : ∀ {σ3 : L2.St} {H3 : Hp},L2.Inv (X.held (.ref a')) pins σ3 H3 s9 -> L2.Inv X pins σ3 H3 s9 := λ I9 => I9.asI I.ok.hd I.ok.frames λ p q => q
   cases f with
   | next =>
    obtain ⟨σ3,H3,I9,q⟩ := hs
    exact Q3n (fin I9) hN hi hl λ s' I' => ⟨_,_,I',q⟩
   | ret u =>
    obtain ⟨v,σ3,H3,I9,r,q⟩ := hs
    exact Q3n (fin I9) hN hi hl λ s' I' => ⟨v,_,_,I',r,q⟩
   | brk =>
    obtain ⟨σ3,H3,I9,q⟩ := hs
    exact Q3n (fin I9) hN hi hl λ s' I' => ⟨_,_,I',q⟩
   | cont =>
    obtain ⟨σ3,H3,I9,q⟩ := hs
    exact Q3n (fin I9) hN hi hl λ s' I' => ⟨_,_,I',q⟩
 ·have fin : ∀ {σ3 : L2.St} {H3 : Hp},L2.Inv (X.tried (X.pn ++ pins) (catchW X pins E x n np hpos b₀ suite)) [] σ3 H3 s1 -> L2.Inv X pins σ3 H3 s1 :=
   λ I9 => I9.asI I.ok.hd I.ok.frames λ p q => by simpa using q
  cases f with
  | next =>
   obtain ⟨σ3,H3,I9,q⟩ := hs
   exact pss_nil pins s1 σ3 H3 E (fin I9) q
  | ret u =>
   obtain ⟨v,σ3,H3,I9,r,q⟩ := hs
   exact ⟨v,σ3,H3,fin I9,r,q⟩
  | brk =>
   obtain ⟨σ3,H3,I9,q⟩ := hs
   exact ⟨σ3,H3,fin I9,q⟩
  | cont =>
   obtain ⟨σ3,H3,I9,q⟩ := hs
   exact ⟨σ3,H3,fin I9,q⟩
end
end DL
namespace L2
open PySem PySem.Spec PyProof.Rows Builtin.ObjectAttr Builtin.Getset_descriptor
structure Q2n (K : PySem.W.Frag) (C : Addr) : Prop where
 ga : PySem.W.findIn K (.ref C) "__getattribute__" = some (some (.builtin "BaseException.__getattribute__"))
 hk : PySem.W.findIn K (.ref C) "__getattr__" = some none
 mb : PySem.W.mroIn K C (.type "BaseException") = some true
 mo : PySem.W.mroIn K C (.type "object") = some true
 ca : PySem.W.findIn K (.ref C) "__class__" = some (some (.builtin "object.__class__"))
 gn : PySem.W.specialIn K (.builtin "object.__class__") "__get__" = some (some (.builtin "getset_descriptor.__get__"))
 gt : PySem.W.takesIn K (.builtin "object.__class__") = some true
 hd : PySem.W.hasDictIn K C = true
section
variable {prog : Program} {w : World} {A : Around} {E : Value -> Shared -> Prop} {s : Shared} {K : PySem.W.Frag} {x C : Addr} {n : Str}
theorem exc_check {nv : Value} {Q : Unit -> Shared -> Prop} (T : Q2n K C) (X : K.In s.heap) (LT : PySem.W.Looks (model prog w) s.heap (typeOf (.ref x)) (.ref C)) (h : Q () s) : wpAny (model prog w) A (checkBuiltinCall "BaseException.__getattribute__" ⟨[.ref x,nv],[]⟩) Q E s := by
 have LI : PySem.W.Looks (model prog w) s.heap (isInstance (.ref x) (.type "BaseException")) true := LT.andThen (PySem.W.looks_mroIn X T.mb)
 exact @PySem.W.check_slot (model prog w) _ _ s "BaseException.__getattribute__" "BaseException" "__getattribute__" (.ref x) [nv] [] _ (by decide +kernel) (by decide +kernel) LI (F.args_bexc_ga (.ref x) nv) h
theorem exc_find (T : Q2n K C) {h : Heap} {M : Model} (X : K.In h) : PySem.W.Looks M h (find (.ref x) (.ref C) "__class__") (.bind (.builtin "getset_descriptor.__get__") (.builtin "object.__class__")) := by
 have L1 := PySem.W.looks_findIn (M := M) X T.ca
 have L2 := PySem.W.looks_specialIn (M := M) X T.gn
 have L3 := PySem.W.looks_takesIn (M := M) X T.gt
 refine L1.andThen (PySem.W.Looks.andThen (t := getOf _) L2 ?_)
 refine PySem.W.Looks.andThen (t := dataDescriptor? _ _) (L3.andThen .now) ?_
 exact PySem.W.Looks.tag .now
theorem exc_cget {R : Result -> Shared -> Prop} {tp : Value} (T : Q2n K C) (X : K.In s.heap) (LT : PySem.W.Looks (model prog w) s.heap (typeOf (.ref x)) (.ref C)) (h : R (.ok (.ret (.ref C))) s) :
  codeAny (model prog w) A (.call (.builtin "getset_descriptor.__get__") ⟨[.builtin "object.__class__",.ref x,tp],[]⟩) R s := by
 have LS := PySem.W.looks_mroIn (M := model prog w) X T.mo
 cases s
 refine codeAny_call_builtin PySem.W.KF.slot_gs.plain PySem.W.KF.entry_gs (PySem.W.KF.slot_gs.check _ _ _ _ _ _ _ _ PySem.W.KF.type_class (PySem.W.KF.args_gs _ _ _) ?_)
 unfold Builtin.«getset_descriptor.__get__» descrGet descrGetter descrCheckInstance descrNameAndClass isInstance; rw [PySem.W.dga_obj]
 refine wpAny_bind (wpAny_pure ?_); simp only [PySem.W.KF.owner_class]; repeat lk
 refine ⟨Code.quiet_builtin _ (by decide +kernel),codeAny_builtin PySem.W.KF.entry_class ?_⟩; unfold Builtin.«object.__class__» shownTypeOf; repeat lk
 exact h
theorem exc_entry {tk : Tok} {P : Value -> Shared -> Prop} (T : Q2n K C) (X : K.In s.heap) (LT : PySem.W.Looks (model prog w) s.heap (typeOf (.ref x)) (.ref C)) (h : P (.ref C) s) :
  wpAny (model prog w) A (Builtin.«object.__getattribute__» ⟨[.ref x,.str "__class__" tk],[]⟩) (λ fin s' => match fin with | .done (.ret v) => P v s' | _ => False) E s := by
 have LF := exc_find (x := x) (M := model prog w) T X
 obtain ⟨hh,gg,d,t,os⟩ := s
 unfold Builtin.«object.__getattribute__» slotArgs
 refine wpAny_bind (wpAny_bind (wpAny_pure (wpAny_bind (wpAny_pure (wpAny_pure ?_)))))
 refine wpAny_bind (wpAny_pure (wpAny_bind (LT.at (wpAny_bind (LF.at ?_)))))
 show wpAny _ _ (holding [_] (call _ [_,.ref x,.ref C]) >>= ret) _ _ _
 exact wpAny_bind (wpAny_holding (wpAny_call (exc_cget T X LT (wpAny_pure h))))
theorem exc_class {Q : Option Value -> Shared -> Prop} (T : Q2n K C) (X : K.In s.heap) (LT : PySem.W.Looks (model prog w) s.heap (typeOf (.ref x)) (.ref C)) (h : Q (some (.ref C)) { s with toks := s.toks + 1 }) :
  wpAny (model prog w) A (getAttr? (.ref x) "__class__") Q E s := by
 have LG := PySem.W.looks_findIn (M := model prog w) X T.ga
 have LH := PySem.W.looks_findIn (M := model prog w) X T.hk
 unfold getAttr? getAttrBy? getAttrBy
 refine wpAny_bind (wpAny_mkText (wpAny_bind (wpAny_attempt (wpAny_holding (wpAny_bind (LT.at (wpAny_bind (LG.at ?_))))))))
 show wpAny _ _ (getAttrByItsOwn _ _ _ _ _ _) _ _ _
 unfold getAttrByItsOwn
 refine wpAny_bind (LH.at (wpAny_bind (wpAny_attempt (wpAny_holding ?_))))
 show wpAny _ _ (boundAndCalled _ _ _) _ _ _
 unfold boundAndCalled
 rw [F.excAttr_ValueError.ga.bind]
 refine wpAny_bind (wpAny_pure (wpAny_call (codeAny_call_builtin F.excAttr_ValueError.ga.plain F.entry_bexc_ga (exc_check T X LT (wpAny_mono (exc_entry (s := { s with toks := s.toks + 1 }) (P := λ v s' => v = .ref C /\ s' = { s with toks := s.toks + 1 }) T X LT ⟨rfl,rfl⟩) (λ fin s' z => ?_) λ _ _ z => z)))))
 rcases fin with (v | _ | _ | _) | _ <;> first | exact z.elim | skip
 obtain ⟨rfl,rfl⟩ := z
 exact PySem.W.handed_on rfl (wpAny_pure h)
theorem kitx_exc (T : Q2n K C) : PySem.W.KitX K (.ref x) (.ref C) (λ h => ∀ M,PySem.W.Looks M h (typeOf (.ref x)) (.ref C)) where
 ty := λ M _ _ L => L M
 it := λ _ _ X _ => by
  obtain ⟨cd,hc,_⟩ := PySem.W.any_some T.hd
  unfold PySem.W.clsIn at hc; split at hc
  ·rename_i ho
   intro _ _ _ _ k q
   exact wpAny_bind (wpAny_loadPart (k _ _ (X _ _ ho)) (wpAny_pure q))
  ·cases hc
 ne := λ h tp dd its n sl X ht => by
  obtain ⟨cd,hc,_⟩ := PySem.W.any_some T.hd
  unfold PySem.W.clsIn at hc; split at hc
  ·rename_i ho
   by_cases e : C = tp
   ·subst e; cases (X _ _ ho).symm.trans ht
   ·exact Bool.eq_false_iff.mpr λ q => e (Value.ref.inj (beq_iff_eq.mp q))
  ·cases hc
 ca := λ X L k => exc_class T X (L _) k
end
end L2
namespace DL
open PySem PySem.Spec PyProof.Rows L2
section
variable {X : Cx} {ρ : Rho} {O : Sto} {e : Expr} {es : List Expr} {p p2 pos : Pos} {x : Str} {C C2 : Addr} {q : Nat} {fs : List (Str × D)} {k : Bool} {x1 : Nat}
theorem exc_looks {pins : List (Addr × Obj)} {σ : L2.St} {H : Hp} {s : Shared} {a : Addr} {ob : Obj} (I : L2.Inv X pins σ H s) (h : H a = some (.ext λ h => h.get? a = some ob)) (hc : ob.cls = .ref C) : ∀ M,PySem.W.Looks M s.heap (typeOf (.ref a)) (.ref C) := λ M => by
 obtain ⟨ho,_⟩ := I.hok a _ h
 exact hc ▸ (PySem.W.Looks.ld ho).andThen .now
def ExcAt (C : Addr) (v : V) (H : Hp) : Prop := ∃ a ob,v = .ref a /\ H a = some (.ext λ h => h.get? a = some ob) /\ ob.cls = .ref C
theorem exc_at {K : PySem.W.Frag} {G : Wd} {H : Hp} {v : V} (s : SA K G H O) (i : Is K G (.ptr q) v) {hx' : Option Addr} (hq : O[q]? = some (some (.exc C fs hx'))) : ExcAt C v H := by
 cases i with
 | ptr _ ha =>
  obtain ⟨a,h1,h2,ob,h3,⟨h4,_⟩,_⟩ := s.mt q _ hq
  cases Option.some.inj (ha.symm.trans h1)
  exact ⟨_,ob,rfl,h3,h4⟩
theorem Q0Y (hm : X.mg "isinstance" = none) (he : EvP X ρ O e (.ptr q)) {hx' : Option Addr} (hq : O[q]? = some (some (.exc C fs hx'))) (T : Q2n X.K C) (hx : X.mg x = some (.ref C2)) (hk : PySem.W.kitOne X.K (.ref C) (.ref C2) = some k)
  (hg : Gl X "isinstance" := by rfl) (hgx : Gl X x := by rfl) (hdx : (x == ("__debug__" : Str)) = false := by decide) (hs : starEach [e,.Name x p2] X.env = (false,eval e X.env) :: starEach [.Name x p2] X.env := by rfl) (hpl : (backTo pos (starEach [.Name x p2] X.env)).any (·.1) = false := by rfl) :
  EvP X ρ O (.Call (.Name "isinstance" p) [e,.Name x p2] [] pos) (.bl k) := λ G => by
 refine PE.imp (pe_callB (id := "isinstance") (r := λ vs H Q => ∃ v,vs = [v,.ref C2] /\ ExcAt C v H /\ Q (.bl k) H) (λ pins s σ H xs us Q I r h => ?_) hg hm (by first | rfl | decide +kernel) (Q2f (he G) (Q2f (pe_glob (v := .ref C2) hgx hx rfl hdx) pa_nil rfl) hs) (by decide) (by decide) hs hpl) λ σ H Q ⟨h1,h2,h3⟩ => ?_
 ·obtain ⟨v,rfl,⟨a,ob,rfl,ha,hc⟩,hQ⟩ := h
  obtain ⟨u,u',rfl,ru,ru'⟩ := vals2 r
  cases ru'; cases ru
  exact PySem.W.kia_one (kitx_exc T) I.kIn (exc_looks I ha hc) hk (by intro z; cases z) λ tk => ⟨.bl k,H,I.kept λ _ _ e => e,rfl,hQ⟩
 ·exact ⟨h1,h2,λ v G1 H1 e1 s1 i1 => ⟨v,rfl,exc_at s1 i1 hq,h3 _ G1 H1 e1 s1 (.bl k)⟩⟩
end
end DL
namespace L2
open PySem PySem.Spec PyProof.Rows
section
variable {X : Cx} {tg a b c : Expr} {p pos : Pos}
end
end L2
namespace DL
open PySem PySem.Spec PyProof.Rows L2
section
variable {X : Cx} {ρ : Rho} {O : Sto} {a b c : Expr} {p pos : Pos} {P : Post} {st : Stmt} {rest : List Stmt}
end
end DL
namespace L2
open PySem PySem.Spec PyProof.Rows Builtin.ObjectAttr
open DL (bmV)
abbrev excArgs (vs : List Value) : Obj := { cls := .type "tuple",data := .seq vs.toArray }
abbrev Q1P (C t : Addr) : Obj := { cls := .ref C,data := .fields #[.ref t,.none,.none,.none,.bool false,.none] }
abbrev Q1O (h : Heap) (C : Addr) (vs : List Value) : Heap := (h.push (excArgs vs)).push (Q1P C h.objs.size)
section
variable {prog : Program} {w : World} {A : Around} {s : Shared} {K : PySem.W.Frag} {C f N : Addr} {nm q : Str} {bs bm : List Value} {hdct : Bool} {sn : List Str} {sub : List Value} {ab : Bool} {col : Option Bool} {dd : Option Addr} {k0 k1 k2 k3 k5 : Option Value}
theorem exc_makeI {vs : List Value} {R : Result -> Shared -> Prop} (X : K.In s.heap) (hC : s.heap.get? C = some (excClassObj nm q C N bs bm hdct sn sub ab col dd k0 k1 k2 k3 k5 "ValueError.__new__")) (T : OwnTail s.heap bmV bm)
  (hi : PySem.W.findIn K (.ref C) "__init__" = some (some (.ref f))) (hf : PySem.W.typeIn K (.ref f) = some (.type "function")) (hz : vs.length <= sizeLine)
  (h : codeAny (model prog w) (A.under (.builtin "type.__call__" ⟨.ref C :: vs,[]⟩)) (.call (.ref f) ⟨.ref (s.heap.objs.size + 1) :: vs,[]⟩) (PySem.W.InitBack (s.heap.objs.size + 1) R) { s with heap := Q1O s.heap C vs }) :
  codeAny (model prog w) A (.call (.ref C) ⟨vs,[]⟩) R s := by
 obtain ⟨hp,g,d,t,os⟩ := s
 have f1 := tc_lookup
 have f2 := tc_bind (.ref C)
 have hT : (⟨hp,g,d,t,os⟩ : Shared).TypeIs (.ref C) "type" := ⟨_,hC,rfl⟩
 have kp : ∀ b o,hp.get? b = some o -> (Q1O hp C vs).get? b = some o := λ b o e => Heap.get?_push_of_some _ (Heap.get?_push_of_some _ e)
 have X1 : K.In (Q1O hp C vs) := λ b o e => kp b o (X b o e)
 have LI := PySem.W.looks_findIn (M := model prog w) X1 hi
 have LB := PySem.W.bind_fn (M := model prog w) X1 (.ref (hp.objs.size + 1)) hf
 have hC1 := kp _ _ hC
 have hget : (Q1O hp C vs).get? (hp.objs.size + 1) = some (Q1P C hp.objs.size) := by heap_get
 have hcC : (Value.ref C :: bm).contains (.ref C) = true := by simp
 refine codeAny_of_tree ?_
 show wpAny _ _ (callAny (.ref C) _) _ _ _
 repeat (any_goals (first | assumption | with_reducible refine wpAny_loadPart_at hC ?_ | wp_step))
 refine ⟨rfl,codeAny_call_builtin_at (Code.quiet_builtin _ (by decide +kernel)) entry_typeCall (wpAny_check_type_call_sub hC ?_)⟩
 repeat (first | with_reducible refine wpAny_loadPart_at hC ?_ | with_reducible refine wpAny_madeBy_exc hC ?_ | wp_step)
 refine codeAny_call_builtin_code (Code.quiet_builtin _ F.excBase_ValueError.quiet) (wpAny_check_new_subU F.excBase_ValueError (by decide +kernel) T hC (codeAny_exc_new_subU F.excBase_ValueError (by decide +kernel) F.excBase_ValueError T hC ?_ hz))
 show wpAny _ _ _ _ _ _
 have LT : PySem.W.Looks (model prog w) (Q1O hp C vs) (typeOf (.ref (hp.objs.size + 1))) (.ref C) := (PySem.W.Looks.ld hget).andThen .now
 have LS : PySem.W.Looks (model prog w) (Q1O hp C vs) (isSubtype (.ref C) (.ref C)) true := λ {_ _ _ s'} k z => by
  obtain ⟨h1,g1,d1,t1,o1⟩ := s'
  refine wpAny_isSubtype_exc (k _ _ hC1) ?_
  rw [hcC]
  exact z
 show wpAny _ _ _ _ _ ⟨Q1O hp C vs,g,d,t,os⟩
 unfold isInstance callSpecial? specialOf
 refine wpAny_bind (wpAny_bind (LT.at (LS.at ?_)))
 show wpAny _ _ (holding [_] _ >>= _) _ _ _
 refine wpAny_bind (wpAny_holding (wpAny_bind (wpAny_bind (LT.at (LI.at ?_)))))
 show wpAny _ _ (holding _ _) _ _ _
 refine wpAny_holding (wpAny_bind (LB.at (wpAny_bind (wpAny_call (codeAny_mono h λ r s' z => ?_)))))
 rcases r with e | (v | _ | _ | _) <;> first | exact z | exact z.elim | skip
 obtain ⟨rfl,z⟩ := z
 exact wpAny_pure (wpAny_pure z)
theorem refuse_tail {h : Heap} {tl : List Value} (T : OwnTail h bmV tl) (self : Value) : refuseLoop self "__setattr__" tl = pure () := by
 induction T with
 | base => exact F.store_ValueError.passes self
 | own _ _ _ _ ih => rw [refuseLoop_ref]; exact ih
theorem exc_store {E : Value -> Shared -> Prop} {a t : Addr} {name : Str} {v : Value} {Q : Unit -> Shared -> Prop} (X : K.In s.heap) (hC : s.heap.get? C = some (excClassObj nm q C N bs bm true sn sub ab col dd k0 k1 k2 k3 k5 "ValueError.__new__")) (T : OwnTail s.heap bmV bm)
  (ho : s.heap.get? a = some (Q1P C t)) (sa : PySem.W.findIn K (.ref C) "__setattr__" = some (some (.builtin "object.__setattr__"))) (na : PySem.W.findIn K (.ref C) name = some none) (mo : PySem.W.mroIn K C (.type "object") = some true) (hd : PySem.W.hasDictIn K C = true)
  (h : ∀ h' tk,h'.get? a = some { Q1P C t with dict := some s.heap.objs.size } -> h'.Ns1 s.heap.objs.size (λ y => if y = name then some v else none) -> (∀ b o,b ≠ a -> s.heap.get? b = some o -> h'.get? b = some o) -> Q () { s with heap := h',toks := tk }) :
  wpAny (model prog w) A (setAttr (.ref a) name v) Q E s := by
 obtain ⟨hp,g,d,tk,os⟩ := s
 have LT : PySem.W.Looks (model prog w) hp (typeOf (.ref a)) (.ref C) := (PySem.W.Looks.ld ho).andThen .now
 have LS := PySem.W.looks_findIn (M := model prog w) X sa
 have LN := PySem.W.looks_findIn (M := model prog w) X na
 have LO : PySem.W.Looks (model prog w) hp (isInstance (.ref a) (.type "object")) true := LT.andThen (PySem.W.looks_mroIn X mo)
 have SF := F.store_ValueError
 have hxs : a ≠ hp.objs.size := Nat.ne_of_lt (Heap.lt_size ho)
 unfold setAttr callSpecial? specialOf
 refine wpAny_bind (wpAny_mkText (wpAny_bind (wpAny_bind (wpAny_bind (LT.at (LS.at (wpAny_holding ?_)))))))
 rw [SF.slot.bind]
 refine wpAny_bind (wpAny_pure (wpAny_bind (wpAny_call (codeAny_call_builtin SF.slot.plain SF.entry (@PySem.W.check_slot (model prog w) _ _ _ "object.__setattr__" "object" "__setattr__" (.ref a) [.str name tk,v] [] _ SF.kind SF.split LO (SF.args (.ref a) (.str name tk) v) ?_)))))
 show wpAny _ _ (Builtin.«object.__setattr__» ⟨[.ref a,.str name tk,v],[]⟩) _ _ ⟨hp,g,d,tk + 1,os⟩
 rw [PySem.W.osa_eq,refuse_eq]
 refine wpAny_bind (wpAny_bind (LT.at (wpAny_bind (wpAny_mroOf_exc hC ?_))))
 rw [refuseLoop_ref,refuse_tail T]
 refine wpAny_pure (wpAny_bind (LT.at (wpAny_bind (LN.at (wpAny_bind (wpAny_pure ?_))))))
 show wpAny _ _ (storeInOwnDict _ _ _ _ _ _) _ _ _
 obtain ⟨cd,hc,hd'⟩ := PySem.W.any_some hd
 refine wpAny_bind (wpAny_pure (wpAny_bind (wpAny_bind (wpAny_loadPart ho (wpAny_bind ((PySem.W.looks_clsIn X hc).at ?_))))))
 rw [hd']
 have hx1 : (hp.push { cls := .type "dict",data := .dict #[] }).get? a = some (Q1P C t) := Heap.get?_push_of_some _ ho
 generalize hH : ((hp.push { cls := .type "dict",data := .dict #[] }).update a λ o => { o with dict := some hp.objs.size }) = h1
 have ha1 : h1.get? a = some { Q1P C t with dict := some hp.objs.size } := hH ▸ Heap.get?_update_self _ hx1 rfl
 have hd1 : h1.get? hp.objs.size = some { cls := .type "dict",data := .dict #[] } := hH ▸ (Heap.get?_update_ne _ _ _ _ (Ne.symm hxs)).trans (Heap.get?_push_at rfl rfl)
 have hk1 : ∀ b o,b ≠ a -> hp.get? b = some o -> h1.get? b = some o := λ b o n e => hH ▸ (Heap.get?_update_ne _ _ _ _ n).trans (Heap.get?_push_of_some _ e)
 have hn1 : h1.Ns hp.objs.size (λ _ => none) := ⟨_,#[],_,hd1,rfl,λ e he => absurd he (by simp),λ _ => rfl⟩
 show wpAny _ _ (alloc _ >>= λ d => update a (λ o => { o with dict := some d }) >>= λ _ => dictMade (.ref C) a d) _ _ _
 refine wpAny_bind (wpAny_alloc' (wpAny_bind (wpAny_update' hx1 (wpAny_pure ?_))))
 show wpAny _ _ (storeInDict hp.objs.size (.str name tk) name v) _ _ ⟨_,_,_,_,_⟩
 rw [show ((⟨hp,g,d,tk + 1,os⟩ : Shared).heap.push { cls := .type "dict",data := .dict #[] }) = hp.push { cls := .type "dict",data := .dict #[] } from rfl,hH]
 unfold storeInDict newKeyGuard
 refine wpAny_bind (wpAny_pure (wpAny_bind (wpAny_nsSet1 (Heap.Ns1.of_empty hn1) λ h' hn' hs => ?_)))
 obtain ⟨oD,esD,epD,hoD,hdD,hcD⟩ := hn'.count (Within.cons name v Within.nil)
 refine wpAny_bind (wpAny_lookBehind hoD (by rw [hdD]; exact pastItsLine_dict (Nat.le_trans hcD (by rw [List.length_cons,List.length_nil,sizeLine_eq]; omega))) ?_)
 refine wpAny_pure (wpAny_pure (wpAny_pure (h h' _ ((hs.2 a hxs).trans ha1) hn' λ b o n e => (hs.2 b (Nat.ne_of_lt (Heap.lt_size e))).trans (hk1 b o n e))))
end
end L2
namespace L2
open PySem PySem.Spec PyProof.Rows Builtin.ObjectAttr DL
structure ExcI (K : PySem.W.Frag) (C f : Addr) (name : Str) : Prop where
 cls : ∃ (nm q : Str) (N : Addr) (bs bm : List Value) (sn : List Str) (sub : List Value) (ab : Bool) (col : Option Bool) (dd : Option Addr) (k0 k1 k2 k3 k5 : Option Value),
  K.lookup C = some (excClassObj nm q C N bs bm true sn sub ab col dd k0 k1 k2 k3 k5 "ValueError.__new__") /\ ∀ h,K.In h -> OwnTail h bmV bm
 init : PySem.W.findIn K (.ref C) "__init__" = some (some (.ref f))
 fn : PySem.W.typeIn K (.ref f) = some (.type "function")
 sa : PySem.W.findIn K (.ref C) "__setattr__" = some (some (.builtin "object.__setattr__"))
 na : PySem.W.findIn K (.ref C) name = some none
 kp : PySem.W.keepIn K (.ref C) = true
section
variable {X : Cx} {pins : List (Addr × Obj)} {σ : St} {H : Hp} {s : Shared} {C f a t : Addr} {name : Str}
abbrev bareO (C a t : Addr) : HO := .ext λ h => h.get? a = some (Q1P C t)
abbrev withO (C a t dx : Addr) : HO := .ext λ h => h.get? a = some { Q1P C t with dict := some dx }
theorem Inv.track {b : Addr} {o : HO} (I : Inv X pins σ H s) (fp : FpOk X pins H b) (hs : X.s₀.heap.get? b = none) (new : Q1n X.prog X.w (upd H b o) s.heap b o) : Inv X pins σ (upd H b o) s := by
 obtain ⟨h2,h4,_,_,h5,h6⟩ := fp
 refine ⟨I.ok,I.os,I.bare,⟨I.base.keep,I.base.slot,λ c o q n hb => ?_,I.base.there,λ c xs q => ?_,λ c o u q => ?_,λ c ps q => ?_⟩,I.loc,I.cell,by rw [Q0i (Ne.symm h4)]; exact I.free,λ x c q => by rw [Q0i (h5 x c q)]; exact I.freeC x c q,λ p hp => ?_,λ c u q => ?_,I.len⟩
 ·rw [Q0i]
  ·exact I.base.free c o q n hb
  ·rintro rfl; rw [hs] at q; cases q
 ·have := I.base.tups c xs q
  rw [Q0i (Q0r this h2)]; exact this
 ·have := I.base.frzs c o u q
  rw [Q0i (Q0r this h2)]; exact this
 ·obtain ⟨m,this⟩ := I.base.tbls c ps q
  exact ⟨m,by rw [Q0i (Q0r this h2)]; exact this⟩
 ·obtain ⟨e,n,r⟩ := I.pin p hp
  exact ⟨e,by rw [Q0i (h6 p hp)]; exact n,r⟩
 ·by_cases hb : c = b
  ·subst hb
   rw [Q0h] at q
   cases q
   exact new
  ·rw [Q0i hb] at q
   exact (I.hok c u q).stay (λ _ _ _ e => e) (λ c e => by rw [Q0i (Q0r e h2)]; exact e) λ c xs e => by rw [Q0i (Q0r e h2)]; exact e
theorem exc_init_store {y : V} {u : Value} {A : Around} {E : Value -> Shared -> Prop} {Q : Unit -> Shared -> Prop} (Z : ExcI X.K C f name) (T : Q2n X.K C) (I : Inv X pins σ H s) (e : H a = some (bareO C a t)) (ry : RelV y u)
  (h : ∀ s' dx,H dx = none -> Inv X pins σ (upd (upd H a (withO C a t dx)) dx (.xd [(name,y)])) s' -> Q () s') : wpAny (model X.prog X.w) A (setAttr (.ref a) name u) Q E s := by
 obtain ⟨nm,q,N,bs,bm,sn,sub,ab,col,dd,k0,k1,k2,k3,k5,hC,hT⟩ := Z.cls
 obtain ⟨ho,_⟩ := I.hok a _ e
 refine exc_store I.kIn (I.kIn _ _ hC) (hT _ I.kIn) ho Z.sa Z.na T.mo T.hd λ h' tk h1 h2 h3 => h _ s.heap.objs.size (I.hok.fresh (Nat.le_refl _)) ?_
 have hne : a ≠ s.heap.objs.size := Nat.ne_of_lt (Heap.lt_size ho)
 have hf : H s.heap.objs.size = none := I.hok.fresh (Nat.le_refl _)
 have I1 : Inv X pins σ (upd H a (withO C a t s.heap.objs.size)) { s with heap := h',toks := tk } :=
  I.write (x := a) (e := a) (by rw [e]; exact True.intro) (.inl rfl) (λ b u n z => h3 b u n z) ⟨_,h1⟩ ⟨h1,⟨_,h1⟩,λ x y e k => k _ e⟩
 have fp := I.fpOk (b := s.heap.objs.size) (H' := upd H a (withO C a t s.heap.objs.size)) (Nat.le_refl _) (by rw [Q0i (Ne.symm hne)]; exact hf)
 refine I1.track fp ?_ ⟨_,h2,λ g => ?_⟩
 ·cases z : X.s₀.heap.get? s.heap.objs.size with
  | none => rfl
  | some o => exact absurd (Heap.lt_size z) (Nat.not_lt.mpr I.sz)
 ·show RelO (List.lookup g [(name,y)]) (if g = name then some u else none)
  by_cases z : g = name
  ·rw [if_pos z,z,List.lookup_cons,beq_self_eq_true]; exact ry
  ·rw [if_neg z,List.lookup_cons,beq_eq_false_iff_ne.mpr z]; trivial
theorem Inv.forget {φ : Heap -> Prop} (I : Inv X pins σ (upd H a (.ext φ)) s) (hn : H a = none) : Inv X pins σ H s := by
 have hs : ∀ b u,H b = some u -> upd H a (.ext φ) b = some u := λ b u q => by rw [Q0i (Q0r q hn)]; exact q
 have back : ∀ b u,upd H a (.ext φ) b = some u -> u ≠ .ext φ -> H b = some u := λ b u q n => by
  by_cases hb : b = a
  ·subst hb; rw [Q0h] at q; exact absurd (Option.some.inj q).symm n
  ·rw [Q0i hb] at q; exact q
 have no : ∀ b,upd H a (.ext φ) b = none -> H b = none := λ b q => by
  by_cases hb : b = a
  ·subst hb; exact hn
  ·rw [Q0i hb] at q; exact q
 refine ⟨I.ok,I.os,I.bare,⟨I.base.keep,I.base.slot,λ c o q n hb => no c (I.base.free c o q n hb),I.base.there,λ c xs q => back c _ (I.base.tups c xs q) (λ z => by cases z),λ c o u q => back c _ (I.base.frzs c o u q) (λ z => by cases z),λ c ps q => ?_⟩,I.loc,I.cell,no _ I.free,λ x c q => no _ (I.freeC x c q),λ p hp => ?_,λ c u q => ?_,I.len⟩
 ·obtain ⟨m,z⟩ := I.base.tbls c ps q
  exact ⟨m,back c _ z (λ z => by cases z)⟩
 ·obtain ⟨e,n,r⟩ := I.pin p hp
  exact ⟨e,no _ n,r⟩
 ·refine (I.hok c u (hs c u q)).stay (λ _ _ _ e => e) (λ b e => back b _ e λ z => by cases z) λ b xs e => back b _ e λ z => by cases z
end
end L2
namespace L2
open PySem PySem.Spec PyProof.Rows Builtin.ObjectAttr DL
def spI (C : Addr) (name : Str) : Sp := λ vs H Q _ => ∃ a t v,vs = [.ref a,v] /\ H a = some (bareO C a t) /\ ∀ dx,H dx = none -> Q .non (upd (upd H a (withO C a t dx)) dx (.xd [(name,v)]))
section
variable {P : Program} {w : World} {K : PySem.W.Frag} {mg : Str -> Option Value} {base : Heap} {C f : Addr} {name sn nn qual : Str} {st : Stmt} {fd : FuncData} {p1 p2 p3 p4 : Pos}
theorem ps_init {X : Cx} (Z : ExcI X.K C f name) (T : Q2n X.K C) (h0 : X.N[0]? = some sn) (h1 : X.N[1]? = some nn) (v0 : Vis X.env.scope sn) (v1 : Vis X.env.scope nn) (d0 : (sn == ("__debug__" : Str)) = false) (d1 : (nn == ("__debug__" : Str)) = false) (c0 : (sn == ("__classdict__" : Str)) = false) (c1 : (nn == ("__classdict__" : Str)) = false)
  (hs : swapsWith (.Name nn p3) (some (.Attribute (.Name sn p1) name p2)) p4.line X.env = pure false) :
  PS X (.Assign [.Attribute (.Name sn p1) name p2] (.Name nn p3) p4) (λ D σ H => ∃ a t v,σ[0]? = some (some (.ref a)) /\ σ[1]? = some (some v) /\ H a = some (bareO C a t) /\ ∀ dx,H dx = none -> D.nx σ (upd (upd H a (withO C a t dx)) dx (.xd [(name,v)]))) := by
 intro pins s σ H D I ⟨a,t,v,q0,q1,ha,hD⟩
 refine plainObj_wpAny_Assign_Attribute (thn (pe_var h1 v1 d1 c1 pins s σ H (λ y H1 => y = v /\ H1 = H) I ⟨v,q1,rfl,rfl⟩) λ u s1 ⟨y,H1,I1,ry,e1,e2⟩ => thn (pe_var h0 v0 d0 c0 pins s1 σ H1 (λ y H2 => y = .ref a /\ H2 = H1) I1 ⟨_,q0,rfl,rfl⟩) λ ov s2 ⟨x,H2,I2,rx,e3,e4⟩ => ?_) hs
 subst e1 e2 e3 e4
 obtain rfl : ov = Value.ref a := rx
 exact exc_init_store Z T I2 ha ry λ s3 dx hn I3 => ⟨σ,_,I3,hD dx hn⟩
theorem okI (F : Fun K "__init__" qual st f fd) (S : Q0o [sn,nn] [sn,nn] (Q0f st)) (Z : ExcI K C f name) (T : Q2n K C) (hb : Q0l st = [.Assign [.Attribute (.Name sn p1) name p2] (.Name nn p3) p4]) (d0 : (sn == ("__debug__" : Str)) = false) (d1 : (nn == ("__debug__" : Str)) = false) (c0 : (sn == ("__classdict__" : Str)) = false) (c1 : (nn == ("__classdict__" : Str)) = false)
  (v0 : Vis (Q0f st) sn) (v1 : Vis (Q0f st) nn) (hs : ∀ env,swapsWith (.Name nn p3) (some (.Attribute (.Name sn p1) name p2)) p4.line env = pure false) : FnOk P w K mg base CX0 1 f fd [sn,nn] (spI C name) := by
 refine F.ok (k := 0) S (λ vs H Q E h => ?_) (λ cdv A outer s H vs Q E hr h => ?_)
 ·obtain ⟨_,_,_,rfl,_⟩ := h; rfl
 ·obtain ⟨a,t,v,rfl,ha,hQ⟩ := h
  rw [hb]
  exact ⟨_,pss_cons (ps_init Z T rfl rfl v0 v1 d0 d1 c0 c1 (hs _)) pss_nil,a,t,v,rfl,rfl,ha,hQ⟩
theorem raise_with {M : Model} {A : Around} {E : Value -> Shared -> Prop} {s : Shared} {env : Env} {x : Sem Value} {Q : Flow -> Shared -> Prop} {nm q : Str} {N : Addr} {bs bm : List Value} {sn : List Str} {sub : List Value} {ab : Bool} {col : Option Bool} {dd : Option Addr} {k0 k1 k2 k3 k5 : Option Value} (hh : A.handled = none)
  (h : wpAny M A x (λ v s₁ => ∃ e t dx,v = .ref e /\ s₁.heap.get? C = some (excClassObj nm q C N bs bm true sn sub ab col dd k0 k1 k2 k3 k5 "ValueError.__new__") /\ OwnTail s₁.heap bmV bm /\ s₁.heap.get? e = some { Q1P C t with dict := some dx } /\ E (.ref e) s₁) E s) :
  wpAny M A (raiseStmt env (some x) none) Q E s := by
 unfold raiseStmt
 refine wpAny_bind (wpAny_mono h (λ v s1 h1 => ?_) λ _ _ x => x)
 obtain ⟨e,t,dx,rfl,hC,T,he,hE⟩ := h1
 have hcB : (Value.ref C :: bm).contains (.type "BaseException") = true := by rw [List.contains_cons,T.hasType F.excBase_ValueError.hasBase,Bool.or_true]
 obtain ⟨hp,g,d,tk,os⟩ := s1
 repeat (first | with_reducible refine wpAny_loadPart_at he ?_ | with_reducible refine wpAny_loadPart_at hC ?_ | (with_reducible refine wpAny_isSubtype_exc hC ?_; rw [hcB]) | wp_step)
 exact wpAny_raiseNew_none hh hE
end
end L2
namespace DL
open PySem PySem.Spec PyProof.Rows L2
structure InitI (P : Program) (w : World) (K : PySem.W.Frag) (mg : Str -> Option Value) (base : Heap) (C : Addr) (k : Nat) (x name : Str) : Prop where
 ex : ∃ f fd ps,FnOk P w K mg base CX0 k f fd ps (spI C name) /\ ExcI K C f name /\ Q0F K fd ps []
 ty : Q2n K C
 at_ : mg x = some (.ref C)
section
variable {X : Cx} {mk : Prop} {ρ : Rho} {O : Sto} {e : Expr} {d : D} {RX : XC} {pos np cpos : Pos} {x name : Str} {P : Post} {C : Addr} {k : Nat}
theorem xX_raiseI (M : InitI X.prog X.w X.K X.mg X.base C k x name) (hr : Room (k + 1) X.A) (ha : EvPs X ρ O [e] [d]) (hR : RX C [(name,d)] ρ O) (hmk : mk) (hc : X.calm = true := by rfl) (hex : X.ex = [] := by rfl) (hg : Gl X x := by rfl)
  (hdb : (x == ("__debug__" : Str)) = false := by decide) (he : starEach [e] X.env = (false,eval e X.env) :: starEach [] X.env := by rfl) (hpl : (backTo cpos (starEach [] X.env)).any (·.1) = false := by rfl) :
  ExX X mk ρ O (.Raise (some (.Call (.Name x np) [e] [] cpos)) none pos) P RX := λ G pins s σ H E I ⟨h1,h2,h3,h4⟩ => by
 obtain ⟨f,fd,ps,g1,g2,g3⟩ := M.ex
 obtain ⟨nm,q,N,bs,bm,sn,sub,ab,col,dd,k0,k1,k2,k3,k5,hC,hT⟩ := g2.cls
 rw [arm_exec_Raise]
 refine wpAny_bind (wpAny_standAt (raise_with (C := C) (nm := nm) (q := q) (N := N) (bs := bs) (bm := bm) (sn := sn) (sub := sub) (ab := ab) (col := col) (dd := dd) (k0 := k0) (k1 := k1) (k2 := k2) (k3 := k3) (k5 := k5) (I.ok.hd hc) (wpAny_bind (wpAny_mono (wpAny_Call_Name_kw (Q2v I hg M.at_ ?_ hdb)) (λ v s3 h3 => wpAny_bind (wpAny_standAt (wpAny_pure h3))) λ _ _ z => z))))
 refine PySem.W.callWith_K (h₀ := X.base) I.ok.mod.kin g2.kp (thn (ha G cpos pins s σ H (λ vs H' => ∃ G',Ext G G' /\ SA X.K G' H' O /\ Iss X.K G' [d] vs) I ⟨h1,h2,λ vs G' H' e1 s1 i1 => ⟨G',e1,s1,i1⟩⟩) λ us s1 ⟨vs,H1,I1,r,G1,e1,sa,i1⟩ => ⟨I1.kIn,?_⟩) he hpl
 obtain ⟨v,rfl,iv⟩ : ∃ v,vs = [v] /\ Is X.K G1 d v := by
  cases i1 with | cons i r' => cases r' with | nil => exact ⟨_,rfl,i⟩
 have ul : us.length = 1 := r.length.symm
 have ha1 : H1 (s1.heap.objs.size + 1) = none := I1.hok.fresh (Nat.le_succ _)
 have kp : ∀ b o,s1.heap.get? b = some o -> (Q1O s1.heap C us).get? b = some o := λ b o e => Heap.get?_push_of_some _ (Heap.get?_push_of_some _ e)
 have hget : (Q1O s1.heap C us).get? (s1.heap.objs.size + 1) = some (Q1P C s1.heap.objs.size) := by heap_get
 have s0n : X.s₀.heap.get? (s1.heap.objs.size + 1) = none := by
  cases z : X.s₀.heap.get? (s1.heap.objs.size + 1) with
  | none => rfl
  | some o => exact absurd (Heap.lt_size z) (Nat.not_lt.mpr (Nat.le_succ_of_le I1.sz))
 have I2 : L2.Inv X pins σ (upd H1 (s1.heap.objs.size + 1) (bareO C (s1.heap.objs.size + 1) s1.heap.objs.size)) { s1 with heap := Q1O s1.heap C us } :=
  (I1.kept (t' := s1.toks) kp).track (I1.fpOk (Nat.le_succ _) ha1) s0n ⟨hget,⟨_,hget⟩,λ _ _ e k => k _ e⟩
 generalize hH2 : upd H1 (s1.heap.objs.size + 1) (bareO C (s1.heap.objs.size + 1) s1.heap.objs.size) = H2 at I2
 have hsp : spI C name [V.ref (s1.heap.objs.size + 1),v] H2 (λ u H' => u = .non /\ ∃ dx,H2 dx = none /\ H' = upd (upd H2 (s1.heap.objs.size + 1) (withO C (s1.heap.objs.size + 1) s1.heap.objs.size dx)) dx (.xd [(name,v)])) (λ _ _ _ => False) :=
  ⟨_,_,v,rfl,by rw [<- hH2]; exact Q0h,λ dx hn => ⟨rfl,dx,hn,rfl⟩⟩
 have r2 : Vals [V.ref (s1.heap.objs.size + 1),v] (Value.ref (s1.heap.objs.size + 1) :: us) := .cons rfl r
 have hl : (Value.ref (s1.heap.objs.size + 1) :: us).length = ps.length := by rw [<- r2.length]; exact g1.len _ _ _ _ hsp
 have hb := g3 { s1 with heap := _ } (Value.ref (s1.heap.objs.size + 1) :: us) I2.kIn (by rw [List.append_nil]; exact hl)
 rw [List.append_nil] at hb
 refine wpAny_call (exc_makeI (f := f) I1.kIn (I1.kIn _ _ hC) (hT _ I1.kIn) g2.init g2.fn (by rw [List.nil_append,ul,sizeLine_eq]; decide) (codeAny_mono (g1.run _ X.stack _ _ ⟨Value.ref (s1.heap.objs.size + 1) :: us,[]⟩ _ _ _ (λ _ _ _ => False) (hr.make C us []) (I2.env0.make C us []) hb r2 hsp) λ r s' hq' => ?_))
 match r,hq' with
 | .error e,hq' => exact hq'.elim
 | .ok (.ret u),hq' =>
  obtain ⟨v',H',I3,rv,ev,dx,hn,hH'⟩ := I2.after hq'
  subst ev
  refine ⟨rv,?_⟩
  have h2a : H2 (s1.heap.objs.size + 1) = some (bareO C (s1.heap.objs.size + 1) s1.heap.objs.size) := by rw [<- hH2]; exact Q0h
  have hne : s1.heap.objs.size + 1 ≠ dx := Q0r h2a hn
  have h1d : H1 dx = none := by rw [<- hH2,Q0i (Ne.symm hne)] at hn; exact hn
  have hcomm : H' = upd (upd H1 dx (.xd [(name,v)])) (s1.heap.objs.size + 1) (withO C (s1.heap.objs.size + 1) s1.heap.objs.size dx) := by
   rw [hH',<- hH2,upd_upd]
   funext b
   unfold upd
   by_cases hb : b = dx
   ·subst hb; rw [if_pos rfl,if_neg (Ne.symm hne),if_pos rfl]
   ·rw [if_neg hb,if_neg hb]
  have h3n : upd H1 dx (.xd [(name,v)]) (s1.heap.objs.size + 1) = none := by rw [Q0i hne]; exact ha1
  obtain ⟨ho,_⟩ := I3.hok (s1.heap.objs.size + 1) (withO C (s1.heap.objs.size + 1) s1.heap.objs.size dx) (by rw [hcomm]; exact Q0h)
  have I4 : L2.Inv X pins σ (upd H1 dx (.xd [(name,v)])) s' := (hcomm ▸ I3).forget h3n
  obtain ⟨e2,sa2⟩ := sa.laid (o := .xd [(name,v)]) h1d
  exact ⟨_,_,dx,rfl,I3.kIn _ _ hC,hT _ I3.kIn,ho,(h4 C [(name,d)] (some dx) σ ρ O _ _ (e1.trans e2) sa2 (h2.ext (e1.trans e2)) (.inr ⟨dx,_,rfl,Q0h,.cons (iv.ext e2) .nil⟩) hR).2 hmk pins s' _ _ _ _ I4 h3n s0n ho rfl rfl rfl rfl rfl rfl⟩
end
end DL
namespace L2
open PySem PySem.Spec PyProof.Rows Builtin.ObjectAttr
section
variable {prog : Program} {w : World} {A : Around} {E : Value -> Shared -> Prop} {s : Shared} {K : PySem.W.Frag} {x C : Addr} {n : Str} {ox od : Obj} {u : Value}
theorem exc_finds (T : Q2n K C) (na : PySem.W.findIn K (.ref C) n = some none) (hl : PySem.W.lookIn n od = some (some u)) : PySem.W.findObj K C (some od) n = some (.value u) := by
 obtain ⟨cd,hc,hd⟩ := PySem.W.any_some T.hd
 have ho : PySem.W.ownOf cd (some od) n = some (some u) := by unfold PySem.W.ownOf; rw [if_pos hd]; exact hl
 unfold PySem.W.findObj
 rw [hc,Option.bind_some,na,Option.bind_some]
 dsimp only
 rw [Option.bind_some,Option.bind_some,ho]
 rfl
theorem exc_value {tk : Tok} {P : Value -> Shared -> Prop} (X : K.In s.heap) (I : PySem.W.InstAt s.heap x ox C (some od)) (hf : PySem.W.findObj K C (some od) n = some (.value u)) (h : P u s) :
  wpAny (model prog w) A (Builtin.«object.__getattribute__» ⟨[.ref x,.str n tk],[]⟩) (λ fin s' => match fin with | .done (.ret v) => P v s' | _ => False) E s := by
 have LT := I.type (M := model prog w)
 have LF := PySem.W.looks_find (M := model prog w) X I hf
 obtain ⟨hh,gg,d,t,os⟩ := s
 unfold Builtin.«object.__getattribute__» slotArgs
 refine wpAny_bind (wpAny_bind (wpAny_pure (wpAny_bind (wpAny_pure (wpAny_pure ?_)))))
 exact wpAny_bind (wpAny_pure (wpAny_bind (LT.at (wpAny_bind (LF.at (wpAny_pure h))))))
theorem exc_get {b : Bool} {Q : Value -> Shared -> Prop} (T : Q2n K C) (X : K.In s.heap) (I : PySem.W.InstAt s.heap x ox C (some od)) (na : PySem.W.findIn K (.ref C) n = some none) (hl : PySem.W.lookIn n od = some (some u)) (hu : PySem.W.handedIn u = true) (h : Q u { s with toks := s.toks + 1 }) :
  wpAny (model prog w) A (getAttr (.ref x) n b) Q E s := by
 have LT := I.type (M := model prog w)
 have LG := PySem.W.looks_findIn (M := model prog w) X T.ga
 have LH := PySem.W.looks_findIn (M := model prog w) X T.hk
 unfold getAttr getAttrBy
 refine wpAny_bind (wpAny_mkText (wpAny_holding (wpAny_bind (LT.at (wpAny_bind (LG.at ?_))))))
 show wpAny _ _ (getAttrByItsOwn _ _ _ _ _ _) _ _ _
 unfold getAttrByItsOwn
 refine wpAny_bind (LH.at (wpAny_bind (wpAny_attempt (wpAny_holding ?_))))
 have e0 : ∀ o nv,callGetattribute o nv (.builtin "BaseException.__getattribute__") b = boundAndCalled (.builtin "BaseException.__getattribute__") o nv := λ o nv => by cases b <;> rfl
 rw [e0]
 unfold boundAndCalled
 rw [F.excAttr_ValueError.ga.bind]
 refine wpAny_bind (wpAny_pure (wpAny_call (codeAny_call_builtin F.excAttr_ValueError.ga.plain F.entry_bexc_ga (exc_check T X LT (wpAny_mono (exc_value (s := { s with toks := s.toks + 1 }) (P := λ v s' => v = u /\ s' = { s with toks := s.toks + 1 }) X I (exc_finds T na hl) ⟨rfl,rfl⟩) (λ fin s' z => ?_) λ _ _ z => z)))))
 rcases fin with (v | _ | _ | _) | _ <;> first | exact z.elim | skip
 obtain ⟨rfl,rfl⟩ := z
 exact PySem.W.handed_on hu h
end
end L2
namespace DL
open PySem PySem.Spec PyProof.Rows L2
section
variable {X : Cx} {ρ : Rho} {O : Sto} {e : Expr} {d : D} {pos : Pos} {f : Str} {C : Addr} {q : Nat} {fs : List (Str × D)}
theorem ev_fldX (he : EvP X ρ O e (.ptr q)) {hx' : Option Addr} (hq : O[q]? = some (some (.exc C fs hx'))) (T : Q2n X.K C) (na : PySem.W.findIn X.K (.ref C) f = some none) (hl : fs.lookup f = some d) (hb : attributeBase e f X.env (eval e X.env) = eval e X.env := by rfl) :
  EvP X ρ O (.Attribute e f pos) d := λ G pins s σ H Q I ⟨h1,h2,h3⟩ => by
 refine attr_of hb (thn (he G pins s σ H (λ v H' => ∃ G',Ext G G' /\ SA X.K G' H' O /\ Is X.K G' (.ptr q) v) I ⟨h1,h2,λ v G' H' e1 s1 i1 => ⟨G',e1,s1,i1⟩⟩) λ u s1 ⟨y,H1,I1,ry,G1,e1,sa1,i1⟩ => ?_)
 cases i1 with
 | ptr _ ha =>
  obtain ⟨a,g1,g2,ob,g3,⟨g4,ws,g5⟩,g6,_⟩ := sa1.mt q _ hq
  cases Option.some.inj (ha.symm.trans g1)
  obtain rfl : u = Value.ref _ := ry
  rcases g6 with z | ⟨dx,vs,k1,k2,k3⟩
  ·subst z; cases hl
  obtain ⟨v,l,iv⟩ := k3.look hl
  obtain ⟨ho,_⟩ := I1.hok _ _ g3
  obtain ⟨mA,n1,r1⟩ := I1.hok dx _ (sa1.sub _ _ k2)
  obtain ⟨od,hod,hlk⟩ := lookIn_ns n1
  obtain ⟨u',hu,ru⟩ := RelO.some_of (v := v) (o := mA f) (by rw [<- l]; exact r1 f)
  have J : PySem.W.InstAt s1.heap _ ob C (some od) := ⟨ho,g4,by obtain ⟨c0,d0,dt,sl⟩ := ob; subst g5; rfl,by rw [k1]; exact hod⟩
  exact exc_get T I1.kIn J na (by rw [hlk,hu]) (handed_of ru) ⟨v,H1,I1.tok _,ru,h3 v G1 H1 e1 sa1 iv⟩
theorem tail1 {K : PySem.W.Frag} {h : Heap} {Cb : Addr} (X : K.In h) (q : PySem.W.excIn K Cb bmV "ValueError.__new__" = true) : OwnTail h bmV (.ref Cb :: bmV) := by
 obtain ⟨tl,N,nm,q,bs,hdct,sn,sub,ab,col,dd,k0,k1,k2,k3,k5,mN,hC,hN,hni,T⟩ := (exc_cls X q).obj
 exact .own hC hN hni .base
end
abbrev SpX.good (sp : SpX) : SpD := λ ds O R => sp ds O R λ _ _ _ => False
section
variable {P : Program} {w : World} {K : PySem.W.Frag} {mg : Str -> Option Value} {base : Heap} {C : Addr} {k : Nat} {x m : Str} {sp : SpX}
theorem fn_good {f : Addr} {fd : FuncData} {ps : List Str} (F : FnOk P w K mg base (CX1 P w) k f fd ps (Q2d K sp)) : FnOk P w K mg base CX0 k f fd ps (toSp K sp.good) := by
 have tr : ∀ {vs : List V} {H : Hp} {Q : VK} {E : XK},toSp K sp.good vs H Q E -> Q2d K sp vs H Q (λ _ _ _ => False) := λ ⟨G,O,ds,R,h1,h2,h3,h4⟩ => ⟨G,O,ds,R,_,h1,h2,h3,h4,λ _ _ _ _ _ _ _ _ _ z => z⟩
 refine ⟨λ vs H Q E h => F.len vs H Q _ (tr h),λ A outer s H args us vs Q E hr h0 hb r h => codeAny_mono (F.run A outer s H args us vs Q _ hr h0 hb r (tr h)) λ r s' z => ?_⟩
 match r,z with
 | .error e,z => obtain ⟨_,_,_,_,_,_,_,z⟩ := z; exact z.elim
 | .ok (.ret u),z => exact z
theorem Q2A.ok (F : Q2A P w K mg base C k m sp) : Q3t P w K mg base C k m sp.good := let ⟨f,fd,ps,h1,h2⟩ := F.ex; ⟨⟨f,fd,ps,fn_good h1,h2⟩,F.cls⟩
theorem MakeX.ok (F : MakeX P w K mg base C k x sp) : MakeOk P w K mg base C k x sp.good := let ⟨f,fd,ps,h1,h2⟩ := F.ex; ⟨⟨f,fd,ps,fn_good h1,h2⟩,F.at_⟩
end
end DL
namespace L2
open PySem PySem.Spec PyProof.Rows
end L2
namespace DL
open PySem PySem.Spec PyProof.Rows L2
section
variable {X : Cx} {O : Sto}
end
section
variable {X : Cx} {mk : Prop} {ρ : Rho} {O : Sto} {P : Post} {RX : XC} {pos : Pos}
theorem xX_for {tg iter : Expr} {body : List Stmt} {xs : List D} (hi : EvI X ρ O tg iter xs) (inv : Nat -> Rho -> Sto -> Prop) (h0 : inv 0 ρ O)
  (hs : ∀ i x ρ' O',xs[i]? = some x -> inv i ρ' O' -> ∃ ρ1,Tg X tg x ρ' ρ1 /\ ExsX X mk ρ1 O' body { P with nx := inv (i + 1),ct := inv (i + 1),bk := P.nx } RX) (hd : ∀ ρ' O',inv xs.length ρ' O' -> P.nx ρ' O')
  (hp : PassesOwn (model X.prog X.w) X.A X.env X.xe := by exact PassesOwn.leaving) (hc : X.calm = true := by rfl) (hf : ∀ x,foldedSetIterable iter X.env x = pure x := by intro _; rfl) : ExX X mk ρ O (.For tg iter body [] pos) P RX := λ G =>
 PS.imp (ps_for hp hc (hi G) (g := λ v σ H Q => ∃ G1 ρ1 ρ2 x,Tg X tg x ρ1 ρ2 /\ Is X.K G1 x v /\ Same G1.g H /\ EnvR X.K G1 σ ρ1 /\ ∀ σ',EnvR X.K G1 σ' ρ2 -> Q σ' H) (λ pins s σ H v u Q I r ⟨G1,ρ1,ρ2,x,q,q'⟩ => q G1 pins s σ H v u Q I r q')
  (tb := λ E σ H => ∃ G1 ρ1 O1 P1,SA X.K G1 H O1 /\ EnvR X.K G1 σ ρ1 /\ ExsX X mk ρ1 O1 body P1 RX /\ Q2o X.K G1 P1 E /\ ContX X mk G1 RX) (λ pins s σ H E I ⟨G1,ρ1,O1,P1,q1,q2,q3,q4,q5⟩ => q3 G1 pins s σ H E I ⟨q1,q2,q4,q5⟩) hf) λ E σ H ⟨q1,q2,q3,q5⟩ => by
  refine ⟨q1,q2,λ J G1 H1 e1 s1 Y => ?_⟩
  refine ⟨λ i m σ H => ∃ G2 ρ2 O2,Ext G1 G2 /\ SA X.K G2 H O2 /\ EnvR X.K G2 σ ρ2 /\ inv i ρ2 O2 /\ i <= xs.length /\ m = xs.length - i,⟨_,G1,ρ,O,Ext.refl _,s1,q2.ext e1,h0,Nat.zero_le _,rfl⟩,?_⟩
  rintro i m σ2 H2 ⟨G2,ρ2,O2,e2,s2,n2,v2,l2,rfl⟩
  by_cases hlt : i < xs.length
  ·refine .inr ⟨Y.go i H2 (e2.g.trans s2.sub) hlt,λ σ' H' => ∃ G3 ρ3 O3,Ext G1 G3 /\ SA X.K G3 H' O3 /\ EnvR X.K G3 σ' ρ3 /\ inv (i + 1) ρ3 O3,λ σ' H' ⟨G3,ρ3,O3,e3,s3,n3,v3⟩ => ⟨xs.length - (i + 1),by omega,G3,ρ3,O3,e3,s3,n3,v3,hlt,rfl⟩,λ v H3 y => ?_⟩
   obtain ⟨x,G3,hx,e3,s3,i3⟩ := Y.yld i v H2 H3 G2 O2 e2 s2 y hlt
   obtain ⟨ρ3,t3,b3⟩ := hs i x ρ2 O2 hx v2
   have e13 : Ext G1 G3 := e2.trans e3
   refine ⟨G3,ρ2,ρ3,x,t3,i3,s3.sub,n2.ext e3,λ σ' n' => ⟨G3,ρ3,O2,_,s3,n',b3,⟨λ σ4 ρ4 O4 G4 H4 e4 s4 n4 q => ⟨G4,ρ4,O4,e13.trans e4,s4,n4,q⟩,λ v d O4 G4 H4 e4 s4 i4 r => q3.rt v d O4 G4 H4 (e1.trans (e13.trans e4)) s4 i4 r,
    λ σ4 ρ4 O4 G4 H4 e4 s4 n4 q => q3.nx σ4 ρ4 O4 G4 H4 (e1.trans (e13.trans e4)) s4 n4 q,λ σ4 ρ4 O4 G4 H4 e4 s4 n4 q => ⟨G4,ρ4,O4,e13.trans e4,s4,n4,q⟩⟩,q5.ext (e1.trans e13)⟩⟩
  ·have ei : i = xs.length := by omega
   subst ei
   exact .inl ⟨Y.stop _ H2 (e2.g.trans s2.sub) (Nat.le_refl _),q3.nx σ2 ρ2 O2 G2 H2 (e1.trans e2) s2 n2 (hd _ _ v2)⟩
end
section
variable {X : Cx} {O : Sto} {da db ea eb : D} {k : Nat} {v : Value}
end
section
variable {X : Cx} {ρ : Rho} {O : Sto} {value o ix : Expr} {P : Post} {pos tpos : Pos} {q j : Nat} {i : Int} {xs : List D}
end
end DL
namespace L2
open PySem PySem.Spec PyProof.Rows
end L2
namespace DL
open PySem PySem.Spec PyProof.Rows L2
theorem bls_are : ∀ {bs : List Bool} {us : List Value},Vals (bs.map V.bl) us -> us = bs.map Value.bool
 | [],_,.nil => rfl
 | b :: bs,_,.cons r t => by cases r; rw [bls_are t]; rfl
theorem reads_bls {h : Heap} : ∀ bs : List Bool,ReadsAll h (bs.map Value.bool) (bs.map PyData.bool) []
 | [] => .nil
 | b :: bs => ReadsAll.cons (as := []) (.bool b) (reads_bls bs)
theorem count_bls (k : Bool) : ∀ bs : List Bool,countIn (.bool k) (bs.map PyData.bool) = ((bs.count k : Nat) : Int)
 | [] => rfl
 | b :: bs => by
  rw [List.map_cons,countIn,count_bls k bs,List.count_cons]
  cases b <;> cases k <;> simp [same] <;> omega
section
variable {X : Cx} {ρ : Rho} {O : Sto} {a e : Expr} {d : D}
def rCntB (K : PySem.W.Frag) : V -> List V -> Hp -> VK -> Prop := λ x vs H Q => ∃ (p : Addr) (bs : List Bool) (k : Bool),x = .ref p /\ vs = [.bl k] /\ SqL K H p (bs.map V.bl) /\ Q (.int ((bs.count k : Nat) : Int)) H
theorem mt_cntB : MtR X "list.count" (rCntB X.K) := by
 intro pins s σ H x vs v us Q I rx rv h
 obtain ⟨p,bs,k,rfl,rfl,hq,q⟩ := h
 cases rx
 obtain ⟨u,rfl,ru⟩ := rv.one
 cases ru
 obtain ⟨its,r,pl,hz⟩ := I.list hq
 have e := bls_are r
 subst e
 refine count_list_bools pl.isList (reads_bls (h := s.heap) bs) ?_ ?_
 ·rw [List.all_map]; exact List.all_eq_true.mpr λ _ _ => rfl
 ·rw [count_bls]
  exact ⟨.int _,H,I.tok _,⟨_,rfl⟩,q⟩
theorem Q3q {k : Bool} {bs : List Bool} {apos cpos : Pos} (ho : EvP X ρ O a d) (hl : LV O d (bs.map D.bl)) (he : EvP X ρ O e (.bl k))
  (hbase : attributeBase a ("count" : Str) X.env (eval a X.env) = eval a X.env := by rfl) (hline : (apos.endLine == cpos.line) = true := by rfl) (hst : starEach [e] X.env = [(false,eval e X.env)] := by rfl) :
  EvP X ρ O (.Call (.Attribute a ("count" : Str) apos) [e] [] cpos) (.int ((bs.count k : Nat) : Int)) := λ G =>
 PE.imp (pe_bm PySem.F.plainAttrs_list PySem.F.slot_list_count PySem.F.type_list_count mt_cntB (ho G)
  (Q2f (te := λ σ H Q => ∃ G1,SA X.K G1 H O /\ EnvR X.K G1 σ ρ /\ ∀ v G' H',Ext G1 G' -> SA X.K G' H' O -> Is X.K G' (.bl k) v -> Q v H') (λ pins s σ H Q I ⟨G1,q⟩ => he G1 pins s σ H Q I q) pa_nil hst) hbase
  (by rw [hst]; rfl) hline hst (by rfl)) λ σ H Q ⟨q1,q2,q3⟩ => ⟨q1,q2,λ v G1 H1 e1 s1 i1 => by
   obtain ⟨p,vs,rfl,g1,g2⟩ := hl.sq s1 i1
   have := Iss.toBls g2
   subst this
   refine ⟨.inl ⟨rfl,_,g1⟩,G1,s1,q2.ext e1,λ w G2 H2 e2 s2 i2 => ?_⟩
   cases i2
   obtain ⟨p2,vs2,h2,g3,g4⟩ := hl.sq s2 (i1.ext e2)
   cases h2
   have := Iss.toBls g4
   subst this
   exact ⟨p,bs,k,rfl,rfl,g3,q3 _ G2 H2 (e1.trans e2) s2 (.int _)⟩⟩
end
section
variable {X : Cx} {ρ : Rho} {O : Sto} {elt tg iter : Expr} {ifs : List Expr} {scope : Scope} {pos : Pos} {xs : List D} {zs : List (Option D)}
end
section
variable {X : Cx} {ρ : Rho} {O : Sto} {P : Post} {pos : Pos}
variable {α : Type} {ps : List α} {f g : α -> D} {h : α -> Option D} {tg iter elt : Expr} {ifs : List Expr} {scope : Scope}
end
section
variable {P : Program} {w : World} {K : PySem.W.Frag} {mg : Str -> Option Value} {base : Heap}
end
section
variable {prog : Program} {w : World} {A : Around} {E : Value -> Shared -> Prop} {s : Shared}
end
section
variable {X : Cx} {O : Sto}
end
section
variable {X : Cx} {mk : Prop} {ρ : Rho} {O : Sto} {value o : Expr} {RX : XC} {pos pos' : Pos} {f : Str} {P : Post} {C : Addr} {q : Nat} {fs : List (Str × D)}
end
end DL
namespace DL
open PySem PySem.Spec PyProof.Rows L2 PySem.SeqAt PySem.MeetsSeq
section
variable {X : Cx} {ρ : Rho} {O : Sto} {a e : Expr} {d : D}
theorem idx_first {α : Type} [BEq α] [LawfulBEq α] {xs : List α} {k : α} (h : k ∈ xs) : ∃ hl : xs.idxOf k < xs.length,xs[xs.idxOf k] = k /\ ∀ m (hm : m < xs.length),m < xs.idxOf k -> (xs[m] == k) = false := by
 have hl := List.idxOf_lt_length_iff.mpr h
 refine ⟨hl,List.getElem_idxOf hl,λ m hm hlt => ?_⟩
 have := List.not_of_lt_findIdx (p := λ x => x == k) (xs := xs) (show m < xs.findIdx (λ x => x == k) from hlt)
 simpa using this
def rIdxB (K : PySem.W.Frag) : V -> List V -> Hp -> VK -> Prop := λ x vs H Q => ∃ (p : Addr) (bs : List Bool) (k : Bool),x = .ref p /\ vs = [.bl k] /\ SqL K H p (bs.map V.bl) /\ k ∈ bs /\ Q (.int ((bs.idxOf k : Nat) : Int)) H
theorem mt_idxB : MtR X "list.index" (rIdxB X.K) := by
 intro pins s σ H x vs v us Q I rx rv h
 obtain ⟨p,bs,k,rfl,rfl,hq,hk,q⟩ := h
 cases rx
 obtain ⟨u,rfl,ru⟩ := rv.one
 cases ru
 obtain ⟨its,r,pl,hz⟩ := I.list hq
 have e := bls_are r
 subst e
 have hn := sizeLine_eq
 rw [List.length_map] at hz
 obtain ⟨⟨cls,dd,data,sl⟩,ho,hc,n,hd⟩ := pl.isList
 simp only at hc hd
 subst hc hd
 obtain ⟨h1,h2,h3⟩ := idx_first hk
 have ha : (bs.map PyData.bool).all Shape.bool.has = true := by rw [List.all_map]; exact List.all_eq_true.mpr λ _ _ => rfl
 refine call_meets PySem.F.slot_list_index ⟨_,ho,rfl⟩ PySem.F.entry_list_index (PySem.F.args_list_index_2 _ _)
  (list_indexAt p (bs.map Value.bool).toArray n dd sl (.bool k) (isBoolOf k) (bs.idxOf k) (by simpa using h1) (by omega) ?_ ?_) ⟨ho,λ y hy => eq_isBoolOf k (reads_bls (h := s.heap) bs) ha y (by simpa using hy) _ _,⟨.int _,H,I.tok _,⟨_,rfl⟩,q⟩⟩
 ·show isBoolOf k ((bs.map Value.bool)[bs.idxOf k]'(by rw [List.length_map]; exact h1)) = true
  rw [List.getElem_map,h2]
  simp [isBoolOf]
 ·intro j hjs hlt
  show isBoolOf k ((bs.map Value.bool)[j]'(by simpa using hjs)) = false
  rw [List.getElem_map]
  exact h3 j _ hlt
theorem ev_idxB {k : Bool} {bs : List Bool} {apos cpos : Pos} (ho : EvP X ρ O a d) (hl : LV O d (bs.map D.bl)) (he : EvP X ρ O e (.bl k)) (hk : k ∈ bs)
  (hbase : attributeBase a ("index" : Str) X.env (eval a X.env) = eval a X.env := by rfl) (hline : (apos.endLine == cpos.line) = true := by rfl) (hst : starEach [e] X.env = [(false,eval e X.env)] := by rfl) :
  EvP X ρ O (.Call (.Attribute a ("index" : Str) apos) [e] [] cpos) (.int ((bs.idxOf k : Nat) : Int)) := λ G =>
 PE.imp (pe_bm PySem.F.plainAttrs_list PySem.F.slot_list_index PySem.F.type_list_index mt_idxB (ho G)
  (Q2f (te := λ σ H Q => ∃ G1,SA X.K G1 H O /\ EnvR X.K G1 σ ρ /\ ∀ v G' H',Ext G1 G' -> SA X.K G' H' O -> Is X.K G' (.bl k) v -> Q v H') (λ pins s σ H Q I ⟨G1,q⟩ => he G1 pins s σ H Q I q) pa_nil hst) hbase
  (by rw [hst]; rfl) hline hst (by rfl)) λ σ H Q ⟨q1,q2,q3⟩ => ⟨q1,q2,λ v G1 H1 e1 s1 i1 => by
   obtain ⟨p,vs,rfl,g1,g2⟩ := hl.sq s1 i1
   have := Iss.toBls g2
   subst this
   refine ⟨.inl ⟨rfl,_,g1⟩,G1,s1,q2.ext e1,λ w G2 H2 e2 s2 i2 => ?_⟩
   cases i2
   obtain ⟨p2,vs2,h2,g3,g4⟩ := hl.sq s2 (i1.ext e2)
   cases h2
   have := Iss.toBls g4
   subst this
   exact ⟨p,bs,k,rfl,rfl,g3,hk,q3 _ G2 H2 (e1.trans e2) s2 (.int _)⟩⟩
end
end DL
namespace DL
open PySem PySem.Spec PyProof.Rows L2 PySem.W
section
variable {prog : Program} {w : World} {A : Around} {s : Shared} {E : Value -> Shared -> Prop} {it : Addr} {Ty : String}
theorem call_tuple_it {Q : Value -> Shared -> Prop} (hT : s.TypeIs (.ref it) Ty) (nt : (Value.type Ty == Value.type "tuple") = false)
  (hc : wpAny (model prog w) A.in1.in1 (collect (.ref it)) (λ its s1 => its.length <= sizeLine /\ Q (.ref s1.heap.objs.size) { s1 with heap := s1.heap.push { cls := .type "tuple",data := .seq its.toArray } }) E s) :
  wpAny (model prog w) A (call (.type "tuple") [.ref it]) Q E s := by
 refine callType_codes (Q₁ := λ obj s₁ => s₁.TypeIs obj "tuple" /\ Q obj s₁) F.called_tuple (F.typeCall_tuple_1 _) F.entry_object_init ?_ λ obj s₁ h₁ => ⟨h₁.1,F.args_object_init_2 obj _,object_init_meets F.called_tuple.init.lookup F.called_tuple.made (by decide) prog w A.in1 _ s₁ ⟨h₁.1,rfl,h₁.2⟩⟩
 refine codeAny_of_tree ?_
 show wpAny _ A.in1.in1 (do checkBuiltinCall "tuple.__new__" ⟨[.type "tuple",.ref it],[]⟩; again (.builtin "tuple.__new__" ⟨[.type "tuple",.ref it],[]⟩)) _ _ s
 refine wpAny_bind (wpAny_of_eq (F.newCall_tuple_1 _) (wpAny_pure ⟨plainId_quiet F.plain_tuple_new _,Q2W F.plain_tuple_new F.entry_tuple_new ?_⟩))
 have h1 := sub_tuple_self
 have h2 := init_tuple_lookup
 have h3 := madeHere_tuple
 have cr : ∀ (Q' : List Value -> Shared -> Prop) (E' : Value -> Shared -> Prop),(∀ e s',E e s' -> E' e s') -> (∀ its s1,its.length <= sizeLine /\ Q (.ref s1.heap.objs.size) { s1 with heap := s1.heap.push { cls := .type "tuple",data := .seq its.toArray } } -> Q' its s1) -> wpAny (model prog w) A.in1.in1 (collect (.ref it)) Q' E' s := λ Q' E' b a => wpAny_mono hc a b
 wp_walk using wpAny_typeOf hT,cr _ _ (λ e s' z => z)
 intro its s1 ⟨hz,q⟩
 refine wpAny_bind (wpAny_pure ?_)
 refine wpAny_bind (wpAny_newObj_type (wpAny_pure ⟨⟨_,Heap.get?_push_size _ rfl,rfl⟩,q⟩) (by show its.toArray.size <= sizeLine; rw [List.size_toArray]; exact hz))
end
section
variable {prog : Program} {w : World} {A : Around} {s : Shared} {E : Value -> Shared -> Prop} {it l : Addr} {i : Int}
end
section
variable {X : Cx} {ρ : Rho} {O : Sto} {a : Expr} {pos p pos2 p2 : Pos} {xs : List D}
end
end DL
namespace L2
open PySem PySem.Spec PyProof.Rows
section
variable {X : Cx} {tg a b c : Expr} {p pos : Pos}
end
end L2
namespace DL
open PySem PySem.Spec PyProof.Rows L2
section
variable {X : Cx} {ρ : Rho} {O : Sto} {a b c : Expr} {p pos : Pos} {P : Post} {st : Stmt} {rest : List Stmt}
end
section
variable {X : Cx} {ρ : Rho} {O : Sto} {a b e : Expr} {pos : Pos} {P : Post} {d da db ea eb : D} {k : Nat} {xs : List D}
theorem any_py (e : D) : ∀ xs : List D,(Q2q xs).any (λ z => PyData.eqv z (toPy e)) = xs.any λ z => eqD z e
 | [] => rfl
 | z :: zs => by show (PyData.eqv (toPy z) (toPy e) || (Q2q zs).any _) = (eqD z e || zs.any _); rw [any_py e zs]; rfl
theorem cmp_niD (hr : Room k X.A) (ha : RD O da ea) (pa : plD ea = true) (px : plDs xs = true) (hd : min (dpDs xs) (dpD ea) <= 60) (hb : RD O db (.lst xs)) : Op2 X O (compareOp .NotIn) da db (.bl (!xs.any λ y => eqD y ea)) := λ G pins s σ H x y v u Q I rx ry ⟨h1,h2,h3,h4⟩ => by
 obtain ⟨as,ra⟩ := ha.reads I h1 h2 rx pa
 obtain ⟨bs,rb⟩ := hb.reads I h1 h3 ry px
 have hu := hr.units
 refine PySem.SeqAt.notIn_list_reads (xs := Q2q xs) rb ra (Q2t _ px) (pl_lay _ pa) (by rw [dp_py,Q3M]; omega) ?_
 rw [any_py]
 exact ⟨.bl _,H,I,rfl,h4 _ G H (Ext.refl _) h1 (.bl _)⟩
end
def Its (x : Str) : It := ⟨λ i _ => i < x.cps.size,λ i H v H' => H' = H /\ ∃ c,x.cps[i]? = some c /\ v = .str ⟨#[c]⟩,λ i _ => x.cps.size <= i⟩
theorem turn_signs {P : Program} {w : World} {K : PySem.W.Frag} {tg : Expr} (it : Addr) (x : Str) (t : Tok) (ty : String) (hty : ty = "str_ascii_iterator" \/ ty = "str_iterator") : Turn P w K tg (Its x) [it] it (λ i h => h.IsStrIter it ty x t i) where
 mem := by simp
 obj := λ i h st b hb => by
  have e : b = it := by simpa using hb
  subst e
  obtain ⟨o,e,c,d⟩ := st
  exact ⟨o,e,λ v z => by rw [d] at z; cases z⟩
 keep := λ i h h' st k => let ⟨o,ho,r⟩ := st; ⟨o,k it (by simp) o ho,r⟩
 item := by
  intro X hP hw hK hc i pins s σ H E I hf st hg
  subst hP hw hK
  have hg : i < x.cps.size := hg
  have hx : x.cps[i]? = some x.cps[i] := by simp [hg]
  have fin : ∀ (h' : Heap) (tk : Nat) (u : Tok),h'.IsStrIter it ty x t (i + 1) -> Heap.SameBut it s.heap h' -> ∃ v,some (Value.str ⟨#[x.cps[i]]⟩ u) = some v /\
    wpAny (model X.prog X.w) X.A (letOwnedTupleGo tg (.ref it) v) (λ _ s2 => ∃ y H',Inv X pins σ H' s2 /\ RelV y v /\ (Its x).yld i H y H' /\ s2.heap.IsStrIter it ty x t (i + 1) /\ ∀ b ∈ [it],H' b = none) E { s with heap := h',toks := tk } := λ h' tk u st' sb => by
   have I1 : Inv X pins σ H { s with heap := h',toks := tk } := Q1B I hf λ c o hc e => (sb.2 c (λ z => hc (by simp [z]))).trans e
   obtain ⟨o,e1,c1,d1⟩ := id st'
   exact ⟨_,rfl,go_of (s := { s with heap := h',toks := tk }) e1 c1 d1 (by rcases hty with rfl | rfl <;> decide) ⟨.str ⟨#[x.cps[i]]⟩,H,I1,⟨_,rfl⟩,⟨rfl,_,hx,rfl⟩,st',λ b hb => (hf b hb).1⟩⟩
  rcases hty with rfl | rfl
  ·exact wpAny_pyNext_ascii_item st hx λ h' st' sb => fin h' _ _ st' sb
  ·exact wpAny_pyNext_wide_item st hx λ h' st' sb => fin h' _ _ st' sb
 done := by
  intro X hP hw hK hc i pins s σ H E I hf st hg
  subst hP hw hK
  have hg : x.cps.size <= i := hg
  have hx : x.cps[i]? = none := by simp; omega
  rcases hty with rfl | rfl
  ·exact wpAny_pyNext_ascii_end (I.ok.hd hc) st hx λ h' eb => ⟨rfl,Q1B (t' := s.toks) I hf λ c o hc e => eb c o (λ z => hc (by simp [z])) e⟩
  ·exact wpAny_pyNext_wide_end (I.ok.hd hc) st hx λ h' eb => ⟨rfl,Q1B (t' := s.toks) I hf λ c o hc e => eb c o (λ z => hc (by simp [z])) e⟩
 self := λ _ _ _ _ _ st h => by
  rcases hty with rfl | rfl
  ·exact wpAny_pyIter_striter_ascii st h
  ·exact wpAny_pyIter_striter_wide st h
section
variable {X : Cx} {ρ : Rho} {O : Sto} {a b e : Expr} {pos p : Pos} {d : D} {x y : Str}
def sgD (c : Nat) : D := .str ⟨#[c]⟩
theorem its_yields {K : PySem.W.Frag} {G : Wd} : Q2c K G (Its x) (x.cps.toList.map sgD) where
 go := λ i H _ hi => show i < x.cps.size by simpa using hi
 stop := λ i H _ hi => show x.cps.size <= i by simpa using hi
 yld := λ i v H H' G2 O2 e s y hi => by
  obtain ⟨rfl,c,hc,rfl⟩ := y
  exact ⟨sgD c,G2,by rw [List.getElem?_map]; simp [hc],Ext.refl _,s,.str _⟩
theorem ei_str {tg : Expr} (h : EvP X ρ O e (.str x)) : EvI X ρ O tg e (x.cps.toList.map sgD) := λ G pins s σ H R I ⟨h1,h2,h3⟩ =>
 thn (h G pins s σ H (λ v H' => ∃ G',Ext G G' /\ SA X.K G' H' O /\ Is X.K G' (.str x) v) I ⟨h1,h2,λ v G' H' e s i => ⟨G',e,s,i⟩⟩) λ u s1 ⟨v,H1,I1,r,G1,e1,sa1,i1⟩ => by
  cases i1
  obtain ⟨t,rfl⟩ := (show ∃ t,u = Value.str x t from r)
  have fin : ∀ (ty : String),(ty = "str_ascii_iterator" \/ ty = "str_iterator") -> PIE X pins σ tg R (.ref s1.heap.objs.size) { s1 with heap := s1.heap.push { cls := .type ty,data := .fields #[.str x t,.int ((0 : Nat) : Int) 0] } } := λ ty hty =>
   ⟨s1.heap.objs.size,[s1.heap.objs.size],_,_,H1,rfl,I1.kept (t' := s1.toks) λ _ _ e => Heap.get?_push_of_some _ e,turn_signs _ x t ty hty,⟨_,Heap.get?_push_size _ rfl,rfl,rfl⟩,λ b hb => by
    have hb' : s1.heap.objs.size <= b := by cases List.mem_singleton.mp hb; exact Nat.le_refl _
    exact I1.fpOk hb' (I1.hok.fresh hb'),h3 _ G1 H1 e1 sa1 its_yields⟩
  cases ha : x.cps.all (· < 128)
  ·exact wpAny_pyIter_wide ha (fin _ (.inr rfl))
  ·exact wpAny_pyIter_ascii ha (fin _ (.inl rfl))
theorem o_addS (hz : x.length + y.length <= sizeLine) : Op2 X O (binaryOp .Add) (.str x) (.str y) (.str (x ++ y)) := .of op_add_str λ G v u H Q s h1 h2 k => by
 cases h1; cases h2; exact ⟨x,y,rfl,rfl,hz,k _ G H (Ext.refl _) s (.str _)⟩
theorem cmp_eqS : Op2 X O (compareOp .Eq) (.str x) (.str y) (.bl (x == y)) := .of op_eq λ G v u H Q s h1 h2 k => by
 cases h1; cases h2; exact ⟨rfl,by rw [dec_str]; exact k _ G H (Ext.refl _) s (.bl _)⟩
theorem cmp_neS : Op2 X O (compareOp .NotEq) (.str x) (.str y) (.bl (!(x == y))) := .of op_ne λ G v u H Q s h1 h2 k => by
 cases h1; cases h2; exact ⟨rfl,by rw [dec_str]; exact k _ G H (Ext.refl _) s (.bl _)⟩
theorem cmp_inS {c : Nat} : Op2 X O (compareOp .In) (sgD c) (.str y) (.bl (decide (c ∈ y.cps.toList))) := .of op_in_str λ G v u H Q s h1 h2 k => by
 cases h1; cases h2
 refine ⟨_,y,rfl,rfl,?_⟩
 rw [StrLaws.found_one]
 exact k _ G H (Ext.refl _) s (.bl _)
theorem c_lenS (hz : x.length <= sizeLine) : Q2p X O (.builtin "len") [.str x] (.int x.length) := .of call_len_str λ G vs H Q s is k => by
 cases is with | cons i r => cases r; cases i; exact ⟨x,rfl,hz,k _ G H (Ext.refl _) s (.int _)⟩
theorem ev_ixS {i c : Nat} (ha : EvP X ρ O a (.str x)) (hb : EvP X ρ O b (.int (i : Nat))) (hi : x.cps[i]? = some c) (hz : x.length <= sizeLine) (hs : PlainIxT b := by intro _ _; rfl) : EvP X ρ O (.Subscript a b pos) (sgD c) := λ G =>
 PE.imp (pe_item_str (ha G) (tb := λ σ H Q => ∃ G1,SA X.K G1 H O /\ EnvR X.K G1 σ ρ /\ ∀ v G' H',Ext G1 G' -> SA X.K G' H' O -> Is X.K G' (.int (i : Nat)) v -> Q v H') (λ pins s σ H Q I ⟨G1,q⟩ => hb G1 pins s σ H Q I q) hs) λ σ H Q ⟨q1,q2,q3⟩ => ⟨q1,q2,λ v G1 H1 e1 s1 i1 => ⟨G1,s1,q2.ext e1,λ w G2 H2 e2 s2 i2 => by
  cases i1; cases i2
  have hl : i < x.length := (Array.getElem?_eq_some_iff.mp hi).1
  have hn := sizeLine_eq
  exact ⟨x,_,c,rfl,rfl,by omega,by omega,by omega,hi,q3 _ G2 H2 (e1.trans e2) s2 (.str _)⟩⟩⟩
end
section
variable {X : Cx} {ρ : Rho} {O : Sto} {a b e : Expr} {pos p : Pos} {d : D} {x y sep : Str}
end
section
variable {X : Cx} {ρ : Rho} {O : Sto} {pos : Pos} {x y : Str}
theorem ev_gstr {t : Tok} (hm : X.mg x = some (.str y t)) (hg : Gl X x := by rfl) (hd : (x == ("__debug__" : Str)) = false := by decide) : EvP X ρ O (.Name x pos) (.str y) := λ G =>
 PE.imp (pe_glob (v := .str y) hg hm ⟨t,rfl⟩ hd) λ σ H Q ⟨h1,h2,h3⟩ => h3 _ G H (Ext.refl _) h1 (.str y)
end
end DL
namespace L2
open PySem PySem.Spec PyProof.Rows
section
variable {prog : Program} {w : World} {A : Around} {E : Value -> Shared -> Prop}
end
end L2
namespace DL
open PySem PySem.Spec PyProof.Rows L2
section
variable {X : Cx} {ρ ρ1 : Rho} {O : Sto} {e a b : Expr} {es : List Expr} {d da : D} {ds xs : List D} {R : D -> Sto -> Prop} {P : Post} {pos p : Pos} {x : Str} {q : Nat} {v : Value}
theorem ev_ixE {Ra : D -> Sto -> Prop} (ha : Ev X ρ O a Ra) (hb : ∀ da O1,Ra da O1 -> ∃ xs i d,da = .tup xs /\ EvP X ρ O1 b (.int i) /\ atI xs i = some d /\ R d O1) (hs : PlainIx b := by intro _ _; rfl) : Ev X ρ O (.Subscript a b pos) R := λ G pins s σ H Q I ⟨h1,h2,h3⟩ =>
 Subscript_ (binT (ta := λ σ H Q => SA X.K G H O /\ EnvR X.K G σ ρ /\ ∀ v d O' G' H',Ext G G' -> SA X.K G' H' O' -> Is X.K G' d v -> Ra d O' -> Q v H') (ha G)
  (tb := λ σ H Q => ∃ G1 O1 i,EvP X ρ O1 b (.int i) /\ SA X.K G1 H O1 /\ EnvR X.K G1 σ ρ /\ ∀ v G' H',Ext G1 G' -> SA X.K G' H' O1 -> Is X.K G' (.int i) v -> Q v H') (λ pins s σ H Q I ⟨G1,O1,i,hb,q⟩ => hb G1 pins s σ H Q I q) I
  (R := λ x y H2 => ∃ G2 O1 xs i d,Ext G G2 /\ SA X.K G2 H2 O1 /\ Is X.K G2 (.tup xs) x /\ Is X.K G2 (.int i) y /\ atI xs i = some d /\ R d O1)
  ⟨h1,h2,λ v da O1 G1 H1 e1 s1 i1 ra => by
   obtain ⟨xs,i,d,rfl,hbb,hi,hR⟩ := hb da O1 ra
   exact ⟨G1,O1,i,hbb,s1,h2.ext e1,λ u G2 H2 e2 s2 i2 => ⟨G2,O1,xs,i,d,e1.trans e2,s2,i1.ext e2,i2,hi,hR⟩⟩⟩
  λ v u s2 x y H2 I2 rx ry ⟨G2,O1,xs,i,d,e2,s2',i1,i2,hi,hR⟩ => by
   obtain ⟨p,vs,rfl,q,r⟩ := tup_sq s2' i1
   cases i2
   obtain ⟨w,hw,iw⟩ := ixN_len r hi
   exact ix_tup a b pins s2 σ H2 _ _ v u Q I2 rx ry ⟨p,vs,i,w,rfl,rfl,q,hw,h3 w d O1 G2 H2 e2 s2' iw hR⟩ (hs _ _))
end
def kD : Key -> D
 | .inl i => .int i
 | .inr x => .str x
theorem kD_v {K : PySem.W.Frag} {G : Wd} {k : Key} {v : V} (h : Is K G (kD k) v) : v = kV k := by
 cases k with
 | inl i => cases h; rfl
 | inr x => cases h; rfl
theorem kD_is (K : PySem.W.Frag) (G : Wd) (k : Key) : Is K G (kD k) (kV k) := by
 cases k with
 | inl i => exact .int i
 | inr x => exact .str x
def DV (O : Sto) (d : D) (ks : List Key) (xs : List D) : Prop := d = .dct ks xs \/ ∃ n,d = .ptr n /\ O[n]? = some (some (.dct ks xs))
theorem DV.rd {K : PySem.W.Frag} {G : Wd} {H : Hp} {O : Sto} {d : D} {v : V} {ks : List Key} {xs : List D} (h : DV O d ks xs) (s : SA K G H O) (i : Is K G d v) : ∃ p vs,v = .ref p /\ Rd H p (.dK (ks.zip vs)) /\ ks.length = vs.length /\ Iss K G xs vs := by
 rcases h with rfl | ⟨n,rfl,h⟩
 ·cases i with
  | dct h hl r => exact ⟨_,_,rfl,.inr ⟨_,s.sub _ _ h⟩,hl,r⟩
 ·cases i with
  | ptr _ ha =>
   obtain ⟨a,g0,_,vs,g1,g2,g3⟩ := s.mt n _ h
   cases Option.some.inj (ha.symm.trans g0)
   exact ⟨_,vs,rfl,.inl g1,g2,g3⟩
def atK {α : Type} (ks : List Key) (xs : List α) (k : Key) : Option α := ((ks.zip xs).find? λ p => decide (p.1 = k)).map (·.2)
theorem atK_v {K : PySem.W.Frag} {G : Wd} {k : Key} : ∀ {ks : List Key} {xs : List D} {vs : List V},Iss K G xs vs -> (∀ d,atK ks xs k = some d -> ∃ v,valV (ks.zip vs) k = some v /\ Is K G d v) /\ (atK ks xs k = none -> valV (ks.zip vs) k = none)
 | [],_,_,_ => ⟨(λ d h => by cases h),λ _ => rfl⟩
 | _ :: _,_,_,.nil => ⟨(λ d h => by cases h),λ _ => rfl⟩
 | a :: ks,_,_,.cons (d := x) (v := v) h r => by
  have ih := atK_v (k := k) (ks := ks) r
  by_cases e : a = k
  ·have e1 : ∀ (l : List D),atK (a :: ks) (x :: l) k = some x := λ l => by unfold atK; simp [List.find?_cons,e]
   have e2 : ∀ (l : List V),valV ((a :: ks).zip (v :: l)) k = some v := λ l => by unfold valV; simp [List.find?_cons,e]
   rw [e1,e2]
   exact ⟨(λ d z => by cases z; exact ⟨v,rfl,h⟩),(λ z => by cases z)⟩
  ·have e1 : ∀ (l : List D),atK (a :: ks) (x :: l) k = atK ks l k := λ l => by unfold atK; simp [List.find?_cons,e]
   have e2 : ∀ (l : List V),valV ((a :: ks).zip (v :: l)) k = valV (ks.zip l) k := λ l => by unfold valV; simp [List.find?_cons,e]
   rw [e1,e2]
   exact ih
def hasK (ks : List Key) (k : Key) : Bool := ks.any λ a => decide (a = k)
def putKs (ks : List Key) (k : Key) : List Key := if hasK ks k = true then ks else ks ++ [k]
def putXs {α : Type} (ks : List Key) (xs : List α) (k : Key) (y : α) : List α := if hasK ks k = true then (ks.zip xs).map λ p => if p.1 = k then y else p.2 else xs ++ [y]
theorem any_keys {α : Type} (k : Key) : ∀ {ks : List Key} {xs : List α},ks.length = xs.length -> ((ks.zip xs).any λ p => decide (p.1 = k)) = hasK ks k
 | [],[],_ => rfl
 | a :: ks,x :: xs,h => by
  have ih := any_keys (α := α) k (ks := ks) (xs := xs) (by simpa using h)
  unfold hasK at ih ⊢
  rw [List.zip_cons_cons,List.any_cons,List.any_cons,ih]
theorem zip_put {k : Key} {y : V} : ∀ {ks : List Key} {vs : List V},ks.length = vs.length -> putK (ks.zip vs) k y = (putKs ks k).zip (putXs ks vs k y) := λ {ks vs} h => by
 unfold putK putKs putXs
 rw [any_keys k h]
 by_cases e : hasK ks k = true
 ·rw [if_pos e,if_pos e,if_pos e]
  clear e
  induction ks generalizing vs with
  | nil => rfl
  | cons a ks ih =>
   match vs,h with
   | v :: vs,h =>
    rw [List.zip_cons_cons,List.map_cons,List.map_cons,List.zip_cons_cons,ih (by simpa using h)]
    congr 1
    split <;> rfl
 ·rw [if_neg e,if_neg e,if_neg e,List.zip_append h]
  rfl
theorem putXs_len {α : Type} {ks : List Key} {xs : List α} {k : Key} {y : α} (h : ks.length = xs.length) : (putKs ks k).length = (putXs ks xs k y).length := by
 unfold putKs putXs
 split
 ·rw [List.length_map,List.length_zip]; omega
 ·simp [h]
theorem iss_rep {K : PySem.W.Frag} {G : Wd} {k : Key} {y : D} {w : V} (hy : Is K G y w) : ∀ {ks : List Key} {xs : List D} {vs : List V},Iss K G xs vs -> Iss K G ((ks.zip xs).map λ p => if p.1 = k then y else p.2) ((ks.zip vs).map λ p => if p.1 = k then w else p.2)
 | [],_,_,_ => .nil
 | _ :: _,_,_,.nil => .nil
 | a :: ks,_,_,.cons (d := x) (v := v) h r => by
  rw [List.zip_cons_cons,List.zip_cons_cons,List.map_cons,List.map_cons]
  refine .cons ?_ (iss_rep hy r)
  show Is K G (if a = k then y else x) (if a = k then w else v)
  split
  ·exact hy
  ·exact h
theorem iss_put {K : PySem.W.Frag} {G : Wd} {k : Key} {y : D} {w : V} (hy : Is K G y w) {ks : List Key} {xs : List D} {vs : List V} (r : Iss K G xs vs) : Iss K G (putXs ks xs k y) (putXs ks vs k w) := by
 unfold putXs
 split
 ·exact iss_rep hy r
 ·exact r.append (.cons hy .nil)
theorem atK_has {K : PySem.W.Frag} {G : Wd} {k : Key} {ks : List Key} {xs : List D} {vs : List V} (r : Iss K G xs vs) : (valV (ks.zip vs) k).isSome = (atK ks xs k).isSome := by
 obtain ⟨z1,z2⟩ := atK_v (k := k) (ks := ks) r
 cases z : atK ks xs k with
 | none => rw [z2 z]; rfl
 | some d => obtain ⟨w,z3,_⟩ := z1 d z; rw [z3]; rfl
def Q3R (ks : List Key) (k : Key) : List Key := ks.filter λ a => decide (a ≠ k)
def Q2S {α : Type} (ks : List Key) (xs : List α) (k : Key) : List α := ((ks.zip xs).filter λ p => decide (p.1 ≠ k)).map (·.2)
theorem zip_pop {k : Key} : ∀ {ks : List Key} {vs : List V},ks.length = vs.length -> dropK (ks.zip vs) k = (Q3R ks k).zip (Q2S ks vs k) /\ (Q3R ks k).length = (Q2S ks vs k).length
 | [],[],_ => ⟨rfl,rfl⟩
 | a :: ks,v :: vs,h => by
  obtain ⟨i1,i2⟩ := zip_pop (k := k) (ks := ks) (vs := vs) (by simpa using h)
  unfold dropK Q3R Q2S at *
  by_cases e : a = k
  ·subst e
   simp only [List.zip_cons_cons,List.filter_cons,ne_eq,not_true_eq_false,decide_false,Bool.false_eq_true,if_false]
   exact ⟨i1,i2⟩
  ·simp only [List.zip_cons_cons,List.filter_cons,ne_eq,e,not_false_eq_true,decide_true,if_true,List.map_cons,List.length_cons]
   exact ⟨congrArg (List.cons (a,v)) i1,congrArg (· + 1) i2⟩
theorem iss_pop {K : PySem.W.Frag} {G : Wd} {k : Key} {ks : List Key} {xs : List D} {vs : List V} (r : Iss K G xs vs) : Iss K G (Q2S ks xs k) (Q2S ks vs k) := by
 unfold Q2S
 induction ks generalizing xs vs with
 | nil => exact .nil
 | cons a ks ih =>
  cases r with
  | nil => exact .nil
  | cons h r =>
   rw [List.zip_cons_cons,List.zip_cons_cons,List.filter_cons,List.filter_cons]
   by_cases e : a = k
   ·rw [if_neg (by simp [e]),if_neg (by simp [e])]; exact ih r
   ·rw [if_pos (by simp [e]),if_pos (by simp [e])]; exact .cons h (ih r)
section
variable {X : Cx} {ρ : Rho} {O : Sto} {e a b c : Expr} {d da db y : D} {ks : List Key} {xs : List D} {k : Key} {j q : Nat} {R : D -> Sto -> Prop} {P : Post} {pos apos cpos tpos : Pos}
theorem ev_dctM (h : R (.ptr O.length) (O ++ [some (.dct [] [])])) : Ev X ρ O (.Dict [] [] pos) R := λ G => PE.imp pe_dnewK λ σ H Q ⟨h1,h2,h3⟩ p hp => by
 obtain ⟨e2,s2⟩ := h1.new (o := .dK []) (m := .dct [] []) hp ⟨[],Q0h,rfl,.nil⟩
 exact h3 _ _ _ _ _ e2 s2 (.ptr _ (by rw [<- h1.len,List.getElem?_append_right (Nat.le_refl _),Nat.sub_self]; rfl)) h
theorem cmp_inK (hr : Room j X.A) (hd : DV O db ks xs) : Op2 X O (compareOp .In) (kD k) db (.bl (atK ks xs k).isSome) := λ G pins s σ H x y v u Q I rx ry ⟨h1,h2,h3,h4⟩ => by
 obtain ⟨p,vs,rfl,g1,g2,g3⟩ := hd.rd h1 h3
 obtain rfl := kD_v h2
 cases ry
 have hu := hr.units
 refine d_in (by omega) I (.inl ⟨_,k,g1,rfl,rfl⟩) rx λ s' I' => ⟨.bl _,H,I',rfl,?_⟩
 rw [atK_has g3]
 exact h4 _ G H (Ext.refl _) h1 (.bl _)
theorem cmp_niK (hr : Room j X.A) (hd : DV O db ks xs) : Op2 X O (compareOp .NotIn) (kD k) db (.bl (!(atK ks xs k).isSome)) := λ G pins s σ H x y v u Q I rx ry ⟨h1,h2,h3,h4⟩ => by
 obtain ⟨p,vs,rfl,g1,g2,g3⟩ := hd.rd h1 h3
 obtain rfl := kD_v h2
 cases ry
 have hu := hr.units
 refine d_notIn (by omega) I (.inl ⟨_,k,g1,rfl,rfl⟩) rx λ s' I' => ⟨.bl _,H,I',rfl,?_⟩
 rw [atK_has g3]
 exact h4 _ G H (Ext.refl _) h1 (.bl _)
theorem ev_dgetK (hr : Room j X.A) (ha : EvP X ρ O a da) (hd : DV O da ks xs) (hb : EvP X ρ O b (kD k)) (hk : atK ks xs k = some d) (hs : NoSl b := by intro _ _; rfl) : EvP X ρ O (.Subscript a b pos) d := λ G =>
 PE.imp (pe_dget (by have := hr.units; omega) (ha G) (ty := λ σ H Q => ∃ G1,SA X.K G1 H O /\ EnvR X.K G1 σ ρ /\ ∀ v G' H',Ext G1 G' -> SA X.K G' H' O -> Is X.K G' (kD k) v -> Q v H') (λ pins s σ H Q I ⟨G1,q⟩ => hb G1 pins s σ H Q I q) hs) λ σ H Q ⟨h1,h2,h3⟩ =>
  ⟨h1,h2,λ v G1 H1 e1 s1 i1 => ⟨G1,s1,h2.ext e1,λ u G2 H2 e2 s2 i2 => by
   obtain ⟨p,vs,rfl,g1,g2,g3⟩ := hd.rd s2 (i1.ext e2)
   obtain rfl := kD_v i2
   obtain ⟨w,z1,z2⟩ := (atK_v (k := k) (ks := ks) g3).1 d hk
   exact ⟨p,w,rfl,.inl ⟨_,k,g1,rfl,z1.symm⟩,h3 w G2 H2 (e1.trans e2) s2 z2⟩⟩⟩
theorem ev_dget1K (hr : Room j X.A) (ha : EvP X ρ O a da) (hd : DV O da ks xs) (hb : EvP X ρ O b (kD k)) (m : M1 X a "get" apos b cpos := by exact ⟨rfl,rfl,rfl,rfl⟩) : EvP X ρ O (.Call (.Attribute a "get" apos) [b] [] cpos) ((atK ks xs k).getD .non) := λ G =>
 PE.imp (pe_dget1 (by have := hr.units; omega) (ha G) (ty := λ σ H Q => ∃ G1,SA X.K G1 H O /\ EnvR X.K G1 σ ρ /\ ∀ v G' H',Ext G1 G' -> SA X.K G' H' O -> Is X.K G' (kD k) v -> Q v H') (λ pins s σ H Q I ⟨G1,q⟩ => hb G1 pins s σ H Q I q) m) λ σ H Q ⟨h1,h2,h3⟩ =>
  ⟨h1,h2,λ v G1 H1 e1 s1 i1 => by
   obtain ⟨p,vs,rfl,g1,g2,g3⟩ := hd.rd s1 i1
   refine ⟨p,rfl,.inl ⟨_,g1⟩,G1,s1,h2.ext e1,λ u G2 H2 e2 s2 i2 => ?_⟩
   obtain ⟨p',vs',e',g1,g2,g3⟩ := hd.rd s2 (i1.ext e2)
   cases e'
   obtain rfl := kD_v i2
   refine ⟨_,.inl ⟨_,k,g1,rfl,rfl⟩,?_⟩
   obtain ⟨z1,z2⟩ := atK_v (k := k) (ks := ks) g3
   cases z : atK ks xs k with
   | none => rw [z2 z]; exact h3 _ G2 H2 (e1.trans e2) s2 (by rw [z]; exact .non)
   | some d => obtain ⟨w,z3,z4⟩ := z1 d z; rw [z3]; exact h3 _ G2 H2 (e1.trans e2) s2 (by rw [z]; exact z4)⟩
theorem x_dput (hr : Room j X.A) (hv : EvP X ρ O e y) (ha : EvP X ρ O a (.ptr q)) (hq : O[q]? = some (some (.dct ks xs))) (hb : EvP X ρ O b (kD k)) (hz : ks.length < sizeLine) (h : P.nx ρ (O.set q (some (.dct (putKs ks k) (putXs ks xs k y)))))
  (hs : swapsWith e (some (.Subscript a b tpos)) pos.line X.env = pure false := by rfl) : Ex X ρ O (.Assign [.Subscript a b tpos] e pos) P := λ G =>
 PS.imp (ps_dput (by have := hr.units; omega) (td := λ σ H Q => ∃ G1,SA X.K G1 H O /\ EnvR X.K G1 σ ρ /\ ∀ v G' H',Ext G1 G' -> SA X.K G' H' O -> Is X.K G' (.ptr q) v -> Q v H') (λ pins s σ H Q I ⟨G1,z⟩ => ha G1 pins s σ H Q I z)
  (ty := λ σ H Q => ∃ G1,SA X.K G1 H O /\ EnvR X.K G1 σ ρ /\ ∀ v G' H',Ext G1 G' -> SA X.K G' H' O -> Is X.K G' (kD k) v -> Q v H') (λ pins s σ H Q I ⟨G1,z⟩ => hb G1 pins s σ H Q I z) (hv G) hs) λ E σ H ⟨q1,q2,q3⟩ =>
  ⟨q1,q2,λ v G1 H1 e1 s1 i1 => ⟨G1,s1,q2.ext e1,λ u G2 H2 e2 s2 i2 => ⟨G2,s2,q2.ext (e1.trans e2),λ t G3 H3 e3 s3 i3 => by
   cases i2 with
   | ptr _ ha2 =>
   obtain ⟨a3,g0,g1,vs,g2,g4,g5⟩ := s3.mt q _ hq
   cases Option.some.inj ((e3.at ha2).symm.trans g0)
   obtain rfl := kD_v i3
   refine ⟨_,_,rfl,.k g2 (by rw [List.length_zip]; omega),?_⟩
   rw [zip_put g4]
   exact q3.nx σ ρ _ G3 _ (e1.trans (e2.trans e3)) (s3.put (m' := .dct _ _) hq g0 ⟨_,Q0h,putXs_len g4,iss_put (i1.ext (e2.trans e3)) g5⟩) (q2.ext (e1.trans (e2.trans e3))) h⟩⟩⟩
theorem x_dpop (ha : EvP X ρ O a (.ptr q)) (hq : O[q]? = some (some (.dct ks xs))) (hb : EvP X ρ O b (kD k)) (hk : atK ks xs k = some y) (h : P.nx ρ (O.set q (some (.dct (Q3R ks k) (Q2S ks xs k)))))
  (m : M1 X a "pop" apos b cpos := by exact ⟨rfl,rfl,rfl,rfl⟩) (hsw : swapsWith (.Call (.Attribute a "pop" apos) [b] [] cpos) none pos.line X.env = pure false := by rfl) : Ex X ρ O (.Expr (.Call (.Attribute a "pop" apos) [b] [] cpos) pos) P := λ G =>
 PS.imp (Q3z (pe_dpop1 (ha G) (ty := λ σ H Q => ∃ G1,SA X.K G1 H O /\ EnvR X.K G1 σ ρ /\ ∀ v G' H',Ext G1 G' -> SA X.K G' H' O -> Is X.K G' (kD k) v -> Q v H') (λ pins s σ H Q I ⟨G1,z⟩ => hb G1 pins s σ H Q I z) m) hsw) λ E σ H ⟨q1,q2,q3⟩ =>
  ⟨q1,q2,λ v G1 H1 e1 s1 i1 => by
   cases i1 with
   | ptr _ ha1 =>
   obtain ⟨a2,g0,g1,vs,g2,g4,g5⟩ := s1.mt q _ hq
   cases Option.some.inj (ha1.symm.trans g0)
   refine ⟨_,rfl,.inl ⟨_,.inl g2⟩,G1,s1,q2.ext e1,λ u G2 H2 e2 s2 i2 => ?_⟩
   obtain ⟨a3,f0,f1,vs',f2,f4,f5⟩ := s2.mt q _ hq
   cases Option.some.inj ((e2.at g0).symm.trans f0)
   obtain rfl := kD_v i2
   obtain ⟨w,z1,z2⟩ := (atK_v (k := k) (ks := ks) f5).1 y hk
   refine ⟨_,k,w,f2,rfl,z1,?_⟩
   obtain ⟨p1,p2⟩ := zip_pop (k := k) f4
   rw [p1]
   exact q3.nx σ ρ _ G2 _ (e1.trans e2) (s2.put (m' := .dct _ _) hq f0 ⟨_,Q0h,p2,iss_pop f5⟩) (q2.ext (e1.trans e2)) h⟩
theorem ev_dcopy {p : Pos} (hm : X.mg "dict" = none) (ha : EvP X ρ O a da) (hd : DV O da ks xs) (h : R (.ptr O.length) (O ++ [some (.dct ks xs)])) (hg : Gl X "dict" := by rfl) (he : starEach [a] X.env = [(false,eval a X.env)] := by rfl) (hpl : (backTo pos (starEach [] X.env)).any (·.1) = false := by rfl) :
  Ev X ρ O (.Call (.Name "dict" p) [a] [] pos) R := λ G =>
 PE.imp (pe_callTy (T := "dict") (r := λ vs H Q => ∃ p' kvs,vs = [.ref p'] /\ Rd H p' (.dK kvs) /\ ∀ l,H l = none -> Q (.ref l) (upd H l (.dK kvs))) (λ pins s σ H vs us Q I r ⟨p',kvs,ev,g,z⟩ => by
   subst ev
   obtain ⟨u,rfl,ru⟩ := r.one
   cases ru
   exact d_copyOf I g λ l s' hl I' => ⟨.ref l,_,I',rfl,z l hl⟩) hg hm (by first | rfl | decide +kernel) (Q0a ha Q0e he G) (by decide) (by decide) he hpl) λ σ H Q ⟨q1,q2,q3⟩ => ⟨q1,q2,λ vs G1 H1 e1 s1 i1 => by
   cases i1 with
   | cons i1 r1 =>
   cases r1
   obtain ⟨p',vs,rfl,g1,g2,g3⟩ := hd.rd s1 i1
   refine ⟨p',_,rfl,g1,λ l hl => ?_⟩
   have e0 : Ext G1 ⟨G1.g,G1.l ++ [l]⟩ := ⟨Same.refl _,[l],rfl⟩
   obtain ⟨e2,s2⟩ := s1.new (o := .dK (ks.zip vs)) (m := .dct ks xs) hl ⟨vs,Q0h,g2,g3.ext e0⟩
   exact q3 _ _ _ _ _ (e1.trans e2) s2 (.ptr _ (by rw [<- s1.len,List.getElem?_append_right (Nat.le_refl _),Nat.sub_self]; rfl)) h⟩
end
theorem key_rel {P : Program} {w : World} {k : Key} {v : Value} (h : (Q0u P w).is k v = true) : RelV (kV k) v := by
 rcases Q0L h with ⟨i,t,rfl,rfl⟩ | ⟨x,t,rfl,rfl⟩
 ·exact ⟨t,rfl⟩
 ·exact ⟨t,rfl⟩
def Itk (a : Addr) (ob : Obj) (kvs : List (Key × V)) : It := ⟨λ i H => H a = some (.frz ob (.dK kvs)) /\ i < kvs.length,λ i H x H' => H' = H /\ ∃ k v,kvs[i]? = some (k,v) /\ x = kV k,λ i H => H a = some (.frz ob (.dK kvs)) /\ kvs.length <= i⟩
theorem frz_at {X : Cx} {pins : List (Addr × Obj)} {σ : L2.St} {H : Hp} {s : Shared} {a : Addr} {ob : Obj} {kvs : List (Key × V)} {es : Array DictEntry} {ep : Nat} (I : L2.Inv X pins σ H s) (hH : H a = some (.frz ob (.dK kvs))) (he : ob.data = .dict es ep) :
  (a == sysModules) = false /\ ∃ vs,KV kvs vs /\ s.heap.DictAt (Q0u X.prog X.w) a vs ep := by
 obtain ⟨h0,_,hd,vs,rel,o,es',ep',g,g1,g2,g3⟩ := (show Q1n X.prog X.w H s.heap a (.frz ob (.dK kvs)) from I.hok a _ hH)
 cases Option.some.inj (h0.symm.trans g)
 rw [he] at g2
 cases g2
 exact ⟨hd,vs,rel,ob,es,h0,g1,he,g3⟩
theorem kv_get {kvs : List (Key × V)} {vs : List (Key × Value)} (r : KV kvs vs) {i : Nat} {k : Key} {v : V} (h : kvs[i]? = some (k,v)) : ∃ u,vs[i]? = some (k,u) /\ RelV v u := by
 induction kvs generalizing vs i with
 | nil => cases h
 | cons p kvs ih =>
  cases r with
  | cons q r =>
   cases i with
   | zero =>
    cases Option.some.inj h
    rename_i qv qs
    obtain ⟨qk,qu⟩ := qv
    obtain ⟨q1,q2⟩ := q
    have q1 : k = qk := q1
    subst q1
    exact ⟨qu,rfl,q2⟩
   | succ i => exact ih r (by simpa using h)
theorem turn_keys {P : Program} {w : World} {K : PySem.W.Frag} {tg : Expr} (a it : Addr) (ob : Obj) (kvs : List (Key × V)) (es : Array DictEntry) (ep : Nat) (he : ob.data = .dict es ep) : Turn P w K tg (Itk a ob kvs) [it] it (λ i h => h.IsKeyIter it a i kvs.length ep) where
 mem := by simp
 obj := λ i h st b hb => by
  have e : b = it := by simpa using hb
  subst e
  obtain ⟨o,e,c,d⟩ := st
  exact ⟨o,e,λ v z => by rw [d] at z; cases z⟩
 keep := λ i h h' st k => let ⟨o,ho,r⟩ := st; ⟨o,k it (by simp) o ho,r⟩
 item := by
  intro X hP hw hK hc i pins s σ H E I hf st ⟨hH,hi⟩
  subst hP hw hK
  obtain ⟨hd,vs,rel,at_⟩ := frz_at I hH he
  have hx : kvs[i]? = some (kvs[i].1,kvs[i].2) := List.getElem?_eq_getElem hi
  obtain ⟨u,hu,_⟩ := kv_get rel hx
  have hl : kvs.length = vs.length := rel.length
  refine wpAny_pyNext_dict_item (hl ▸ st) at_ hu λ key h' hk st' sb => ?_
  have I1 : L2.Inv X pins σ H { s with heap := h',toks := s.toks } := Q1B I hf λ c o hc e => (sb.2 c (λ z => hc (by simp [z]))).trans e
  obtain ⟨o,e1,c1,d1⟩ := id st'
  exact ⟨key,rfl,go_of (s := { s with heap := h' }) e1 c1 d1 (by decide) ⟨kV kvs[i].1,H,I1,key_rel hk,⟨rfl,_,_,hx,rfl⟩,hl ▸ st',λ b hb => (hf b hb).1⟩⟩
 done := by
  intro X hP hw hK hc i pins s σ H E I hf st ⟨hH,hi⟩
  subst hP hw hK
  obtain ⟨hd,vs,rel,at_⟩ := frz_at I hH he
  have hl : kvs.length = vs.length := rel.length
  exact wpAny_pyNext_dict_end (I.ok.hd hc) (hl ▸ st) at_ (List.getElem?_eq_none (by omega)) λ h' eb => ⟨rfl,Q1B (t' := s.toks) I hf λ c o hc e => eb c o (λ z => hc (by simp [z])) e⟩
 self := λ _ _ _ _ _ st h => wpAny_pyIter_keyiter st h
section
variable {X : Cx} {ρ : Rho} {O : Sto} {a b e : Expr} {pos p : Pos} {d : D} {ks : List Key} {xs : List D}
theorem itk_yields {K : PySem.W.Frag} {G : Wd} {a : Addr} {ob : Obj} {vs : List V} (h : G.g a = some (.frz ob (.dK (ks.zip vs)))) (hl : ks.length = vs.length) : Q2c K G (Itk a ob (ks.zip vs)) (ks.map kD) where
 go := λ i H e hi => ⟨e _ _ h,by rw [List.length_zip]; rw [List.length_map] at hi; omega⟩
 stop := λ i H e hi => ⟨e _ _ h,by rw [List.length_zip]; rw [List.length_map] at hi; omega⟩
 yld := λ i v H H' G2 O2 e s y hi => by
  obtain ⟨rfl,k,u,hk,rfl⟩ := y
  have z : ks[i]? = some k := by
   rw [List.length_map] at hi
   rw [List.getElem?_eq_getElem (by rw [List.length_zip]; omega),List.getElem_zip] at hk
   cases Option.some.inj hk
   exact List.getElem?_eq_getElem hi
  exact ⟨kD k,G2,by rw [List.getElem?_map,z]; rfl,Ext.refl _,s,kD_is K G2 k⟩
theorem ei_dct {tg : Expr} (h : EvP X ρ O e (.dct ks xs)) : EvI X ρ O tg e (ks.map kD) := λ G pins s σ H R I ⟨h1,h2,h3⟩ =>
 thn (h G pins s σ H (λ v H' => ∃ G',Ext G G' /\ SA X.K G' H' O /\ Is X.K G' (.dct ks xs) v) I ⟨h1,h2,λ v G' H' e s i => ⟨G',e,s,i⟩⟩) λ u s1 ⟨v,H1,I1,r,G1,e1,sa1,i1⟩ => by
  cases i1 with
  | @dct a _ _ vs ob g hl rs =>
  cases r
  have hH := sa1.sub _ _ g
  obtain ⟨h0,_,hd,us,rel,o,es,ep,g0,g1,g2,g3⟩ := (show Q1n X.prog X.w H1 s1.heap a (.frz ob (.dK (ks.zip vs))) from I1.hok a _ hH)
  cases Option.some.inj (h0.symm.trans g0)
  have hlen : (ks.zip vs).length = us.length := rel.length
  refine wpAny_pyIter_dict (knd := Q0u X.prog X.w) hd (⟨ob,es,h0,g1,g2,g3⟩ : s1.heap.DictAt _ a us ep) ?_
  exact ⟨s1.heap.objs.size,[s1.heap.objs.size],_,_,H1,rfl,I1.kept (t' := s1.toks) λ _ _ e => Heap.get?_push_of_some _ e,turn_keys a _ ob (ks.zip vs) es ep g2,⟨_,Heap.get?_push_size _ rfl,rfl,by rw [hlen]; rfl⟩,λ b hb => by
   have hb' : s1.heap.objs.size <= b := by cases List.mem_singleton.mp hb; exact Nat.le_refl _
   exact I1.fpOk hb' (I1.hok.fresh hb'),h3 _ G1 H1 e1 sa1 (itk_yields g hl)⟩
end
theorem entry_itit : entryFor table "dict_itemiterator.__iter__" = some Builtin.«dict_keyiterator.__iter__» :=
 entryFor_alias (id' := "dict_keyiterator.__iter__") (by kernel_rfl) rfl (by decide +kernel) (by kernel_rfl)
def Iti (a : Addr) (ob : Obj) (kvs : List (Key × V)) : It := ⟨λ i H => H a = some (.frz ob (.dK kvs)) /\ i < kvs.length,λ i H x H' => ∃ T k v,H T = none /\ kvs[i]? = some (k,v) /\ H' = upd H T (.tup [kV k,v]) /\ x = .ref T,λ i H => H a = some (.frz ob (.dK kvs)) /\ kvs.length <= i⟩
theorem turn_items {P : Program} {w : World} {K : PySem.W.Frag} {elts : List Expr} {x1 : Nat} {tp : Pos} (a it : Addr) (ob : Obj) (kvs : List (Key × V)) (es : Array DictEntry) (ep : Nat) (he : ob.data = .dict es ep) :
  Turn P w K (.Tuple elts x1 tp) (Iti a ob kvs) [it] it (λ i h => ∃ ok ov,IsItemIter h it a i kvs.length ep ok ov) where
 mem := by simp
 obj := λ i h st b hb => by
  have e : b = it := by simpa using hb
  subst e
  obtain ⟨ok,ov,e⟩ := st
  exact ⟨_,e,λ v z => by cases z⟩
 keep := λ i h h' st k => let ⟨ok,ov,e⟩ := st; ⟨ok,ov,k it (by simp) _ e⟩
 item := by
  intro X hP hw hK hc i pins s σ H E I hf st ⟨hH,hi⟩
  subst hP hw hK
  obtain ⟨ok,ov,st⟩ := st
  obtain ⟨hd,vs,rel,at_⟩ := frz_at I hH he
  have hx : kvs[i]? = some (kvs[i].1,kvs[i].2) := List.getElem?_eq_getElem hi
  obtain ⟨u,hu,ru⟩ := kv_get rel hx
  have hl : kvs.length = vs.length := rel.length
  have hTn : s.heap.objs.size ≠ it := λ z => Nat.lt_irrefl _ (by have := Heap.lt_size st; rw [<- z] at this; exact this)
  refine wpAny_pyNext_items_item (hl ▸ st) at_ hu λ key h1 hk out tup sz keep => ⟨_,rfl,wpAny_letOwnedTupleGo_items (s := { s with heap := h1 }) out λ h2 hit2 sb2 => ?_⟩
  have Iz : L2.Inv X pins σ H { s with heap := h2,toks := s.toks } := Q1B I hf λ c o hc e => (sb2.2 c (λ z => hc (by simp [z]))).trans (keep c o (λ z => hc (by simp [z])) e)
  have fr : H s.heap.objs.size = none := I.hok.fresh (Nat.le_refl _)
  refine ⟨.ref s.heap.objs.size,upd H s.heap.objs.size (.tup [kV kvs[i].1,kvs[i].2]),?_,rfl,⟨_,_,_,fr,hx,rfl,rfl⟩,⟨key,u,hl ▸ hit2⟩,λ c hb => ?_⟩
  ·refine Inv_track Iz (I.fpOk (Nat.le_refl _) fr) I.sz ⟨show 2 <= sizeLine by decide,[key,u],.cons (key_rel hk) (.cons ru .nil),?_⟩
   exact ⟨_,(sb2.2 _ hTn).trans tup,rfl,rfl,_,rfl⟩
  ·have e : c = it := by simpa using hb
   rw [e,Q0i (Ne.symm hTn)]
   exact (hf it (by simp)).1
 done := by
  intro X hP hw hK hc i pins s σ H E I hf st ⟨hH,hi⟩
  subst hP hw hK
  obtain ⟨ok,ov,st⟩ := st
  obtain ⟨hd,vs,rel,at_⟩ := frz_at I hH he
  have hl : kvs.length = vs.length := rel.length
  exact wpAny_pyNext_items_end (I.ok.hd hc) (hl ▸ st) at_ (List.getElem?_eq_none (by omega)) λ h' eb => ⟨rfl,Q1B (t' := s.toks) I hf λ c o hc e => eb c o (λ z => hc (by simp [z])) e⟩
 self := λ A i s Q E st h => by
  obtain ⟨ok,ov,st⟩ := st
  exact own_iter ⟨_,st,rfl⟩ F.slot_dict_itemiterator_iter entry_itit (F.args_dict_itemiterator_iter_1 _) F.slot_dict_itemiterator_next (wpAny_pure ⟨rfl,rfl⟩) h
section
variable {X : Cx} {ρ : Rho} {O : Sto} {a b e : Expr} {elts : List Expr} {x1 : Nat} {pos p tp apos cpos : Pos} {d : D} {ks : List Key} {xs : List D}
theorem iti_yields {K : PySem.W.Frag} {G : Wd} {a : Addr} {ob : Obj} {vs : List V} (h : G.g a = some (.frz ob (.dK (ks.zip vs)))) (hl : ks.length = vs.length) (r : Iss K G xs vs) : Q2c K G (Iti a ob (ks.zip vs)) ((ks.zip xs).map λ p => .tup [kD p.1,p.2]) where
 go := λ i H e hi => ⟨e _ _ h,by have := r.length; rw [List.length_map,List.length_zip] at hi; rw [List.length_zip]; omega⟩
 stop := λ i H e hi => ⟨e _ _ h,by have := r.length; rw [List.length_map,List.length_zip] at hi; rw [List.length_zip]; omega⟩
 yld := λ i v H H' G2 O2 e s y hi => by
  obtain ⟨T,k,u,hT,hk,rfl,rfl⟩ := y
  have hrl := r.length
  rw [List.length_map,List.length_zip] at hi
  have hz : ks[i]? = some k /\ vs[i]? = some u := by
   rw [List.getElem?_eq_getElem (by rw [List.length_zip]; omega),List.getElem_zip] at hk
   cases Option.some.inj hk
   exact ⟨List.getElem?_eq_getElem (by omega),List.getElem?_eq_getElem (by omega)⟩
  obtain ⟨x,hx,ix⟩ := r.getV hz.2
  obtain ⟨e3,s3⟩ := s.laid (o := .tup [kV k,u]) hT
  refine ⟨.tup [kD k,x],_,?_,e3,s3,.tup (SqT.of Q0h) (.cons (kD_is _ _ k) (.cons (ix.ext (e.trans e3)) .nil))⟩
  have z2 : (ks.zip xs)[i]? = some (k,x) := by
   rw [List.getElem?_eq_getElem (by rw [List.length_zip]; omega),List.getElem_zip]
   rw [List.getElem?_eq_getElem (by omega)] at hz hx
   have := hz.1
   rw [Option.some.inj hz.1,Option.some.inj hx]
  rw [List.getElem?_map,z2]; rfl
theorem ei_items (h : EvP X ρ O a (.dct ks xs)) (hbase : attributeBase a ("items" : Str) X.env (eval a X.env) = eval a X.env := by rfl) (hline : (apos.endLine == cpos.line) = true := by rfl) :
  EvI X ρ O (.Tuple elts x1 tp) (.Call (.Attribute a ("items" : Str) apos) [] [] cpos) ((ks.zip xs).map λ p => .tup [kD p.1,p.2]) := λ G pins s σ H R I ⟨h1,h2,h3⟩ => by
 refine wpAny_Call_method0_late hbase hline (thn (h G pins s σ H (λ v H' => ∃ G',Ext G G' /\ SA X.K G' H' O /\ Is X.K G' (.dct ks xs) v) I ⟨h1,h2,λ v G' H' e s i => ⟨G',e,s,i⟩⟩) λ u s1 ⟨v,H1,I1,r,G1,e1,sa1,i1⟩ => ?_)
 cases i1 with
 | @dct a _ _ vs ob g hl rs =>
 cases r
 have hH := sa1.sub _ _ g
 obtain ⟨h0,_,hd,us,rel,o,es,ep,g0,g1,g2,g3⟩ := (show Q1n X.prog X.w H1 s1.heap a (.frz ob (.dK (ks.zip vs))) from I1.hok a _ hH)
 cases Option.some.inj (h0.symm.trans g0)
 have at_ : s1.heap.DictAt (Q0u X.prog X.w) a us ep := ⟨ob,es,h0,g1,g2,g3⟩
 have hlen : (ks.zip vs).length = us.length := rel.length
 refine ⟨"dict","dict.items",PySem.F.plainAttrs_dict,PySem.F.slot_dict_items,PySem.F.type_dict_items,at_.dictOf.typeIs,λ b q => by cases q; exact ⟨ob,h0,g1.2.1⟩,Calls.callWith_builtin rfl (PySem.evalArgs_none ?_)⟩
 refine call_meetsIn PySem.F.slot_dict_items at_.dictOf.typeIs PySem.F.entry_dict_items (PySem.F.args_dict_items_1 _) (meets_dict_items (Q0u X.prog X.w) a hd) ⟨⟨_,at_.dictOf⟩,?_⟩
 have I2 := I1.kept (t' := s1.toks) (h' := s1.heap.push { cls := .type "dict_items",data := .fields #[.ref a] }) λ _ _ e => Heap.get?_push_of_some _ e
 refine wpAny_pyIter_items (knd := Q0u X.prog X.w) ⟨_,Heap.get?_push_size _ rfl,rfl,rfl⟩ (at_.push _) ?_
 exact ⟨_,[_],_,_,H1,rfl,I2.kept (t' := s1.toks) λ _ _ e => Heap.get?_push_of_some _ e,turn_items a _ ob (ks.zip vs) es ep g2,⟨.none,.none,by rw [hlen]; exact Heap.get?_push_size _ rfl⟩,λ b hb => by
  cases List.mem_singleton.mp hb
  exact I2.fpOk (Nat.le_refl _) (I2.hok.fresh (Nat.le_refl _)),h3 _ G1 H1 e1 sa1 (iti_yields g hl rs)⟩
end
theorem Inv_reword {X : Cx} {pins : List (Addr × Obj)} {σ : L2.St} {H : Hp} {s : Shared} {p : Addr} {u o : HO} (I : L2.Inv X pins σ H s) (h : H p = some u) (n1 : ∀ xs,u ≠ .tup xs) (n2 : ∀ y,u ≠ .own y) (n3 : ∀ ps,u ≠ .tbl ps) (n4 : ∀ ob u',X.H₀ p ≠ some (.frz ob u')) (n5 : ∀ xs,X.H₀ p ≠ some (.tup xs)) (n6 : ∀ ps,X.H₀ p ≠ some (.tbl ps))
  (ok : ∀ H',Q1n X.prog X.w H' s.heap p o) : L2.Inv X pins σ (upd H p o) s := by
 have ne : ∀ b,H b = none -> b ≠ p := λ b z e => by rw [e,h] at z; cases z
 refine ⟨I.ok,I.os,I.bare,⟨I.base.keep,I.base.slot,λ b ob q n hb => ?_,I.base.there,λ b xs q => ?_,λ b ob u' q => ?_,λ b ps q => ?_⟩,I.loc,I.cell,by rw [Q0i (ne _ I.free)]; exact I.free,λ x c q => by rw [Q0i (ne _ (I.freeC x c q))]; exact I.freeC x c q,λ q hq => ?_,λ b v q => ?_,I.len⟩
 ·have z := I.base.free b ob q n hb
  rw [Q0i (ne _ z)]; exact z
 ·rw [Q0i (λ e => n5 xs (by rw [<- e]; exact q))]; exact I.base.tups b xs q
 ·rw [Q0i (λ e => n4 ob u' (by rw [<- e]; exact q))]; exact I.base.frzs b ob u' q
 ·rw [Q0i (λ e => n6 ps (by rw [<- e]; exact q))]; exact I.base.tbls b ps q
 ·obtain ⟨q1,q2,q3⟩ := I.pin q hq
  exact ⟨q1,by rw [Q0i (ne _ q2)]; exact q2,q3⟩
 ·by_cases e : b = p
  ·subst e
   rw [Q0h] at q
   cases q
   exact ok _
  ·rw [Q0i e] at q
   exact (I.hok b v q).stay (λ c w _ r => r) (λ c r => by rw [Q0i (λ e => n2 _ (Option.some.inj (h.symm.trans (e ▸ r))))]; exact r) λ c xs r => by rw [Q0i (λ e => n1 _ (Option.some.inj (h.symm.trans (e ▸ r))))]; exact r
theorem dk_none {X : Cx} {pins : List (Addr × Obj)} {σ : L2.St} {H : Hp} {s : Shared} {p : Addr} {kvs : List (Key × V)} (I : L2.Inv X pins σ H s) (h : H p = some (.dK kvs)) : (∀ ob u',X.H₀ p ≠ some (.frz ob u')) /\ (∀ xs,X.H₀ p ≠ some (.tup xs)) /\ ∀ ps,X.H₀ p ≠ some (.tbl ps) :=
 ⟨(λ ob u' z => by have := I.base.frzs _ _ _ z; rw [h] at this; cases this),(λ xs z => by have := I.base.tups _ _ z; rw [h] at this; cases this),(λ ps z => by obtain ⟨m,this⟩ := I.base.tbls _ _ z; rw [h] at this; cases this)⟩
theorem Inv_frz {X : Cx} {pins : List (Addr × Obj)} {σ : L2.St} {H : Hp} {s : Shared} {p : Addr} {kvs : List (Key × V)} (I : L2.Inv X pins σ H s) (h : H p = some (.dK kvs)) : ∃ ob,L2.Inv X pins σ (upd H p (.frz ob (.dK kvs))) s := by
 obtain ⟨z,y,vs,r,ob,es,ep,e,c⟩ := (show Q1n X.prog X.w H s.heap p (.dK kvs) from I.hok p _ h)
 obtain ⟨a1,a2,a3⟩ := dk_none I h
 exact ⟨ob,Inv_reword I h (by intro _ z; cases z) (by intro _ z; cases z) (by intro _ z; cases z) a1 a2 a3 λ H' => ⟨e,z,y,vs,r,ob,es,ep,e,c⟩⟩
theorem SA.frzD {K : PySem.W.Frag} {G : Wd} {H : Hp} {O : Sto} {n : Nat} {ks : List Key} {xs : List D} (s : SA K G H O) (h : O[n]? = some (some (.dct ks xs))) : ∃ p vs,G.l[n]? = some p /\ H p = some (.dK (ks.zip vs)) /\ ks.length = vs.length /\ Iss K G xs vs /\
  ∀ ob,Ext G ⟨upd G.g p (.frz ob (.dK (ks.zip vs))),G.l⟩ /\ SA K ⟨upd G.g p (.frz ob (.dK (ks.zip vs))),G.l⟩ (upd H p (.frz ob (.dK (ks.zip vs)))) (O.set n none) /\ Is K ⟨upd G.g p (.frz ob (.dK (ks.zip vs))),G.l⟩ (.dct ks xs) (.ref p) := by
 obtain ⟨p,hp,g,vs,h1,hl,r⟩ := s.mt n _ h
 refine ⟨p,vs,hp,h1,hl,r,λ ob => ?_⟩
 have e : Ext G ⟨upd G.g p (.frz ob (.dK (ks.zip vs))),G.l⟩ := ⟨Q2e g,[],(List.append_nil _).symm⟩
 refine ⟨e,⟨λ b u q => ?_,by simp [s.len],s.nd,λ b hb => ?_,λ k m hq => ?_⟩,.dct Q0h hl (r.ext e)⟩
 ·by_cases hb : b = p
  ·subst hb
   have q : upd G.g b _ b = some u := q
   rw [Q0h] at q ⊢; exact q
  ·have q : upd G.g p _ b = some u := q
   rw [Q0i hb] at q ⊢; exact s.sub b u q
 ·by_cases hb' : b = p
  ·subst hb'; exact ⟨_,Q0h⟩
  ·obtain ⟨u,q⟩ := s.liv b hb; exact ⟨u,by rw [Q0i hb']; exact q⟩
 ·by_cases hkn : n = k
  ·subst hkn
   rw [List.getElem?_set_self (List.getElem?_eq_some_iff.mp h).1] at hq
   cases hq
  ·rw [List.getElem?_set_ne hkn] at hq
   obtain ⟨b,g1,g2,g3⟩ := s.mt k m hq
   have ne : b ≠ p := by
    rintro rfl
    exact hkn ((List.getElem?_inj (List.getElem?_eq_some_iff.mp hp).1 s.nd).mp (hp.trans g1.symm))
   exact ⟨b,g1,by show upd G.g p _ b = none; rw [Q0i ne]; exact g2,g3.ext e (Q0i ne)⟩
theorem SA.word {K : PySem.W.Frag} {G : Wd} {H : Hp} {O : Sto} {n : Nat} {m m' : MO} (s : SA K G H O) (h : O[n]? = some (some m)) (r : ∀ p,G.l[n]? = some p -> MOk K G H p m -> MOk K G H p m') : SA K G H (O.set n (some m')) := by
 refine ⟨s.sub,by rw [List.length_set]; exact s.len,s.nd,s.liv,λ k m2 hk => ?_⟩
 by_cases hkn : n = k
 ·subst hkn
  rw [List.getElem?_set_self (List.getElem?_eq_some_iff.mp h).1] at hk
  cases hk
  obtain ⟨a,h1,h2,h3⟩ := s.mt n m h
  exact ⟨a,h1,h2,r a h1 h3⟩
 ·rw [List.getElem?_set_ne hkn] at hk
  exact s.mt k m2 hk
theorem FsIs.re {K : PySem.W.Frag} {G : Wd} {f : Str} {d d' : D} : ∀ {fs : List (Str × D)} {vs : List (Str × V)},FsIs K G fs vs -> fs.lookup f = some d -> (∀ v,Is K G d v -> Is K G d' v) -> FsIs K G (putD f d' fs) vs
 | _,_,.nil,h,_ => by cases h
 | _,_,.cons (f := g) (d := x) (fs := r) h q,hl,k => by
  unfold putD
  by_cases e : g = f
  ·subst e
   rw [if_pos rfl]
   rw [List.lookup_cons,beq_self_eq_true] at hl
   cases Option.some.inj hl
   exact .cons (k _ h) q
  ·rw [if_neg e]
   rw [List.lookup_cons,show (f == g) = false from beq_eq_false_iff_ne.mpr (Ne.symm e)] at hl
   exact .cons h (FsIs.re q hl k)
mutual
def sbD (n : Nat) (e : D) : D -> D
 | .ptr m => if m = n then e else .ptr m
 | .tup xs => .tup (sbDs n e xs)
 | .non => .non | .bl b => .bl b | .int i => .int i | .str x => .str x | .lst xs => .lst xs | .scr xs => .scr xs | .ty t => .ty t | .fn a => .fn a | .dct ks xs => .dct ks xs
def sbDs (n : Nat) (e : D) : List D -> List D
 | [] => []
 | x :: xs => sbD n e x :: sbDs n e xs
end
mutual
theorem Is.sb {K : PySem.W.Frag} {G : Wd} {n : Nat} {e : D} {p : Addr} (hp : G.l[n]? = some p) (he : Is K G e (.ref p)) : ∀ {d : D} {v : V},Is K G d v -> Is K G (sbD n e d) v
 | _,_,.non => by simp only [sbD]; exact .non
 | _,_,.bl b => by simp only [sbD]; exact .bl b
 | _,_,.int i => by simp only [sbD]; exact .int i
 | _,_,.str x => by simp only [sbD]; exact .str x
 | _,_,.tup h r => by simp only [sbD]; exact .tup h (Iss.sb hp he r)
 | _,_,.lst h r => by simp only [sbD]; exact .lst h r
 | _,_,.scr h r => by simp only [sbD]; exact .scr h r
 | _,_,.ptr m h => by
  simp only [sbD]
  split
  ·rename_i z
   subst z
   cases Option.some.inj (hp.symm.trans h)
   exact he
  ·exact .ptr m h
 | _,_,.ty t => by simp only [sbD]; exact .ty t
 | _,_,.fn a => by simp only [sbD]; exact .fn a
 | _,_,.dct h hl r => by simp only [sbD]; exact .dct h hl r
theorem Iss.sb {K : PySem.W.Frag} {G : Wd} {n : Nat} {e : D} {p : Addr} (hp : G.l[n]? = some p) (he : Is K G e (.ref p)) : ∀ {ds : List D} {vs : List V},Iss K G ds vs -> Iss K G (sbDs n e ds) vs
 | _,_,.nil => by simp only [sbDs]; exact .nil
 | _,_,.cons h r => by simp only [sbDs]; exact .cons (Is.sb hp he h) (Iss.sb hp he r)
end
section
variable {X : Cx} {ρ : Rho} {O : Sto} {rest : List Stmt} {P : Post} {n q : Nat} {ks : List Key} {xs : List D} {d : D} {C : Addr} {fs : List (Str × D)} {f : Str}
theorem EnvR.keepAt {K : PySem.W.Frag} {G : Wd} {σ : L2.St} {i : Nat} {d d' : D} (h : EnvR K G σ ρ) (hd : ρ[i]? = some (some d)) (h' : ∀ v,Is K G d v -> Is K G d' v) : EnvR K G σ (ρ.set i (some d')) := by
 refine ⟨by rw [List.length_set]; exact h.len,λ j e hj => ?_⟩
 by_cases e' : i = j
 ·subst e'
  rw [List.getElem?_set_self (List.getElem?_eq_some_iff.mp hd).1] at hj
  cases hj
  obtain ⟨v,z1,z2⟩ := h.get i d hd
  exact ⟨v,z1,h' v z2⟩
 ·rw [List.getElem?_set_ne e'] at hj
  exact h.get j e hj
theorem xs_frzD (i : Nat) (h1 : ρ[i]? = some (some d)) (h2 : O[n]? = some (some (.dct ks xs))) (h : Exs X (ρ.set i (some (sbD n (.dct ks xs) d))) (O.set n none) rest P) : Exs X ρ O rest P := λ G pins s σ H E I ⟨q1,q2,q3⟩ => by
 obtain ⟨p,vs,hp,g1,hl,r,z⟩ := q1.frzD h2
 obtain ⟨ob,I'⟩ := Inv_frz I g1
 obtain ⟨e,s',i'⟩ := z ob
 exact h _ pins s σ _ E I' ⟨s',(q2.ext e).keepAt h1 λ v iv => Is.sb (G := ⟨upd G.g p (.frz ob (.dK (ks.zip vs))),G.l⟩) hp i' iv,q3.ext e⟩
theorem xs_frzF (h1 : O[q]? = some (some (.ins C fs))) (hf : fs.lookup f = some (.ptr n)) (h2 : O[n]? = some (some (.dct ks xs))) (h : Exs X ρ ((O.set n none).set q (some (.ins C (putD f (.dct ks xs) fs)))) rest P) : Exs X ρ O rest P := λ G pins s σ H E I ⟨q1,q2,q3⟩ => by
 obtain ⟨p,vs,hp,g1,hl,r,z⟩ := q1.frzD h2
 obtain ⟨ob,I'⟩ := Inv_frz I g1
 obtain ⟨e,s',i'⟩ := z ob
 refine h _ pins s σ _ E I' ⟨?_,q2.ext e,q3.ext e⟩
 have hnq : n ≠ q := by rintro rfl; rw [h1] at h2; cases h2
 have h1' : (O.set n none)[q]? = some (some (.ins C fs)) := by rw [List.getElem?_set_ne hnq]; exact h1
 exact s'.word h1' λ a f0 ⟨dx,ws,f2,f3⟩ => ⟨dx,ws,f2,f3.re hf λ v k2 => by
  cases k2 with
  | ptr _ ha =>
   cases Option.some.inj (hp.symm.trans ha)
   exact i'⟩
end
end DL
namespace DL
open PySem PySem.Spec PyProof.Rows L2 PySem.W
section
variable {prog : Program} {w : World} {A : Around} {s : Shared} {E : Value -> Shared -> Prop} {T : String} {r d : Addr} {n : Nat} {P : Nat -> Value -> Prop} {OK : Heap -> Prop}
theorem collect_src {Q : List Value -> Shared -> Prop} (K : KdlSrc prog w T r d n P OK) (hh : A.handled = none) (hok : OK s.heap) (hn : n <= sizeLine) (hQ : ∀ h' tk (acc : Array Value),(∀ b o,s.heap.get? b = some o -> h'.get? b = some o) -> ItemsOf P acc n -> Q acc.toList { s with heap := h',toks := tk }) :
  wpAny (model prog w) A (collect (.ref r)) Q E s := by
 have hT := K.type s hok
 have lt := K.there _ hok
 have kp : ∀ h',(∀ b o,s.heap.get? b = some o -> h'.get? b = some o) -> OK h' := λ h' k => K.keep _ _ hok λ b _ o e => k b o e
 obtain ⟨h,g,dd,tk,os⟩ := s
 have hT2 := hT
 obtain ⟨o,ho,hc⟩ := hT
 have nl := K.notList
 have nt := K.notTuple
 dsimp only at lt kp hok hQ
 wp_walk
 refine Q2W F.plain_proto_collect F.entry_proto_collect ?_
 wp_walk
 have up : ∀ b u,h.get? b = some u -> (h.push { cls := .type "list",data := .seq #[] }).get? b = some u := λ b u e => Heap.get?_push_of_some _ e
 have own : (h.push { cls := .type "list",data := .seq #[] }).get? h.objs.size = some { cls := .type "list",data := .seq #[] } := Heap.get?_push_size _ rfl
 refine ⟨plainId_quiet F.plain_list_iadd _,Q2W F.plain_list_iadd F.entry_list_iadd ?_⟩
 unfold Builtin.«list.__iadd__» slotArgs
 refine wpAny_bind (wpAny_bind (wpAny_pure (wpAny_bind (wpAny_pure (wpAny_pure ?_)))))
 show wpAny _ _ (Builtin.List.listExtendWith (.ref h.objs.size) (.ref r) (.ref h.objs.size)) _ _ _
 refine wpAny_mono (kdl_extend (A := A) (R := ?kR) (s := ⟨h.push { cls := .type "list",data := .seq #[] },g,dd,tk,os⟩) K hh (kp _ up) h.objs.size (Nat.ne_of_gt lt.1) (Nat.ne_of_gt lt.2) _ 0 own ?kg hn) ?ka ?kb
 case ka =>
  intro fin s' z
  cases fin
  rotate_left
  ·exact z
  ·exact z
 case kb => intro e s' z; exact z
 case kg =>
  intro h' tk' acc c' k1 k2 k3
  exact wpAny_bind (wpAny_load k2 (wpAny_pure (hQ h' tk' acc (λ b u e => k1 b u (Nat.ne_of_lt (Heap.lt_size e)) (up b u e)) k3)))
end
theorem vals_kv : ∀ {ks : List Key} {us : List V} {vs : List (Key × Value)},KV (ks.zip us) vs -> ks.length = us.length -> Vals us (vs.map (·.2))
 | [],[],_,.nil,_ => .nil
 | k :: ks,u :: us,_,.cons q r,h => .cons q.2 (vals_kv r (by simpa using h))
theorem keys_kv {P : Program} {w : World} : ∀ {ks : List Key} {us : List V} {vs : List (Key × Value)} {ws : List Value},KV (ks.zip us) vs -> ks.length = us.length -> ws.length = vs.length -> (∀ (i : Nat) (v : Value),ws[i]? = some v -> ∃ k x,vs[i]? = some (k,x) /\ (Q0u P w).is k v = true) -> Vals (ks.map kV) ws
 | [],[],_,[],.nil,_,_,_ => .nil
 | k :: ks,u :: us,(k2,x2) :: _,w1 :: ws,.cons q r,h,hl,hp => by
  refine .cons ?_ (keys_kv r (by simpa using h) (by simpa using hl) λ i v e => hp (i + 1) v (by simpa using e))
  obtain ⟨k',x,e,z⟩ := hp 0 w1 rfl
  cases Option.some.inj e
  have h3 : k = k2 := q.1
  subst h3
  exact key_rel z
 | [],[],_,_ :: _,.nil,_,hl,_ => by cases hl
 | _ :: _,_ :: _,_,[],.cons _ _,_,hl,_ => by cases hl
section
variable {X : Cx} {ρ : Rho} {O : Sto} {a b e : Expr} {pos p apos cpos : Pos} {d da : D} {ks : List Key} {xs : List D} {R : D -> Sto -> Prop}
def ValsAt (X : Cx) (pins : List (Addr × Obj)) (σ : L2.St) (O : Sto) (ks : List Key) (xs : List D) (G : Wd) (u : Value) (s : Shared) : Prop :=
 ∃ (v q : Addr) (us : List V) (vs : List (Key × Value)) (ep : Nat) (H : Hp) (G1 : Wd),u = .ref v /\ L2.Inv X pins σ H s /\ Ext G G1 /\ SA X.K G1 H O /\ Iss X.K G1 xs us /\ ks.length = us.length /\ KV (ks.zip us) vs /\ (ks.zip us).length <= sizeLine /\ s.heap.IsValuesView v q /\ s.heap.DictAt (Q0u X.prog X.w) q vs ep
theorem ev_values (ha : EvP X ρ O a da) (hd : DV O da ks xs) (hbase : attributeBase a ("values" : Str) X.env (eval a X.env) = eval a X.env := by rfl) (hline : (apos.endLine == cpos.line) = true := by rfl) {G : Wd} {pins : List (Addr × Obj)} {s : Shared} {σ : L2.St} {H : Hp} (I : L2.Inv X pins σ H s) (h1 : SA X.K G H O) (h2 : EnvR X.K G σ ρ) :
  wpAny (model X.prog X.w) X.A (eval (.Call (.Attribute a ("values" : Str) apos) [] [] cpos) X.env) (ValsAt X pins σ O ks xs G) X.xe s := by
 refine wpAny_Call_method0_late hbase hline (thn (ha G pins s σ H (λ v H' => ∃ G',Ext G G' /\ SA X.K G' H' O /\ Is X.K G' da v) I ⟨h1,h2,λ v G' H' e s i => ⟨G',e,s,i⟩⟩) λ u s1 ⟨v,H1,I1,r,G1,e1,sa1,i1⟩ => ?_)
 obtain ⟨q,us,rfl,g1,g2,g3⟩ := hd.rd sa1 i1
 cases r
 obtain ⟨hz,hq,vs,rel,dd⟩ := Q3V I1.hok g1
 obtain ⟨ep,at_⟩ := dd.dictAt
 obtain ⟨ob,es,h0,w1,w2⟩ := id at_
 refine ⟨"dict","dict.values",PySem.F.plainAttrs_dict,PySem.F.slot_dict_values,PySem.F.type_dict_values,dd.typeIs,λ b q => by cases q; exact ⟨ob,h0,w1.2.1⟩,Calls.callWith_builtin rfl (PySem.evalArgs_none ?_)⟩
 refine call_meetsIn PySem.F.slot_dict_values dd.typeIs PySem.F.entry_dict_values (PySem.F.args_dict_values_1 _) (meets_dict_values (Q0u X.prog X.w) q hq) ⟨⟨_,dd⟩,?_⟩
 exact ⟨_,q,us,vs,ep,H1,G1,rfl,I1.kept (t' := s1.toks) λ _ _ e => Heap.get?_push_of_some _ e,e1,sa1,g3,g2,rel,hz,⟨_,Heap.get?_push_size _ rfl,rfl,rfl⟩,at_.push _⟩
theorem ev_tupVals (ha : EvP X ρ O a da) (hd : DV O da ks xs) (hm : X.mg "tuple" = none) (hbase : attributeBase a ("values" : Str) X.env (eval a X.env) = eval a X.env := by rfl) (hline : (apos.endLine == cpos.line) = true := by rfl) (hc : X.calm = true := by rfl) (hg : Gl X "tuple" := by rfl)
  (hs : starEach [.Call (.Attribute a ("values" : Str) apos) [] [] cpos] X.env = [(false,eval (.Call (.Attribute a ("values" : Str) apos) [] [] cpos) X.env)] := by rfl) : EvP X ρ O (.Call (.Name "tuple" p) [.Call (.Attribute a ("values" : Str) apos) [] [] cpos] [] pos) (.tup xs) := λ G pins s σ H Q I ⟨h1,h2,h3⟩ => by
 refine wpAny_Call_Name_kw (Q3p I hg hm (by first | rfl | decide +kernel) ?_ (by decide) (by decide))
 refine PyProof.Rows.callWith_type1 ?_ (by rw [hs]; rfl) rfl
 rw [hs]
 show wpAny _ _ (spliced ((false,_) :: backTo pos [])) _ _ s
 refine Calls.spliced_cons (thn (ev_values ha hd hbase hline I h1 h2) λ u s1 ⟨v,q,us,vs,ep,H1,G1,eu,I1,e1,sa1,is1,hl,rel,hz,vw,at_⟩ => Calls.spliced_nil ?_)
 subst eu
 have hlen : vs.length = (ks.zip us).length := rel.length.symm
 refine call_tuple_it vw.typeIs (by decide) (collect_src (kdl_values (knd := Q0u X.prog X.w)) (I.ok.hd hc) ⟨vw,at_⟩ (by rw [hlen]; exact hz) λ h' tk acc kp it => ?_)
 have ev : acc.toList = vs.map (·.2) := kdl_vals_eq _ (by rw [Array.length_toList]; exact it.1) λ j v e => it.2 j v (by rw [<- Array.getElem?_toList]; exact e)
 have hz2 : acc.toList.length <= sizeLine := by rw [ev,List.length_map,hlen]; exact hz
 refine ⟨hz2,?_⟩
 have I2 : L2.Inv X pins σ H1 { s1 with heap := h',toks := tk } := I1.kept kp
 have fr : H1 h'.objs.size = none := I2.hok.fresh (Nat.le_refl _)
 obtain ⟨e3,s3⟩ := sa1.laid (o := .tup us) fr
 refine ⟨.ref h'.objs.size,_,I2.laid (t' := tk) (λ b o e => Heap.get?_push_of_some _ e) (Nat.le_refl _) ?_,rfl,h3 _ _ _ (e1.trans e3) s3 (.tup (SqT.of Q0h) (is1.ext e3))⟩
 have vv : Vals us acc.toList := by rw [ev]; exact vals_kv rel hl
 exact ⟨by rw [vv.length]; exact hz2,acc.toList,vv,TupN.new _ _⟩
theorem ev_lstVals (ha : EvP X ρ O a da) (hd : DV O da ks xs) (hm : X.mg "list" = none) (hbase : attributeBase a ("values" : Str) X.env (eval a X.env) = eval a X.env := by rfl) (hline : (apos.endLine == cpos.line) = true := by rfl) (hc : X.calm = true := by rfl) (hg : Gl X "list" := by rfl)
  (hs : starEach [.Call (.Attribute a ("values" : Str) apos) [] [] cpos] X.env = [(false,eval (.Call (.Attribute a ("values" : Str) apos) [] [] cpos) X.env)] := by rfl) : EvP X ρ O (.Call (.Name "list" p) [.Call (.Attribute a ("values" : Str) apos) [] [] cpos] [] pos) (.lst xs) := λ G pins s σ H Q I ⟨h1,h2,h3⟩ => by
 refine wpAny_Call_Name_kw (Q3p I hg hm (by first | rfl | decide +kernel) ?_ (by decide) (by decide))
 refine PyProof.Rows.callWith_type1 ?_ (by rw [hs]; rfl) rfl
 rw [hs]
 show wpAny _ _ (spliced ((false,_) :: backTo pos [])) _ _ s
 refine Calls.spliced_cons (thn (ev_values ha hd hbase hline I h1 h2) λ u s1 ⟨v,q,us,vs,ep,H1,G1,eu,I1,e1,sa1,is1,hl,rel,hz,vw,at_⟩ => Calls.spliced_nil ?_)
 subst eu
 have hlen : vs.length = (ks.zip us).length := rel.length.symm
 refine kdl_call (kdl_values (knd := Q0u X.prog X.w)) (I.ok.hd hc) ⟨vw,at_⟩ (by rw [hlen]; exact hz) λ h' tk acc c' kp own it => ?_
 have ev : acc.toList = vs.map (·.2) := kdl_vals_eq _ (by rw [Array.length_toList]; exact it.1) λ j v e => it.2 j v (by rw [<- Array.getElem?_toList]; exact e)
 have fr : H1 s1.heap.objs.size = none := I1.hok.fresh (Nat.le_refl _)
 obtain ⟨e3,s3⟩ := sa1.laid (o := .lst us) fr
 have vv : Vals us acc.toList := by rw [ev]; exact vals_kv rel hl
 refine ⟨.ref s1.heap.objs.size,upd H1 s1.heap.objs.size (.lst us),I1.laid (t' := tk) (λ b o e => kp b o e) (Nat.le_refl _) ⟨by rw [vv.length,ev,List.length_map,hlen]; exact hz,acc.toList,c',vv,by rw [Array.toArray_toList]; exact own⟩,rfl,h3 _ _ _ (e1.trans e3) s3 (.lst Q0h (is1.ext e3))⟩
end
def ltS (x y : Str) : Bool := decide (x.cps.toList < y.cps.toList)
theorem str_cps {x y : Str} (h : x.cps.toList = y.cps.toList) : x = y := by
 cases x; cases y
 have := Array.toList_inj.mp h
 cases this
 rfl
theorem ordS : Ord ltS := ⟨λ a => decide_eq_false (List.lt_irrefl _),λ a b c h1 h2 => decide_eq_true (List.lt_trans (of_decide_eq_true h1) (of_decide_eq_true h2)),λ a b h1 h2 => by
 have h1 := of_decide_eq_false h1
 have h2 := of_decide_eq_false h2
 exact str_cps (List.le_antisymm (List.not_lt.mp h2) (List.not_lt.mp h1))⟩
instance : Inhabited Str := ⟨⟨#[]⟩⟩
theorem cmpS {X : Cx} : CmpD X ltS D.str := λ A G H pins σ s s' O ps vs its I sa is va h2 up => by
 have e1 := is.length
 have e2 := va.length
 rw [List.length_map] at e1
 have at' : ∀ i,i < ps.length -> ∃ t,its.getD i Value.none = .str (ps.getD i default) t := λ i hi => by
  obtain ⟨v,hv,iv⟩ := is.get (i := i) (d := .str ps[i]) (by simp [hi])
  obtain ⟨u,hu,ru⟩ := va.get hv
  cases iv
  obtain ⟨t,rfl⟩ := ru
  exact ⟨t,by rw [List.getD_eq_getElem?_getD,hu,getD_at hi]; rfl⟩
 refine ⟨oneType',λ E Q hq => kas_kind (T := .type "str") (by omega) (λ v hv => ?_) (by decide) (by decide) hq,λ i j C hi hj hC => ?_⟩
 ·obtain ⟨i,hi,rfl⟩ := List.mem_iff_getElem.mp hv
  obtain ⟨t,e⟩ := at' i (by omega)
  rw [getD_at hi] at e
  rw [e]
  exact .now
 ·obtain ⟨t,ei⟩ := at' i (by omega)
  obtain ⟨u,ej⟩ := at' j (by omega)
  rw [ei,ej,keyLt'_oneType]
  refine oneLt_str ?_
  have := rank_iff ordS.irr ordS.tr ordS.tot (at_mem (show i < ps.length by omega) default) (at_mem (show j < ps.length by omega) default)
  rw [this] at hC
  exact hC
section
variable {X : Cx} {ρ : Rho} {O : Sto} {e : Expr} {pos p : Pos} {da : D} {ps : List Str} {xs : List D}
theorem iss_strs {K : PySem.W.Frag} {G : Wd} : ∀ {ps : List Str},Iss K G (ps.map D.str) (ps.map V.str)
 | [] => .nil
 | x :: ps => .cons (.str x) iss_strs
theorem ev_sortedK (ha : EvP X ρ O e da) (hd : DV O da (ps.map Sum.inr) xs) (h64 : ps.length < 64) (hm : X.mg "sorted" = none) (hc : X.calm = true := by rfl) (hg : Gl X "sorted" := by rfl) (hs : starEach [e] X.env = [(false,eval e X.env)] := by rfl) :
  EvP X ρ O (.Call (.Name "sorted" p) [e] [] pos) (.lst ((srt ltS ps).map D.str)) := λ G pins s σ H Q I ⟨h1,h2,h3⟩ => by
 refine wpAny_Call_Name_kw (Q3p I hg hm boot_sorted ?_)
 refine PyProof.Rows.callWith_builtin1 ?_ (by rw [hs]; rfl) rfl
 rw [hs]
 show wpAny _ _ (spliced ((false,eval e X.env) :: backTo pos [])) _ _ s
 refine Calls.spliced_cons (thn (ha G pins s σ H (λ v H1 => ∃ G1,Ext G G1 /\ SA X.K G1 H1 O /\ Is X.K G1 da v) I ⟨h1,h2,λ v G' H' q1 q2 q3 => ⟨G',q1,q2,q3⟩⟩) λ u s1 ⟨v,H1,I1,r1,G1,e1,sa1,i1⟩ => Calls.spliced_nil ?_)
 obtain ⟨q,us,rfl,g1,g2,g3⟩ := hd.rd sa1 i1
 cases r1
 obtain ⟨hz,hq,vs,rel,dd⟩ := Q3V I1.hok g1
 obtain ⟨ep,at_⟩ := dd.dictAt
 have hlen : vs.length = ((ps.map Sum.inr).zip us).length := rel.length.symm
 refine call_sorted (collect_src (kdl_dict (knd := Q0u X.prog X.w) hq) (I1.ok.hd hc) at_ (by rw [hlen]; exact hz) λ h' tk acc kp it => ?_)
 have vv : Vals (ps.map V.str) acc.toList := by
  have := keys_kv (P := X.prog) (w := X.w) rel g2 (by rw [Array.length_toList]; exact it.1) λ i v e => it.2 i v (by rw [<- Array.getElem?_toList]; exact e)
  rw [List.map_map] at this
  exact this
 exact sorted_laid ordS cmpS (I1.kept kp) sa1 iss_strs vv h64 λ v G'' H'' q1 q2 q3 => h3 v G'' H'' (e1.trans q1) q2 q3
end
def isStr (x : Str) : Value -> Bool
 | .str y _ => y.cps.toList == x.cps.toList
 | _ => false
def rRemS : V -> List V -> Hp -> VK -> Prop := λ v vs H Q => ∃ (l : Addr) (ps : List Str) (x : Str),v = .ref l /\ vs = [.str x] /\ H l = some (.lst (ps.map V.str)) /\ x ∈ ps /\ Q .non (upd H l (.lst ((ps.eraseIdx (ps.idxOf x)).map V.str)))
theorem Q2w {α β : Type} (f : α -> β) : ∀ (l : List α) (k : Nat),(l.map f).eraseIdx k = (l.eraseIdx k).map f
 | [],_ => rfl
 | _ :: _,0 => rfl
 | a :: l,k + 1 => by
  show f a :: (l.map f).eraseIdx k = f a :: (l.eraseIdx k).map f
  rw [Q2w f l k]
theorem idx_min {ps : List Str} {x : Str} {m : Nat} (h : m < ps.idxOf x) (hm : m < ps.length) : ps[m] ≠ x := λ e => by
 have := List.not_of_lt_findIdx (p := λ y => y == x) (xs := ps) h
 rw [e] at this
 simp at this
theorem mt_remS {X : Cx} : MtM X "list.remove" rRemS := by
 intro pins s σ H x vs v us Q I rx rv h
 obtain ⟨l,ps,x,rfl,rfl,hH,hx,q⟩ := h
 cases rx
 obtain ⟨u,rfl,ru⟩ := rv.one
 obtain ⟨t,rfl⟩ := ru
 obtain ⟨z,its,n,r,hl,e⟩ := I.lstM hH
 rw [List.length_map] at z hl
 have at' : ∀ i (hi : i < its.length),∃ t,its[i] = .str (ps[i]'(by omega)) t := λ i hi => by
  obtain ⟨w,hw,rw'⟩ := r.get (i := i) (x := .str (ps[i]'(by omega))) (by rw [List.getElem?_map,List.getElem?_eq_getElem (by omega)]; rfl)
  obtain ⟨t,rfl⟩ := rw'
  exact ⟨t,Option.some.inj ((List.getElem?_eq_getElem hi).symm.trans hw)⟩
 have hj := List.idxOf_lt_length_of_mem hx
 refine call_meets F.slot_list_remove ⟨_,e,rfl⟩ F.entry_list_remove (F.args_list_remove_2 _ _) (MeetsSeq.list_remove l its.toArray n (.str x t) (isStr x) (λ y hy => ?_) (ps.idxOf x) (by rw [List.size_toArray]; omega) ?_ (λ m hm hlt => ?_) (by rw [List.size_toArray]; omega)) ⟨e,?_⟩
 ·obtain ⟨i,hi,rfl⟩ := List.mem_iff_getElem.mp (List.mem_toArray.mp hy)
  obtain ⟨t',e'⟩ := at' i hi
  rw [e']
  exact SeqRoads2.EqGives.str _ _ _ _
 ·rw [List.getElem_toArray]
  obtain ⟨t',e'⟩ := at' (ps.idxOf x) (by omega)
  rw [e']
  rw [List.getElem_idxOf hj]
  exact beq_self_eq_true _
 ·rw [List.size_toArray] at hm
  rw [List.getElem_toArray]
  obtain ⟨t',e'⟩ := at' m hm
  rw [e']
  exact beq_eq_false_iff_ne.mpr λ z => idx_min hlt (by omega) (str_cps z)
 ·refine ⟨.non,_,I.lset (its' := its.eraseIdx (ps.idxOf x)) hH e ?_ (by rw [<- Q2w]; exact r.eraseIdx _) ?_,rfl,q⟩
  ·show its.toArray.eraseIdxIfInBounds _ = _
   rw [List.eraseIdxIfInBounds_toArray]
  ·rw [List.length_map]
   exact Nat.le_trans (List.length_eraseIdx_le _ _) z
theorem iss_strV {K : PySem.W.Frag} {G : Wd} : ∀ {ps : List Str} {vs : List V},Iss K G (ps.map D.str) vs -> vs = ps.map V.str
 | [],_,.nil => rfl
 | x :: ps,_,.cons h r => by cases h; rw [iss_strV r]; rfl
section
variable {X : Cx} {ρ : Rho} {O : Sto} {a e : Expr} {pos apos cpos : Pos} {q : Nat} {ps : List Str} {x : Str} {P : Post} {ks : List Key} {xs : List D}
theorem x_remS (ho : EvP X ρ O a (.ptr q)) (hq : O[q]? = some (some (.lst (ps.map D.str)))) (he : EvP X ρ O e (.str x)) (hx : x ∈ ps) (h : P.nx ρ (O.set q (some (.lst ((ps.eraseIdx (ps.idxOf x)).map D.str)))))
  (hbase : attributeBase a ("remove" : Str) X.env (eval a X.env) = eval a X.env := by rfl) (hline : (apos.endLine == cpos.line) = true := by rfl) (hst : starEach [e] X.env = [(false,eval e X.env)] := by rfl)
  (hsw : swapsWith (.Call (.Attribute a ("remove" : Str) apos) [e] [] cpos) none pos.line X.env = pure false := by rfl) : Ex X ρ O (.Expr (.Call (.Attribute a ("remove" : Str) apos) [e] [] cpos) pos) P := λ G =>
 PS.imp (Q3z (pe_bm PySem.F.plainAttrs_list PySem.F.slot_list_remove PySem.F.type_list_remove mt_remS (ho G)
  (Q2f (te := λ σ H Q => ∃ G1,SA X.K G1 H O /\ EnvR X.K G1 σ ρ /\ ∀ v G' H',Ext G1 G' -> SA X.K G' H' O -> Is X.K G' (.str x) v -> Q v H') (λ pins s σ H Q I ⟨G1,q⟩ => he G1 pins s σ H Q I q) pa_nil hst) hbase
  (by rw [hst]; rfl) hline hst (by rfl)) hsw) λ E σ H ⟨q1,q2,q3⟩ => ⟨q1,q2,λ v G1 H1 e1 s1 i1 => by
   cases i1 with
   | ptr _ ha =>
   obtain ⟨a1,g0,g1,vs,g2,g3⟩ := s1.mt q _ hq
   obtain rfl := Option.some.inj (ha.symm.trans g0)
   refine ⟨.inl ⟨rfl,vs,SqL.of g2⟩,G1,s1,q2.ext e1,λ w G2 H2 e2 s2 i2 => ?_⟩
   obtain ⟨a2,g7,g4,us,g5,g6⟩ := s2.mt q _ hq
   obtain rfl := Option.some.inj ((e2.at g0).symm.trans g7)
   cases i2
   obtain rfl := iss_strV g6
   refine ⟨_,ps,x,rfl,rfl,g5,hx,?_⟩
   exact q3.nx σ ρ _ G2 _ (e1.trans e2) (s2.put (m' := .lst _) hq g7 ⟨_,Q0h,iss_strs⟩) (q2.ext (e1.trans e2)) h⟩
end
section
variable {X : Cx} {ρ : Rho} {O : Sto} {value o : Expr} {pos pos' : Pos} {q : Nat} {C : Addr} {fs : List (Str × D)} {f : Str} {P : Post}
theorem x_fldE (hv : Ev X ρ O value λ d O' => EvP X ρ O' o (.ptr q) /\ O'[q]? = some (some (.ins C fs)) /\ P.nx ρ (O'.set q (some (.ins C (putD f d fs))))) (c : Cls X.K C) (n : Q1L X.K C f) (hz : fs.length < 1000) (hs : swapsWith value (some (.Attribute o f pos')) pos.line X.env = pure false := by rfl) :
  Ex X ρ O (.Assign [.Attribute o f pos'] value pos) P := λ G pins s σ H E I ⟨h1,h2,h3⟩ => by
 refine plainObj_wpAny_Assign_Attribute (thn (hv G pins s σ H (λ v H1 => ∃ d O1 G1,Ext G G1 /\ SA X.K G1 H1 O1 /\ Is X.K G1 d v /\ EvP X ρ O1 o (.ptr q) /\ O1[q]? = some (some (.ins C fs)) /\ P.nx ρ (O1.set q (some (.ins C (putD f d fs))))) I ⟨h1,h2,λ v d O' G' H' e s i r => ⟨d,O',G',e,s,i,r⟩⟩) λ u s1 ⟨y,H1,I1,ry,d,O1,G1,e1,sa1,i1,ho,hq,h⟩ =>
  thn (ho G1 pins s1 σ H1 (λ v H2 => ∃ G2,Ext G1 G2 /\ SA X.K G2 H2 O1 /\ Is X.K G2 (.ptr q) v) I1 ⟨sa1,h2.ext e1,λ v G' H' e s i => ⟨G',e,s,i⟩⟩) λ ov s2 ⟨x,H2,I2,rx,G2,e2,sa2,i2⟩ => ?_) hs
 obtain ⟨a,dx,vs,rfl,g1,g2,g3⟩ := sa2.ins i2 hq
 obtain rfl : ov = Value.ref a := rx
 refine setattr_ok I2 g2 c n (by rw [<- g3.len]; exact hz) ry λ s3 I3 => ⟨σ,_,I3,?_⟩
 exact h3.nx σ ρ _ G2 _ (e1.trans e2) (sa2.put (m' := .ins C (putD f d fs)) hq g1 ⟨dx,_,Q0h,g3.put (i1.ext e2)⟩) (h2.ext (e1.trans e2)) h
end
section
variable {X : Cx} {ρ : Rho} {O : Sto} {e : Expr} {qs : List Str} {xs : List D}
theorem ei_dctS {tg : Expr} (h : EvP X ρ O e (.dct (qs.map Sum.inr) xs)) : EvI X ρ O tg e (qs.map D.str) := by
 have := ei_dct (tg := tg) h
 rw [List.map_map] at this
 exact this
end
def atS {α : Type} (ps : List Str) (ws : List α) (x : Str) : Option α := atK (ps.map Sum.inr) ws (.inr x)
theorem Q4h {α : Type} (p : Str) (ps : List Str) (w : α) (ws : List α) (x : Str) : atS (p :: ps) (w :: ws) x = if p = x then some w else atS ps ws x := by
 unfold atS atK
 by_cases e : p = x
 ·simp [List.find?_cons,e]
 ·have : ¬ (Sum.inr p : Key) = Sum.inr x := λ z => e (Sum.inr.inj z)
  simp [List.find?_cons,e]
theorem atS_map {α β : Type} (f : α -> β) : ∀ (ps : List Str) (ws : List α) (x : Str),atS ps (ws.map f) x = (atS ps ws x).map f
 | [],_,_ => rfl
 | _ :: _,[],_ => rfl
 | p :: ps,w :: ws,x => by
  rw [List.map_cons,Q4h,Q4h,atS_map f ps ws x]
  split <;> rfl
theorem Q3G {α : Type} : ∀ {ps : List Str} {ws : List α} {x : Str},ps.length = ws.length -> x ∈ ps -> ∃ w,atS ps ws x = some w /\ w ∈ ws
 | p :: ps,w :: ws,x,hl,hx => by
  rw [Q4h]
  by_cases e : p = x
  ·rw [if_pos e]; exact ⟨w,rfl,List.mem_cons_self⟩
  ·rw [if_neg e]
   rcases List.mem_cons.mp hx with h | h
   ·exact absurd h.symm e
   ·obtain ⟨v,h1,h2⟩ := Q3G (ws := ws) (by simpa using hl) h
    exact ⟨v,h1,List.mem_cons_of_mem _ h2⟩
 | [],_,_,_,hx => by cases hx
theorem atS_not {α : Type} : ∀ {ps : List Str} {ws : List α} {x : Str},x ∉ ps -> atS ps ws x = none
 | [],_,_,_ => rfl
 | _ :: _,[],_,_ => rfl
 | p :: ps,w :: ws,x,h => by
  have e : ¬ p = x := λ e => h (by rw [e]; exact List.mem_cons_self)
  rw [Q4h,if_neg e]
  exact atS_not λ z => h (List.mem_cons_of_mem _ z)
theorem hasS {ps : List Str} {x : Str} : hasK (ps.map Sum.inr) (.inr x) = decide (x ∈ ps) := by
 induction ps with
 | nil => simp [hasK]
 | cons p ps ih =>
  unfold hasK at ih ⊢
  rw [List.map_cons,List.any_cons,ih]
  by_cases e : p = x
  ·subst e; simp
  ·have : ¬ (Sum.inr p : Key) = Sum.inr x := λ z => e (Sum.inr.inj z)
   rw [decide_eq_false this,Bool.false_or]
   simp [Ne.symm e]
theorem put_newS {α : Type} {ps : List Str} {ws : List α} {x : Str} {w : α} (h : x ∉ ps) : putKs (ps.map Sum.inr) (.inr x) = (ps ++ [x]).map Sum.inr /\ putXs (ps.map Sum.inr) ws (.inr x) w = ws ++ [w] := by
 unfold putKs putXs
 rw [hasS,decide_eq_false h,if_neg Bool.false_ne_true,if_neg Bool.false_ne_true,List.map_append]
 exact ⟨rfl,rfl⟩
section
variable {X : Cx} {ρ : Rho} {O : Sto}
theorem ev_tupA {es : List Expr} {R : D -> Sto -> Prop} {x1 : Nat} {pos : Pos} (h : EvAs X ρ O es λ ds O' => ds.length <= sizeLine /\ R (.tup ds) O') : Ev X ρ O (.Tuple es x1 pos) R := λ G =>
 PE.imp (pe_tup (h G)) λ σ H Q ⟨h1,h2,h3⟩ => ⟨h1,h2,λ vs ds O1 G1 H1 e1 s1 i1 r1 => ⟨by rw [<- i1.length]; exact r1.1,λ p hp => by
  obtain ⟨e2,s2⟩ := s1.laid (o := .tup vs) hp
  exact h3 _ _ _ _ _ (e1.trans e2) s2 (.tup (SqT.of Q0h) (i1.ext e2)) r1.2⟩⟩
end
section
variable {X : Cx} {ρ : Rho} {O : Sto} {a : Expr} {pos apos cpos : Pos} {q : Nat} {ks : List Key} {xs : List D} {P : Post}
end
end DL
namespace L2
open PySem PySem.Spec PyProof.Rows
end L2
namespace DL
open PySem PySem.Spec PyProof.Rows L2
end DL
namespace DL
open PySem PySem.Spec PyProof.Rows L2 PySem.W
section
variable {X : Cx} {O : Sto} {da db ea : D} {k : Nat} {xs : List D}
theorem cmp_inD (hr : Room k X.A) (ha : RD O da ea) (pa : plD ea = true) (px : plDs xs = true) (hd : min (dpDs xs) (dpD ea) <= 60) (hb : RD O db (.lst xs)) : Op2 X O (compareOp .In) da db (.bl (xs.any λ y => eqD y ea)) := λ G pins s σ H x y v u Q I rx ry ⟨h1,h2,h3,h4⟩ => by
 obtain ⟨as,ra⟩ := ha.reads I h1 h2 rx pa
 obtain ⟨bs,rb⟩ := hb.reads I h1 h3 ry px
 have hu := hr.units
 refine PySem.SeqAt.in_list_reads (xs := Q2q xs) rb ra (Q2t _ px) (pl_lay _ pa) (by rw [dp_py,Q3M]; omega) ?_
 rw [any_py]
 exact ⟨.bl _,H,I,rfl,h4 _ G H (Ext.refl _) h1 (.bl _)⟩
end
section
variable {X : Cx} {ρ : Rho} {O : Sto} {a e : Expr} {pos apos cpos : Pos} {q : Nat} {xs : List D} {P : Post}
theorem x_appendE (ho : EvP X ρ O a (.ptr q)) (he : Ev X ρ O e λ d O' => O'[q]? = some (some (.lst xs)) /\ P.nx ρ (O'.set q (some (.lst (xs ++ [d]))))) (hq : O[q]? = some (some (.lst xs))) (hz : xs.length < sizeLine)
  (hbase : attributeBase a ("append" : Str) X.env (eval a X.env) = eval a X.env := by rfl) (hline : (apos.endLine == cpos.line) = true := by rfl) (hst : starEach [e] X.env = [(false,eval e X.env)] := by rfl)
  (hsw : swapsWith (.Call (.Attribute a ("append" : Str) apos) [e] [] cpos) none pos.line X.env = pure false := by rfl) : Ex X ρ O (.Expr (.Call (.Attribute a ("append" : Str) apos) [e] [] cpos) pos) P := λ G =>
 PS.imp (Q3z (pe_bm PySem.F.plainAttrs_list PySem.F.slot_list_append PySem.F.type_list_append mt_append (ho G)
  (Q2f (te := λ σ H Q => ∃ G1,SA X.K G1 H O /\ EnvR X.K G1 σ ρ /\ ∀ v d O' G' H',Ext G1 G' -> SA X.K G' H' O' -> Is X.K G' d v -> (O'[q]? = some (some (.lst xs)) /\ P.nx ρ (O'.set q (some (.lst (xs ++ [d]))))) -> Q v H') (λ pins s σ H Q I ⟨G1,q⟩ => he G1 pins s σ H Q I q) pa_nil hst) hbase
  (by rw [hst]; rfl) hline hst (by rfl)) hsw) λ E σ H ⟨q1,q2,q3⟩ => ⟨q1,q2,λ v G1 H1 e1 s1 i1 => by
   cases i1 with
   | ptr _ ha =>
   obtain ⟨a1,g0,g1,vs,g2,g3⟩ := s1.mt q _ hq
   obtain rfl := Option.some.inj (ha.symm.trans g0)
   refine ⟨.inl ⟨rfl,vs,SqL.of g2⟩,G1,s1,q2.ext e1,λ w d O' G2 H2 e2 s2 i2 ⟨hq2,h⟩ => ?_⟩
   obtain ⟨a2,g7,g4,us,g5,g6⟩ := s2.mt q _ hq2
   obtain rfl := Option.some.inj ((e2.at g0).symm.trans g7)
   refine ⟨_,us,w,rfl,rfl,g5,by rw [<- g6.length]; exact hz,?_⟩
   exact q3.nx σ ρ _ G2 _ (e1.trans e2) (s2.put (m' := .lst (xs ++ [d])) hq2 g7 ⟨_,Q0h,g6.append (.cons i2 .nil)⟩) (q2.ext (e1.trans e2)) h⟩
end
section
variable {X : Cx} {ρ : Rho} {O : Sto} {e a b c : Expr} {body : List Stmt} {d da db : D} {xs : List D} {ks : List Key} {ps : List Str} {R : D -> Sto -> Prop} {P : Post} {pos p : Pos} {j n : Nat}
theorem x_forE {tg iter : Expr} (hi : Ev X ρ O iter λ d O1 => ∃ (xs : List D) (inv : Nat -> Rho -> Sto -> Prop),d = .lst xs /\ inv 0 ρ O1 /\
      (∀ i x ρ' O',xs[i]? = some x -> inv i ρ' O' -> ∃ ρ1,Tg X tg x ρ' ρ1 /\ Exs X ρ1 O' body { P with nx := inv (i + 1),ct := inv (i + 1),bk := P.nx }) /\ ∀ ρ' O',inv xs.length ρ' O' -> P.nx ρ' O')
    (hp : PassesOwn (model X.prog X.w) X.A X.env X.xe := by exact PassesOwn.never) (hc : X.calm = true := by rfl) (hf : ∀ x,foldedSetIterable iter X.env x = pure x := by intro _; rfl) : Ex X ρ O (.For tg iter body [] pos) P := λ G =>
  PS.imp (ps_for hp hc (pi_list (hi G)) (g := λ v σ H Q => ∃ G1 ρ1 ρ2 x,Tg X tg x ρ1 ρ2 /\ Is X.K G1 x v /\ Same G1.g H /\ EnvR X.K G1 σ ρ1 /\ ∀ σ',EnvR X.K G1 σ' ρ2 -> Q σ' H) (λ pins s σ H v u Q I r ⟨G1,ρ1,ρ2,x,q,q'⟩ => q G1 pins s σ H v u Q I r q')
    (tb := λ E σ H => ∃ G1 ρ1 O1 P1,SA X.K G1 H O1 /\ EnvR X.K G1 σ ρ1 /\ Exs X ρ1 O1 body P1 /\ Q2o X.K G1 P1 E) (λ pins s σ H E I ⟨G1,ρ1,O1,P1,q1,q2,q3,q4⟩ => q3 G1 pins s σ H E I ⟨q1,q2,q4⟩) hf) λ E σ H ⟨q1,q2,q3⟩ => by
    refine ⟨q1,q2,λ v d O1 G1 H1 e1 s1 i1 r => ?_⟩
    obtain ⟨xs,inv,rfl,h0,hs,hd⟩ := r
    cases i1 with
    | lst q r =>
    refine ⟨_,rfl,⟨_,SqL.of (s1.sub _ _ q)⟩,?_⟩
    have Y := Q3D (SqL.of q) r
    refine ⟨λ i m σ H => ∃ G2 ρ2 O2,Ext G1 G2 /\ SA X.K G2 H O2 /\ EnvR X.K G2 σ ρ2 /\ inv i ρ2 O2 /\ i <= xs.length /\ m = xs.length - i,⟨_,G1,ρ,O1,Ext.refl _,s1,q2.ext e1,h0,Nat.zero_le _,rfl⟩,?_⟩
    rintro i m σ2 H2 ⟨G2,ρ2,O2,e2,s2,n2,v2,l2,rfl⟩
    by_cases hlt : i < xs.length
    · refine .inr ⟨Y.go i H2 (e2.g.trans s2.sub) hlt,λ σ' H' => ∃ G3 ρ3 O3,Ext G1 G3 /\ SA X.K G3 H' O3 /\ EnvR X.K G3 σ' ρ3 /\ inv (i + 1) ρ3 O3,λ σ' H' ⟨G3,ρ3,O3,e3,s3,n3,v3⟩ => ⟨xs.length - (i + 1),by omega,G3,ρ3,O3,e3,s3,n3,v3,hlt,rfl⟩,λ v H3 y => ?_⟩
      obtain ⟨x,G3,hx,e3,s3,i3⟩ := Y.yld i v H2 H3 G2 O2 e2 s2 y hlt
      obtain ⟨ρ3,t3,b3⟩ := hs i x ρ2 O2 hx v2
      have e13 : Ext G1 G3 := e2.trans e3
      refine ⟨G3,ρ2,ρ3,x,t3,i3,s3.sub,n2.ext e3,λ σ' n' => ⟨G3,ρ3,O2,_,s3,n',b3,⟨λ σ4 ρ4 O4 G4 H4 e4 s4 n4 q => ⟨G4,ρ4,O4,e13.trans e4,s4,n4,q⟩,λ v d O4 G4 H4 e4 s4 i4 r => q3.rt v d O4 G4 H4 (e1.trans (e13.trans e4)) s4 i4 r,
        λ σ4 ρ4 O4 G4 H4 e4 s4 n4 q => q3.nx σ4 ρ4 O4 G4 H4 (e1.trans (e13.trans e4)) s4 n4 q,λ σ4 ρ4 O4 G4 H4 e4 s4 n4 q => ⟨G4,ρ4,O4,e13.trans e4,s4,n4,q⟩⟩⟩⟩
    · have ei : i = xs.length := by omega
      subst ei
      exact .inl ⟨Y.stop _ H2 (e2.g.trans s2.sub) (Nat.le_refl _),q3.nx σ2 ρ2 O2 G2 H2 (e1.trans e2) s2 n2 (hd _ _ v2)⟩
theorem et_cmpEE {op : CmpOp} {Ra : D -> Sto -> Prop} {RT : Bool -> Sto -> Prop} (ha : Ev X ρ O a Ra) (hb : ∀ da O1,Ra da O1 -> Ev X ρ O1 b λ db O2 => ∃ k,Op2 X O2 (compareOp op) da db (.bl k) /\ RT k O2) (hm : behindInMarks op b = false := by first | exact nomark _ | (with_unfolding_all rfl)) :
  EvTE X ρ O (.Compare a [op] [b] pos) RT := λ G pins s σ H Q I ⟨h1,h2,h3⟩ => by
 refine wpAny_isTrue_Compare1 (thn (ha G pins s σ H _ I ⟨h1,h2,λ v da O1 G1 H1 e1 s1 i1 r1 => (⟨G1,da,O1,e1,s1,i1,r1⟩ : ∃ G1 da O1,Ext G G1 /\ SA X.K G1 H1 O1 /\ Is X.K G1 da v /\ Ra da O1)⟩) λ v s1 ⟨x,H1,I1,r1,G1,da,O1,e1,sa1,i1,ra⟩ => ?_) hm
 refine thn (hb da O1 ra G1 pins s1 σ H1 _ I1 ⟨sa1,h2.ext e1,λ u db O2 G2 H2 e2 s2 i2 r2 => (⟨G2,db,O2,e2,s2,i2,r2⟩ : ∃ G2 db O2,Ext G1 G2 /\ SA X.K G2 H2 O2 /\ Is X.K G2 db u /\ ∃ k,Op2 X O2 (compareOp op) da db (.bl k) /\ RT k O2)⟩) λ u s2 ⟨y,H2,I2,r2,G2,db,O2,e2,sa2,i2,k,ho,hR⟩ => ?_
 refine thn (ho G2 pins s2 σ H2 x y v u _ I2 r1 r2 ⟨sa2,i1.ext e2,i2,λ w G3 H3 e3 s3 i3 => (⟨G3,e3,s3,i3⟩ : ∃ G3,Ext G2 G3 /\ SA X.K G3 H3 O2 /\ Is X.K G3 (.bl k) w)⟩) λ z s3 ⟨zv,H3,I3,r3,G3,e3,sa3,i3⟩ => ?_
 cases i3
 cases r3
 exact wpAny_truthy_bool ⟨H3,I3,h3 k O2 G3 H3 ((e1.trans e2).trans e3) sa3 hR⟩
end
def DW (O : Sto) (d : D) (ks : List Key) (xs : List D) : Prop := DV O d ks xs \/ ∃ n ob vs,d = .ptr n /\ O[n]? = some (some (.pin ob vs ks xs))
theorem DW.rd {K : PySem.W.Frag} {G : Wd} {H : Hp} {O : Sto} {d : D} {v : V} {ks : List Key} {xs : List D} (h : DW O d ks xs) (s : SA K G H O) (i : Is K G d v) : ∃ p vs,v = .ref p /\ Rd H p (.dK (ks.zip vs)) /\ ks.length = vs.length /\ Iss K G xs vs := by
 rcases h with h | ⟨n,ob,vs,rfl,h⟩
 ·exact h.rd s i
 ·cases i with
  | ptr _ ha =>
   obtain ⟨a,g0,_,g1,g2,g3⟩ := s.mt n _ h
   cases Option.some.inj (ha.symm.trans g0)
   exact ⟨_,vs,rfl,.inr ⟨_,g1⟩,g2,g3⟩
section
variable {X : Cx} {ρ : Rho} {O : Sto} {e a b c iter tg : Expr} {st : Stmt} {body rest : List Stmt} {d da db : D} {xs : List D} {ks : List Key} {k : Key} {ob : Obj} {vs : List V} {ps : List Str} {R : D -> Sto -> Prop} {P : Post} {pos p : Pos} {j n : Nat}
end
theorem atK_nd {α : Type} : ∀ {ks : List Key} {xs : List α} {i : Nat} {k : Key} {x : α},ks.Nodup -> ks[i]? = some k -> xs[i]? = some x -> atK ks xs k = some x
 | [],_,_,_,_,_,h,_ => by simp at h
 | _ :: _,[],_,_,_,_,_,h => by simp at h
 | a :: ks,y :: xs,0,k,x,nd,h1,h2 => by
  cases h1
  cases h2
  unfold atK
  simp [List.find?_cons]
 | a :: ks,y :: xs,i + 1,k,x,nd,h1,h2 => by
  rw [List.getElem?_cons_succ] at h1 h2
  have ne : ¬ a = k := λ e => (List.nodup_cons.mp nd).1 (e ▸ List.mem_of_getElem? h1)
  have e1 : atK (a :: ks) (y :: xs) k = atK ks xs k := by unfold atK; simp [List.find?_cons,ne]
  rw [e1]
  exact atK_nd (List.nodup_cons.mp nd).2 h1 h2
theorem hits_of {A : Around} {s : Shared} {kb : List (Key × Value)} : ∀ {ka : List (Key × Value)},(∀ p ∈ ka,∃ y,valueAt kb p.1 = some y /\ SeqAt.EqAt A s p.2 y true) -> KeqHits A s kb ka true
 | [],_ => .nil
 | (k,v) :: r,h => by
  obtain ⟨y,h1,h2⟩ := h (k,v) List.mem_cons_self
  exact KeqHits.hit (e := true) (b := true) h1 h2 (hits_of λ p hp => h p (List.mem_cons_of_mem _ hp))
section
variable {X : Cx} {O : Sto} {da db : D} {ks : List Key} {ns : List Int} {j : Nat}
theorem dct_same {pins : List (Addr × Obj)} {σ : L2.St} {H : Hp} {s : Shared} {G : Wd} {x y : V} {v u : Value} (hd : DW O da ks (ns.map D.int)) (hb : DW O db ks (ns.map D.int)) (nd : ks.Nodup) (I : L2.Inv X pins σ H s) (sa : SA X.K G H O) (ia : Is X.K G da x) (ib : Is X.K G db y) (rx : RelV x v) (ry : RelV y u) :
  ∃ a b ka kb,v = .ref a /\ u = .ref b /\ (a == sysModules) = false /\ (b == sysModules) = false /\ s.heap.DictOf (Q0u X.prog X.w) a ka /\ s.heap.DictOf (Q0u X.prog X.w) b kb /\ ka.length = kb.length /\ ∀ A,KeqHits A s kb ka true := by
 obtain ⟨p,vs,rfl,g1,g2,g3⟩ := hd.rd sa ia
 obtain ⟨q,us,rfl,k1,k2,k3⟩ := hb.rd sa ib
 cases rx
 cases ry
 obtain ⟨_,z1,wa,ra,d1⟩ := Q3V I.hok g1
 obtain ⟨_,z2,wb,rb,d2⟩ := Q3V I.hok k1
 refine ⟨p,q,wa,wb,rfl,rfl,z1,z2,d1,d2,by rw [<- ra.length,<- rb.length,List.length_zip,List.length_zip]; omega,λ A => hits_of λ e he => ?_⟩
 obtain ⟨i,hi⟩ := List.mem_iff_getElem?.mp he
 have hlt : i < (ks.zip vs).length := by rw [ra.length]; exact (List.getElem?_eq_some_iff.mp hi).1
 have hlk : i < ks.length := by rw [List.length_zip] at hlt; omega
 have hlv : i < vs.length := by omega
 obtain ⟨u1,hu1,r1⟩ := kv_get ra (i := i) (k := ks[i]) (v := vs[i]) (by rw [List.getElem?_eq_getElem hlt,List.getElem_zip])
 rw [hi] at hu1
 cases Option.some.inj hu1
 obtain ⟨d,hd1,hd2⟩ := g3.getV (i := i) (v := vs[i]) (List.getElem?_eq_getElem hlv)
 rw [List.getElem?_map] at hd1
 obtain ⟨m,hm,rfl⟩ := Option.map_eq_some_iff.mp hd1
 have hat := atK_nd (xs := ns.map D.int) nd (List.getElem?_eq_getElem hlk) (by rw [List.getElem?_map,hm]; rfl)
 obtain ⟨v2,hv2,i2⟩ := (atK_v (k := ks[i]) (ks := ks) k3).1 _ hat
 obtain ⟨w2,hw2,r2⟩ := RelO.some_of (v := v2) (o := valueAt wb ks[i]) (by rw [<- hv2]; exact rb.val _)
 generalize vs[i] = vv at hd2 r1
 cases hd2
 cases i2
 obtain ⟨t1,rfl⟩ := r1
 obtain ⟨t2,rfl⟩ := r2
 have := SeqAt.EqAt.int_int (A := A) (s := s) m t1 m t2
 rw [beq_self_eq_true] at this
 exact ⟨_,hw2,this⟩
end
section
variable {X : Cx} {ρ : Rho} {O : Sto} {a : Expr} {da : D} {xs : List D} {ks : List Key} {pos : Pos}
end
mutual
def ndD : D -> Bool
 | .dct _ _ => false
 | .tup xs => ndDs xs
 | .lst xs => ndDs xs
 | .scr xs => ndDs xs
 | .non => true | .bl _ => true | .int _ => true | .str _ => true | .ptr _ => true | .ty _ => true | .fn _ => true
def ndDs : List D -> Bool
 | [] => true
 | x :: xs => ndD x && ndDs xs
end
section
variable {K : PySem.W.Frag} {G : Wd} {p : Addr} {ob : Obj} {kvs : List (Key × V)}
end
section
variable {X : Cx} {ρ : Rho} {O : Sto} {e a b : Expr} {d d0 : D} {xs : List D} {ks : List Key} {k : Key} {R : D -> Sto -> Prop} {pos : Pos} {n : Nat}
theorem ev_fz (hn : npDs xs = true) (h : Ev X ρ O e λ d O' => d = .ptr O.length /\ O' = O ++ [some (.dct ks xs)]) : EvP X ρ O e (.dct ks xs) := λ G pins s σ H Q I ⟨h1,h2,h3⟩ =>
 thn (h G pins s σ H (λ v H' => ∃ G',Ext G G' /\ SA X.K G' H' (O ++ [some (.dct ks xs)]) /\ Is X.K G' (.ptr O.length) v) I ⟨h1,h2,λ v d O' G' H' e s i r => by obtain ⟨rfl,rfl⟩ := r; exact ⟨G',e,s,i⟩⟩) λ u s1 ⟨v,H1,I1,rv,G1,e1,sa1,i1⟩ => by
  obtain ⟨p,vs,hp,hH,hl,r,F⟩ := sa1.frzD (n := O.length) st0
  obtain ⟨ob,I2⟩ := Inv_frz I1 hH
  obtain ⟨e2,s2,i2⟩ := F ob
  rw [ss0] at s2
  obtain ⟨e3,s3⟩ := h1.cut (e1.trans e2) s2
  cases i1 with
  | ptr _ ha =>
  cases Option.some.inj (ha.symm.trans hp)
  exact ⟨.ref p,_,I2,rv,h3 _ _ _ e3 s3 (i2.cut hn _)⟩
end
section
variable {X : Cx} {ρ : Rho} {O : Sto} {a b : Expr} {d da db : D} {ks : List Key} {k : Key} {ns : List Int} {R : D -> Sto -> Prop} {pos : Pos} {j : Nat}
theorem Q2N (ha : EvP X ρ (O ++ [some (.dct [] [])]) a (kD k)) (hb : EvP X ρ (O ++ [some (.dct [] [])]) b d) (h : R (.ptr O.length) (O ++ [some (.dct [k] [d])])) : Ev X ρ O (.Dict [some a] [b] pos) R := λ G pins s σ H Q I ⟨h1,h2,h3⟩ => by
 refine pe_disp (pps_cons (tk := λ σ H Q => ∃ G1,SA X.K G1 H (O ++ [some (.dct [] [])]) /\ EnvR X.K G1 σ ρ /\ ∀ v G' H',Ext G1 G' -> SA X.K G' H' (O ++ [some (.dct [] [])]) -> Is X.K G' (kD k) v -> Q v H') (λ pins s σ H Q I ⟨G1,q⟩ => ha G1 pins s σ H Q I q)
  (tv := λ σ H Q => ∃ G1,SA X.K G1 H (O ++ [some (.dct [] [])]) /\ EnvR X.K G1 σ ρ /\ ∀ v G' H',Ext G1 G' -> SA X.K G' H' (O ++ [some (.dct [] [])]) -> Is X.K G' d v -> Q v H') (λ pins s σ H Q I ⟨G1,q⟩ => hb G1 pins s σ H Q I q) pps_nil) rfl rfl (by intro z; cases z) (by show 1 <= 15; decide) pins s σ H Q I λ p hp => ?_
 obtain ⟨e1,s1⟩ := h1.new (o := .dK []) (m := .dct [] []) hp ⟨[],Q0h,rfl,.nil⟩
 refine ⟨_,s1,h2.ext e1,λ v G2 H2 e2 s2 i2 => ⟨G2,s2,(h2.ext e1).ext e2,λ u G3 H3 e3 s3 i3 => ?_⟩⟩
 obtain ⟨q,q1,q2,vs,q3,q4,q5⟩ := s3.mt O.length _ st0
 have hq : (G3.l)[O.length]? = some p := (e2.trans e3).at (by show (G.l ++ [p])[O.length]? = some p; rw [<- h1.len,List.getElem?_append_right (Nat.le_refl _),Nat.sub_self]; rfl)
 cases Option.some.inj (hq.symm.trans q1)
 refine ⟨q3,[(k,u)],?_,by show 1 <= 15; decide,?_⟩
 ·obtain rfl := kD_v i2
  rfl
 ·have s4 := s3.put (m' := .dct [k] [d]) (o := .dK (Q3L [] [(k,u)])) st0 hq ⟨[u],Q0h,rfl,.cons i3 .nil⟩
  rw [ss0] at s4
  exact h3 _ _ _ G3 _ ((e1.trans e2).trans e3) s4 (.ptr _ hq) h
end
section
variable {X : Cx} {ρ : Rho} {O : Sto} {e a b : Expr} {d : D} {xs : List D} {ks : List Key} {R : D -> Sto -> Prop} {RT : Bool -> Sto -> Prop} {pos : Pos} {n : Nat}
end
end DL
namespace L2
open PySem PySem.Spec PyProof.Rows
section
variable {M : Model} {A : Around} {E : Value -> Shared -> Prop} {s : Shared} {B : Heap} {l : List Env} {a : Addr} {cls a0 : Value}
end
section
variable {CX : CXT} {P : Program} {w : World} {K : PySem.W.Frag} {mg : Str -> Option Value} {base : Heap} {N : List Str} {qual : Str} {scope : Scope} {f : Addr} {cd : Value} {A : Around} {outer : List Env} {s : Shared} {H : Hp} {E : XK}
end
end L2
namespace DL
open PySem PySem.Spec PyProof.Rows L2
section
variable {X : Cx} {N : List Str} {scope : Scope} {s2 s9 s10 : Shared} {H2 H9 H' : Hp} {fp : List Addr} {F : Value -> Shared -> Prop} {pins pinsY : List (Addr × Obj)} {σ σ9 : L2.St} {a C : Addr} {od : Option Addr} {B : Heap} {Q : Value -> Shared -> Prop} {acc : Value}
end
section
variable {X : Cx} {ρ : Rho} {O : Sto} {elt tg iter : Expr} {scope : Scope} {pos : Pos} {xs zs : List D} {RX : XC}
end
section
variable {X : Cx} {ρ : Rho} {O : Sto} {e c elt tg iter : Expr} {scope : Scope} {pos p : Pos} {xs : List D} {RX : XC} {st : Stmt} {rest body orelse : List Stmt} {P : Post} {R : D -> Sto -> Prop}
end
section
variable {P : Program} {w : World} {K : PySem.W.Frag} {mg : Str -> Option Value} {base : Heap}
end
section
variable {prog : Program} {w : World} {A : Around} {E : Value -> Shared -> Prop} {s : Shared}
end
section
variable {X : Cx} {O : Sto} {d : D} {q : Nat} {C ah : Addr} {fs : List (Str × D)}
end
end DL
namespace L2
open PySem PySem.Spec PyProof.Rows
end L2
namespace DL
open PySem PySem.Spec PyProof.Rows L2
section
variable {X : Cx} {ρ : Rho} {O : Sto} {a b a2 b2 : Expr} {d d2 : D} {k k2 : Key} {R : D -> Sto -> Prop} {pos : Pos}
theorem ev_disp2 (hne : k ≠ k2) (ha : EvP X ρ (O ++ [some (.dct [] [])]) a (kD k)) (hb : EvP X ρ (O ++ [some (.dct [] [])]) b d) (ha2 : EvP X ρ (O ++ [some (.dct [] [])]) a2 (kD k2)) (hb2 : EvP X ρ (O ++ [some (.dct [] [])]) b2 d2)
  (h : R (.ptr O.length) (O ++ [some (.dct [k,k2] [d,d2])])) : Ev X ρ O (.Dict [some a,some a2] [b,b2] pos) R := λ G pins s σ H Q I ⟨h1,h2,h3⟩ => by
 refine pe_disp (pps_cons (tk := λ σ H Q => ∃ G1,SA X.K G1 H (O ++ [some (.dct [] [])]) /\ EnvR X.K G1 σ ρ /\ ∀ v G' H',Ext G1 G' -> SA X.K G' H' (O ++ [some (.dct [] [])]) -> Is X.K G' (kD k) v -> Q v H') (λ pins s σ H Q I ⟨G1,q⟩ => ha G1 pins s σ H Q I q)
  (tv := λ σ H Q => ∃ G1,SA X.K G1 H (O ++ [some (.dct [] [])]) /\ EnvR X.K G1 σ ρ /\ ∀ v G' H',Ext G1 G' -> SA X.K G' H' (O ++ [some (.dct [] [])]) -> Is X.K G' d v -> Q v H') (λ pins s σ H Q I ⟨G1,q⟩ => hb G1 pins s σ H Q I q)
  (pps_cons (tk := λ σ H Q => ∃ G1,SA X.K G1 H (O ++ [some (.dct [] [])]) /\ EnvR X.K G1 σ ρ /\ ∀ v G' H',Ext G1 G' -> SA X.K G' H' (O ++ [some (.dct [] [])]) -> Is X.K G' (kD k2) v -> Q v H') (λ pins s σ H Q I ⟨G1,q⟩ => ha2 G1 pins s σ H Q I q)
  (tv := λ σ H Q => ∃ G1,SA X.K G1 H (O ++ [some (.dct [] [])]) /\ EnvR X.K G1 σ ρ /\ ∀ v G' H',Ext G1 G' -> SA X.K G' H' (O ++ [some (.dct [] [])]) -> Is X.K G' d2 v -> Q v H') (λ pins s σ H Q I ⟨G1,q⟩ => hb2 G1 pins s σ H Q I q) pps_nil)) rfl rfl (by intro z; cases z) (by show 2 <= 15; decide) pins s σ H Q I λ p hp => ?_
 obtain ⟨e1,s1⟩ := h1.new (o := .dK []) (m := .dct [] []) hp ⟨[],Q0h,rfl,.nil⟩
 refine ⟨_,s1,h2.ext e1,λ v G2 H2 e2 s2 i2 => ⟨G2,s2,(h2.ext e1).ext e2,λ u G3 H3 e3 s3 i3 => ⟨G3,s3,((h2.ext e1).ext e2).ext e3,λ v2 G4 H4 e4 s4 i4 => ⟨G4,s4,(((h2.ext e1).ext e2).ext e3).ext e4,λ u2 G5 H5 e5 s5 i5 => ?_⟩⟩⟩⟩
 obtain ⟨q,q1,q2,vs,q3,q4,q5⟩ := s5.mt O.length _ st0
 have e25 := ((e2.trans e3).trans e4).trans e5
 have hq : (G5.l)[O.length]? = some p := e25.at (by show (G.l ++ [p])[O.length]? = some p; rw [<- h1.len,List.getElem?_append_right (Nat.le_refl _),Nat.sub_self]; rfl)
 cases Option.some.inj (hq.symm.trans q1)
 have em : Q3L [] [(k,u),(k2,u2)] = [(k,u),(k2,u2)] := by
  show putK (putK [] k u) k2 u2 = _
  have e : putK ([] : List (Key × V)) k u = [(k,u)] := rfl
  rw [e]
  unfold putK
  rw [if_neg (by simp [hne])]
  rfl
 refine ⟨q3,[(k,u),(k2,u2)],?_,by show 2 <= 15; decide,?_⟩
 ·obtain rfl := kD_v i2
  obtain rfl := kD_v i4
  rfl
 ·have s6 := s5.put (m' := .dct [k,k2] [d,d2]) (o := .dK (Q3L [] [(k,u),(k2,u2)])) st0 hq ⟨[u,u2],by rw [em]; exact Q0h,rfl,.cons (i3.ext (e4.trans e5)) (.cons i5 .nil)⟩
  rw [ss0] at s6
  exact h3 _ _ _ G5 _ (e1.trans e25) s6 (.ptr _ hq) h
end
end DL
namespace DL
open PySem PySem.Spec PyProof.Rows L2 PySem.W
section
open PySem.AutoSeq1 (wpAny_loadPart')
open PySem.SeqAt PySem.MeetsSeq PySem.MeetsSeq2 PySem.MeetsSeq3 PySem.SeqRoads2
theorem lists_loop {prog : Program} {w : World} {A : Around} {R : Result -> Shared -> Prop} {s : Shared} {l b : Addr} {us vs : Array Value} {n n2 : Nat} {dd dd2 : Option Addr} {sl sl2 : Array (Option Value)} (hz : us.size = vs.size) (g1 : s.heap.get? l = some { cls := .type "list",dict := dd,data := .seq us n,slots := sl }) (g2 : s.heap.get? b = some { cls := .type "list",dict := dd2,data := .seq vs n2,slots := sl2 })
  (he : ∀ j (h1 : j < us.size) (h2 : j < vs.size) (E : Value -> Shared -> Prop) (Q : Bool -> Shared -> Prop),Q true s -> wpAny (model prog w) A.in1 (eqBool us[j] vs[j]) Q E s) (h : R (.ok (.ret (.bool false))) s) : ∀ (k i : Nat),us.size - i = k ->
  wpAny (model prog w) A.in1 (Builtin.«list.__eq__.loop» ⟨[.ref l,.ref b,rawInt i,rawInt 3],[]⟩) (λ fin s' => match fin with | .done f => R (.ok f) s' | .again c' => c'.quiet = true /\ codeAny (model prog w) A c' R s') (λ e s' => R (.error e) s') s
 | 0,i,hk => by
  wp_walk using wpAny_loadPart' g1,wpAny_loadPart' g2
  rw [show us[((i : Nat) : Int).toNat]? = none by simp; omega,show vs[((i : Nat) : Int).toNat]? = none by simp; omega]
  wp_walk using wpAny_loadPart' g1,wpAny_loadPart' g2
  show R (.ok (.ret (.bool (us.size != vs.size)))) _
  rw [hz,bne_self_eq_false]
  exact h
 | k + 1,i,hk => by
  have h1 : i < us.size := by omega
  have h2 : i < vs.size := by omega
  wp_walk using wpAny_loadPart' g1,wpAny_loadPart' g2
  rw [show us[((i : Nat) : Int).toNat]? = some us[i] by simp [h1],show vs[((i : Nat) : Int).toNat]? = some vs[i] by simp [h2]]
  refine wpAny_bind (he i h1 h2 _ _ ?_)
  wp_walk
  rw [show ((i : Int) + 1) = ((i + 1 : Nat) : Int) by push_cast; rfl]
  exact ⟨plainId_quiet plain_eq_loop _,codeAny_builtin entry_eq_loop (by
   rw [Around.under_plainId plain_eq_loop _]
   exact lists_loop hz g1 g2 he h k (i + 1) (by omega))⟩
theorem lists_ne {prog : Program} {w : World} {A : Around} {E : Value -> Shared -> Prop} {s : Shared} {Q : Value -> Shared -> Prop} {l b : Addr} {us vs : Array Value} (hl : s.heap.IsList l us) (hb : s.heap.IsList b vs) (hz : us.size = vs.size) (hu : A.units < cLine)
  (he : ∀ j (h1 : j < us.size) (h2 : j < vs.size) (E : Value -> Shared -> Prop) (Q : Bool -> Shared -> Prop),Q true s -> wpAny (model prog w) A.in1 (eqBool us[j] vs[j]) Q E s) (h : Q (.bool false) s) : wpAny (model prog w) A (compareOp .NotEq (.ref l) (.ref b)) Q E s := by
 obtain ⟨⟨c1,d1,t1,l1⟩,g1,rfl,n1,rfl⟩ := hl
 obtain ⟨⟨c2,d2,t2,l2⟩,g2,rfl,n2,rfl⟩ := hb
 refine wpAny_richCompare_same_room (op := .NotEq) ⟨_,g1,rfl⟩ ⟨_,g2,rfl⟩ PySem.F.slot_list_ne (call_meetsIn (S := λ A' R s' => A' = A /\ s' = s /\ R (.ok (.ret (.bool false))) s) PySem.F.slot_list_ne ⟨_,g1,rfl⟩ PySem.F.entry_list_ne (PySem.F.args_list_ne_2 _ _) (λ A' R s' ⟨eA,es,hR⟩ => ?_) ⟨rfl,rfl,(by intro z; cases z),h⟩) hu
 subst eA es
 have f3 := PySem.AutoSeq1.sub_list_list
 have hne : ¬ (us.size != vs.size) = true := by simp [hz]
 wp_walk using wpAny_loadPart' g1,wpAny_loadPart' g2
 exact ⟨plainId_quiet plain_eq_loop _,codeAny_builtin entry_eq_loop (by
  rw [Around.under_plainId plain_eq_loop _]
  exact lists_loop hz g1 g2 he hR _ 0 rfl)⟩
end
theorem tups_eq {prog : Program} {w : World} {A : Around} {E : Value -> Shared -> Prop} {s : Shared} {Q : Value -> Shared -> Prop} {l b : Addr} {us vs : Array Value} (hl : s.heap.IsTuple l us) (hb : s.heap.IsTuple b vs) (hz : us.size = vs.size) (hu : A.units < cLine)
  (he : ∀ p ∈ us.toList.zip vs.toList,∀ (E : Value -> Shared -> Prop) (Q : Bool -> Shared -> Prop),Q true s -> wpAny (model prog w) A.in1 (eqBool p.1 p.2) Q E s) (h : Q (.bool true) s) : wpAny (model prog w) A (compareOp .Eq (.ref l) (.ref b)) Q E s := by
 obtain ⟨⟨c1,d1,t1,l1⟩,g1,rfl,n1,rfl⟩ := hl
 obtain ⟨⟨c2,d2,t2,l2⟩,g2,rfl,n2,rfl⟩ := hb
 refine wpAny_richCompare_same_room (op := .Eq) ⟨_,g1,rfl⟩ ⟨_,g2,rfl⟩ PySem.F.slot_tuple_eq (wpAny_call_entry PySem.F.slot_tuple_eq ⟨_,g1,rfl⟩ PySem.F.entry_tuple_eq ?_ (PySem.F.args_tuple_eq_2 _ _)) hu
 have f2 := PySem.AutoSeq1.sub_tuple_tuple
 wp_walk using PySem.AutoSeq1.wpAny_loadPart' g1,PySem.AutoSeq1.wpAny_loadPart' g2,wpAny_forIn_list _ (λ rest b s' => b.1 = none /\ s' = s /\ ∀ p ∈ rest,∀ (E : Value -> Shared -> Prop) (Q : Bool -> Shared -> Prop),Q true s -> wpAny (model prog w) A.in1 (eqBool p.1 p.2) Q E s) _
 case turn =>
  rintro ⟨x,y⟩ rest b s' ⟨hb,rfl,hr⟩
  refine wpAny_bind (hr (x,y) List.mem_cons_self _ _ ?_)
  wp_walk
  exact ⟨rfl,rfl,λ p hp => hr p (List.mem_cons_of_mem _ hp)⟩
 case fin =>
  rintro ⟨b1,b2⟩ s' ⟨hb,rfl,_⟩
  cases hb
  wp_walk
  refine ⟨_,rfl,(by intro z; cases z),?_⟩
  have e : Builtin.Tuple.tupleCompareSizes .Eq us.size vs.size = .bool true := by
   show Value.bool (us.size == vs.size) = _
   rw [hz,beq_self_eq_true]
  rw [e]
  exact h
 case h => exact ⟨rfl,rfl,he⟩
theorem eqb_refs {prog : Program} {w : World} {A : Around} {E : Value -> Shared -> Prop} {s : Shared} {Q : Bool -> Shared -> Prop} {l b : Addr} (h : l ≠ b -> ∀ Q' : Value -> Shared -> Prop,Q' (.bool true) s -> wpAny (model prog w) A (compareOp .Eq (.ref l) (.ref b)) Q' E s) (hq : Q true s) : wpAny (model prog w) A (eqBool (.ref l) (.ref b)) Q E s := by
 by_cases e : l = b
 ·subst e; exact SeqAt.EqAt.same (A := A) (.ref l) _ _ _ _ hq
 ·unfold eqBool
  refine wpAny_holding (wpAny_ite_split (λ hab => absurd (by have := eq_of_beq hab; injection this) e) λ _ => wpAny_bind ?_)
  exact h e _ (wpAny_truthy_bool hq)
section
variable {X : Cx} {ρ : Rho} {O : Sto} {da db : D} {ks : List Key} {ns : List Int} {j : Nat} {ts : List D}
theorem cmp_neLK {c m : Int} (hr : Room j X.A) (hp : plD (.tup ts) = true) (hdp : dpD (.tup ts) <= 50) (ht : eqD (.tup ts) (.tup ts) = true) (hd : DW O da ks (ns.map D.int)) (hb : DW O db ks (ns.map D.int)) (nd : ks.Nodup) :
  Op2 X O (compareOp .NotEq) (.lst [.tup ts,.int c,.tup [da,.int m]]) (.lst [.tup ts,.int c,.tup [db,.int m]]) (.bl false) := λ G pins s σ H x y v u Q I rx ry ⟨h1,h2,h3,h4⟩ => by
 cases h2 with
 | lst ha ra =>
 cases h3 with
 | lst hb' rb =>
 cases rx
 cases ry
 obtain ⟨its,va,pl1,_⟩ := I.list (SqL.of (h1.sub _ _ ha))
 obtain ⟨jts,vb,pl2,_⟩ := I.list (SqL.of (h1.sub _ _ hb'))
 have il := pl1.isList
 have jl := pl2.isList
 cases ra with
 | cons ia0 ra =>
 cases ra with
 | cons ia1 ra =>
 cases ra with
 | cons ia2 ra =>
 cases ra
 cases ia1
 cases rb with
 | cons ib0 rb =>
 cases rb with
 | cons ib1 rb =>
 cases rb with
 | cons ib2 rb =>
 cases rb
 cases ib1
 cases va with
 | cons r0 va =>
 cases va with
 | cons r1 va =>
 cases va with
 | cons r2 va =>
 cases va
 cases vb with
 | cons s0 vb =>
 cases vb with
 | cons s1 vb =>
 cases vb with
 | cons s2 vb =>
 cases vb
 obtain ⟨t,rfl⟩ := r1
 obtain ⟨t',rfl⟩ := s1
 have hu := hr.un
 have hu2 := hr.units
 obtain ⟨as,rd1⟩ := RD.reads (O := O) (d := .tup ts) (.inl rfl) I h1 ia0 r0 hp
 obtain ⟨bs,rd2⟩ := RD.reads (O := O) (d := .tup ts) (.inl rfl) I h1 ib0 s0 hp
 cases ia0 with
 | tup hA0 rA0 =>
 cases ib0 with
 | tup hB0 rB0 =>
 cases r0
 cases s0
 cases ia2 with
 | tup hA2 rA2 =>
 cases ib2 with
 | tup hB2 rB2 =>
 cases r2
 cases s2
 obtain ⟨kts,vc,tp1,_⟩ := I.tuple (Q1c h1.sub hA2)
 obtain ⟨lts,vd,tp2,_⟩ := I.tuple (Q1c h1.sub hB2)
 cases rA2 with
 | cons ia rA2 =>
 cases rA2 with
 | cons ia2 rA2 =>
 cases rA2
 cases ia2
 cases rB2 with
 | cons ib rB2 =>
 cases rB2 with
 | cons ib2 rB2 =>
 cases rB2
 cases ib2
 cases vc with
 | cons q1 vc =>
 cases vc with
 | cons q2 vc =>
 cases vc
 cases vd with
 | cons w1 vd =>
 cases vd with
 | cons w2 vd =>
 cases vd
 obtain ⟨t2,rfl⟩ := q2
 obtain ⟨t3,rfl⟩ := w2
 obtain ⟨pa,pb,ka,kb,rfl,rfl,z1,z2,d1,d2,hl,hh⟩ := dct_same hd hb nd I h1 ia ib q1 w1
 refine lists_ne il jl rfl (by omega) (λ i i1 i2 E Q hq => ?_) ⟨.bl false,H,I,rfl,h4 _ G H (Ext.refl _) h1 (.bl false)⟩
 match i,i1 with
 | 0,_ =>
  refine eqb_refs (λ _ Q' hq' => ?_) hq
  refine PySem.SeqAt.compareEq_reads rd1 rd2 (pl_lay _ hp) (pl_lay _ hp) (by rw [dp_py]; show X.A.units + 1 + _ < _; omega) ?_
  have : PyData.eqv (toPy (.tup ts)) (toPy (.tup ts)) = true := ht
  rw [this]
  exact hq'
 | 1,_ =>
  have := SeqAt.EqAt.int_int (A := X.A.in1) (s := s) c t c t'
  rw [beq_self_eq_true] at this
  exact this _ _ _ _ hq
 | 2,_ =>
  refine eqb_refs (λ _ Q' hq' => ?_) hq
  refine tups_eq tp1 tp2 rfl (by show X.A.units + 1 < _; omega) (λ p hp E Q hq => ?_) hq'
  have hp : p ∈ [(Value.ref pa,Value.ref pb),(Value.int m t2,Value.int m t3)] := hp
  rcases List.mem_cons.mp hp with rfl | hp
  ·show wpAny _ _ (eqBool (.ref pa) (.ref pb)) _ _ _
   refine eqb_refs (λ _ Q'' hq'' => ?_) hq
   refine keq_eq (r := true) z1 z2 d1 d2 (by show X.A.units + 1 + 1 < _; omega) (λ _ => hh _) ?_
   rw [hl,beq_self_eq_true]
   exact hq''
  ·cases List.mem_singleton.mp hp
   have := SeqAt.EqAt.int_int (A := X.A.in1.in1) (s := s) m t2 m t3
   rw [beq_self_eq_true] at this
   exact this _ _ _ _ hq
end
end DL
namespace DL
open PySem PySem.Spec PyProof.Rows L2
section
variable {X : Cx} {ρ : Rho} {O : Sto} {da ea : D} {xs : List D} {k : Nat} {es : List Expr} {R : D -> Sto -> Prop} {pos : Pos}
theorem cmp_niDT (hr : Room k X.A) (ha : RD O da ea) (pa : plD ea = true) (px : plDs xs = true) (hd : min (dpDs xs) (dpD ea) <= 60) : Op2 X O (compareOp .NotIn) da (.tup xs) (.bl (!xs.any λ y => eqD y ea)) := λ G pins s σ H x y v u Q I rx ry ⟨h1,h2,h3,h4⟩ => by
 obtain ⟨as,ra⟩ := ha.reads I h1 h2 rx pa
 obtain ⟨bs,rb⟩ := RD.reads (O := O) (d := .tup xs) (.inl rfl) I h1 h3 ry px
 have hu := hr.units
 refine PySem.SeqAt.notIn_tuple_reads (xs := Q2q xs) rb ra (Q2t _ px) (pl_lay _ pa) (by rw [dp_py,Q3M]; omega) ?_
 rw [any_py]
 exact ⟨.bl _,H,I,rfl,h4 _ G H (Ext.refl _) h1 (.bl _)⟩
theorem cmp_inDT (hr : Room k X.A) (ha : RD O da ea) (pa : plD ea = true) (px : plDs xs = true) (hd : min (dpDs xs) (dpD ea) <= 60) : Op2 X O (compareOp .In) da (.tup xs) (.bl (xs.any λ y => eqD y ea)) := λ G pins s σ H x y v u Q I rx ry ⟨h1,h2,h3,h4⟩ => by
 obtain ⟨as,ra⟩ := ha.reads I h1 h2 rx pa
 obtain ⟨bs,rb⟩ := RD.reads (O := O) (d := .tup xs) (.inl rfl) I h1 h3 ry px
 have hu := hr.units
 refine PySem.SeqAt.in_tuple_reads (xs := Q2q xs) rb ra (Q2t _ px) (pl_lay _ pa) (by rw [dp_py,Q3M]; omega) ?_
 rw [any_py]
 exact ⟨.bl _,H,I,rfl,h4 _ G H (Ext.refl _) h1 (.bl _)⟩
end
end DL
set_option maxHeartbeats 4000000
namespace My
open PySem PySem.Spec PyProof.Rows L2 DL
def top (i : Nat) : Stmt := PySem.Challenge.pw_heedwise_k83_what_a_book_refuses.main.body.getD i (.Pass ⟨0,0,0,0⟩)
abbrev Q0C : Stmt := Q1N (top 2) 0
abbrev Q3H : List Str := ["self","number"]
theorem Q3g : Q0o Q3H ["self","number"] (Q0f Q0C) := ⟨rfl,rfl,rfl,by decide +kernel,rfl,by decide +kernel,by decide +kernel⟩
abbrev Q1D : Stmt := top 9
abbrev N_is_whole : List Str := ["value"]
theorem sc_is_whole : Q0o N_is_whole ["value"] (Q0f Q1D) := ⟨rfl,rfl,rfl,by decide +kernel,rfl,by decide +kernel,by decide +kernel⟩
abbrev Q3x : Stmt := top 10
abbrev N_power : List Str := ["base","exponent","product","step"]
theorem Q4d : Q0o N_power ["base","exponent"] (Q0f Q3x) := ⟨rfl,rfl,rfl,by decide +kernel,rfl,by decide +kernel,by decide +kernel⟩
abbrev Q1W : Stmt := top 11
abbrev N_counted : List Str := ["weights"]
theorem sc_counted : Q0o N_counted ["weights"] (Q0f Q1W) := ⟨rfl,rfl,rfl,by decide +kernel,rfl,by decide +kernel,by decide +kernel⟩
abbrev Q2E : Stmt := top 12
abbrev N_middle : List Str := ["numbers","weights","shares","whole","reached","number","share"]
theorem Q1F : Q0o N_middle ["numbers","weights"] (Q0f Q2E) := ⟨rfl,rfl,rfl,by decide +kernel,rfl,by decide +kernel,by decide +kernel⟩
abbrev Q1e : Stmt := top 14
abbrev N_is_on_scale : List Str := ["scale","value"]
theorem sc_is_on_scale : Q0o N_is_on_scale ["scale","value"] (Q0f Q1e) := ⟨rfl,rfl,rfl,by decide +kernel,rfl,by decide +kernel,by decide +kernel⟩
abbrev Q2J : Stmt := top 15
abbrev N_charge : List Str := ["what","so"]
theorem sc_charge : Q0o N_charge ["what","so"] (Q0f Q2J) := ⟨rfl,rfl,rfl,by decide +kernel,rfl,by decide +kernel,by decide +kernel⟩
abbrev Q1d : Stmt := top 17
abbrev N_times_awake : List Str := ["keeper","own","off","kept"]
theorem Q2P : Q0o N_times_awake ["keeper","own","off"] (Q0f Q1d) := ⟨rfl,rfl,rfl,by decide +kernel,rfl,by decide +kernel,by decide +kernel⟩
abbrev Q0S : Stmt := top 18
abbrev N_times_asleep : List Str := ["keeper","own"]
theorem sc_times_asleep : Q0o N_times_asleep ["keeper","own"] (Q0f Q0S) := ⟨rfl,rfl,rfl,by decide +kernel,rfl,by decide +kernel,by decide +kernel⟩
abbrev Q3w : Stmt := top 19
abbrev N_times : List Str := ["keeper","own","what","so"]
theorem sc_times : Q0o N_times ["keeper","own","what","so"] (Q0f Q3w) := ⟨rfl,rfl,rfl,by decide +kernel,rfl,by decide +kernel,by decide +kernel⟩
abbrev Q0U : Stmt := top 27
abbrev N_check_within : List Str := ["what","value","least","most"]
theorem sc_check_within : Q0o N_check_within ["what","value","least","most"] (Q0f Q0U) := ⟨rfl,rfl,rfl,by decide +kernel,rfl,by decide +kernel,by decide +kernel⟩
abbrev Q1g : Stmt := top 28
abbrev N_check_scale : List Str := ["scale"]
theorem sc_check_scale : Q0o N_check_scale ["scale"] (Q0f Q1g) := ⟨rfl,rfl,rfl,by decide +kernel,rfl,by decide +kernel,by decide +kernel⟩
abbrev Q0J : Stmt := top 29
abbrev Q3X : List Str := ["top","bottom"]
theorem Q3v : Q0o Q3X ["top","bottom"] (Q0f Q0J) := ⟨rfl,rfl,rfl,by decide +kernel,rfl,by decide +kernel,by decide +kernel⟩
abbrev Q1V : Stmt := top 33
abbrev N_is_name : List Str := ["name"]
theorem sc_is_name : Q0o N_is_name ["name"] (Q0f Q1V) := ⟨rfl,rfl,rfl,by decide +kernel,rfl,by decide +kernel,by decide +kernel⟩
abbrev Q1l : Stmt := top 34
abbrev N_check_name : List Str := ["name"]
theorem sc_check_name : Q0o N_check_name ["name"] (Q0f Q1l) := ⟨rfl,rfl,rfl,by decide +kernel,rfl,by decide +kernel,by decide +kernel⟩
abbrev Q1f : Stmt := top 35
abbrev N_check_there : List Str := ["tops","name"]
theorem sc_check_there : Q0o N_check_there ["tops","name"] (Q0f Q1f) := ⟨rfl,rfl,rfl,by decide +kernel,rfl,by decide +kernel,by decide +kernel⟩
abbrev Q0I : Stmt := top 36
abbrev Q3W : List Str := ["tops","said","name"]
theorem Q1r : Q0o Q3W ["tops","said"] (Q0f Q0I) := ⟨rfl,rfl,rfl,by decide +kernel,rfl,by decide +kernel,by decide +kernel⟩
abbrev Q0O : Stmt := top 37
abbrev N_check_numbers : List Str := ["scale","numbers"]
theorem Q3P : Q0o N_check_numbers ["scale","numbers"] (Q0f Q0O) := ⟨rfl,rfl,rfl,by decide +kernel,rfl,by decide +kernel,by decide +kernel⟩
abbrev Q0P : Stmt := Q1N (top 41) 0
abbrev N_Book___init__ : List Str := ["self","scale","top","bottom"]
theorem Q3Q : Q0o N_Book___init__ ["self","scale","top","bottom"] (Q0f Q0P) := ⟨rfl,rfl,rfl,by decide +kernel,rfl,by decide +kernel,by decide +kernel⟩
abbrev Q1v : Stmt := Q1N (top 41) 1
abbrev N_Book_come : List Str := ["self","name"]
theorem sc_Book_come : Q0o N_Book_come ["self","name"] (Q0f Q1v) := ⟨rfl,rfl,rfl,by decide +kernel,rfl,by decide +kernel,by decide +kernel⟩
abbrev Q1X : Stmt := Q1N (top 41) 2
abbrev N_Book_go : List Str := ["self","name"]
theorem sc_Book_go : Q0o N_Book_go ["self","name"] (Q0f Q1X) := ⟨rfl,rfl,rfl,by decide +kernel,rfl,by decide +kernel,by decide +kernel⟩
abbrev Q1m : Stmt := Q1N (top 41) 3
abbrev N_Book_there : List Str := ["self"]
theorem sc_Book_there : Q0o N_Book_there ["self"] (Q0f Q1m) := ⟨rfl,rfl,rfl,by decide +kernel,rfl,by decide +kernel,by decide +kernel⟩
abbrev Q1u : Stmt := Q1N (top 41) 4
abbrev N_Book_ever : List Str := ["self"]
theorem sc_Book_ever : Q0o N_Book_ever ["self"] (Q0f Q1u) := ⟨rfl,rfl,rfl,by decide +kernel,rfl,by decide +kernel,by decide +kernel⟩
abbrev Q0V : Stmt := Q1N (top 41) 5
abbrev N_Book_weights : List Str := ["self"]
theorem sc_Book_weights : Q0o N_Book_weights ["self"] (Q0f Q0V) := ⟨rfl,rfl,rfl,by decide +kernel,rfl,by decide +kernel,by decide +kernel⟩
abbrev Q1E : Stmt := Q1N (top 41) 6
abbrev N_Book_say : List Str := ["self","said"]
theorem sc_Book_say : Q0o N_Book_say ["self","said"] (Q0f Q1E) := ⟨rfl,rfl,rfl,by decide +kernel,rfl,by decide +kernel,by decide +kernel⟩
abbrev Q0D : Stmt := Q1N (top 41) 7
abbrev Q3I : List Str := ["self","said","so","saying"]
theorem Q0X : Q0o Q3I ["self","said","so"] (Q0f Q0D) := ⟨rfl,rfl,rfl,by decide +kernel,rfl,by decide +kernel,by decide +kernel⟩
abbrev Q1t : Stmt := Q1N (top 41) 8
abbrev N_Book_hear : List Str := ["self","said","so","own","behind","name","kept"]
theorem Q1a : Q0o N_Book_hear ["self","said","so"] (Q0f Q1t) := ⟨rfl,rfl,rfl,by decide +kernel,rfl,by decide +kernel,by decide +kernel⟩
abbrev Q1s : Stmt := top 43
abbrev N_l_cell_at : List Str := ["_law_script","_law_k"]
theorem sc_l_cell_at : Q0o N_l_cell_at ["_law_script","_law_k"] (Q0f Q1s) := ⟨rfl,rfl,rfl,by decide +kernel,rfl,by decide +kernel,by decide +kernel⟩
abbrev Q1C : Stmt := top 44
abbrev N_l_stream : List Str := ["_law_cell","_law_many","_law_found","_law_number","_law_k"]
theorem Q1G : Q0o N_l_stream ["_law_cell","_law_many"] (Q0f Q1C) := ⟨rfl,rfl,rfl,by decide +kernel,rfl,by decide +kernel,by decide +kernel⟩
abbrev Q2H : Stmt := top 45
abbrev N_l_rule : List Str := ["_law_script","_law_scale","_law_bottom"]
theorem Q2s : Q0o N_l_rule ["_law_script"] (Q0f Q2H) := ⟨rfl,rfl,rfl,by decide +kernel,rfl,by decide +kernel,by decide +kernel⟩
abbrev Q1U : Stmt := top 46
abbrev N_l_cells : List Str := ["_law_script","_law_first","_law_cell"]
theorem sc_l_cells : Q0o N_l_cells ["_law_script","_law_first"] (Q0f Q1U) := ⟨rfl,rfl,rfl,by decide +kernel,rfl,by decide +kernel,by decide +kernel⟩
abbrev Q1S : Stmt := top 47
abbrev N_l_names : List Str := ["_law_cell","_law_many","_law_letters","_law_size","_law_at","_law_names_here","_law_k","_law_name","_law_j","_law_step"]
theorem Q0R : Q0o N_l_names ["_law_cell","_law_many"] (Q0f Q1S) := ⟨rfl,rfl,rfl,by decide +kernel,rfl,by decide +kernel,by decide +kernel⟩
abbrev Q2G : Stmt := top 48
abbrev N_l_said : List Str := ["_law_there","_law_numbers","_law_scale","_law_said_here","_law_k"]
theorem sc_l_said : Q0o N_l_said ["_law_there","_law_numbers","_law_scale"] (Q0f Q2G) := ⟨rfl,rfl,rfl,by decide +kernel,rfl,by decide +kernel,by decide +kernel⟩
abbrev Q1T : Stmt := top 49
abbrev N_l_deeds : List Str := ["_law_cells_here","_law_names_here","_law_scale","_law_deeds_here","_law_there","_law_ever","_law_cell","_law_numbers","_law_name"]
theorem Q1j : Q0o N_l_deeds ["_law_cells_here","_law_names_here","_law_scale"] (Q0f Q1T) := ⟨rfl,rfl,rfl,by decide +kernel,rfl,by decide +kernel,by decide +kernel⟩
abbrev Q1k : Stmt := top 50
abbrev N_l_bad_name : List Str := ["_law_cell"]
theorem sc_l_bad_name : Q0o N_l_bad_name ["_law_cell"] (Q0f Q1k) := ⟨rfl,rfl,rfl,by decide +kernel,rfl,by decide +kernel,by decide +kernel⟩
abbrev Q0T : Stmt := top 51
abbrev N_l_bad_number : List Str := ["_law_cell","_law_scale"]
theorem sc_l_bad_number : Q0o N_l_bad_number ["_law_cell","_law_scale"] (Q0f Q0T) := ⟨rfl,rfl,rfl,by decide +kernel,rfl,by decide +kernel,by decide +kernel⟩
abbrev Q2I : Stmt := top 52
abbrev N_l_deed : List Str := ["_law_book","_law_way","_law_names_here","_law_cell","_law_scale","_law_number","_law_top","_law_bottom"]
theorem Q3f : Q0o N_l_deed ["_law_book","_law_way","_law_names_here","_law_cell","_law_scale"] (Q0f Q2I) := ⟨rfl,rfl,rfl,by decide +kernel,rfl,by decide +kernel,by decide +kernel⟩
abbrev Q2F : Stmt := top 53
abbrev N_l_told : List Str := ["_law_book","_law_way","_law_names_here","_law_cell","_law_scale","_law_some","e"]
theorem Q0Z : Q0o N_l_told ["_law_book","_law_way","_law_names_here","_law_cell","_law_scale"] (Q0f Q2F) := ⟨rfl,rfl,rfl,by decide +kernel,rfl,by decide +kernel,by decide +kernel⟩
abbrev s_law : Stmt := top 54
abbrev N_law : List Str := ["_law_script","_law_scale","_law_top","_law_bottom","_law_book","_law_names_here","_law_deed_here","_law_kept","_law_k","_law_way","_law_due"]
theorem Q2k : Q0o N_law ["_law_script"] (Q0f s_law) := ⟨rfl,rfl,rfl,by decide +kernel,rfl,by decide +kernel,by decide +kernel⟩
structure Txt (K : PySem.W.Frag) (mg : Str -> Option Value) (CK0 CK1 CK5 CK4 CK2 CK7 CK3 CK6 : Addr) : Prop where
 b_len : mg "len" = none
 b_tuple : mg "tuple" = none
 b_list : mg "list" = none
 b_sum : mg "sum" = none
 b_zip : mg "zip" = none
 b_sorted : mg "sorted" = none
 b_range : mg "range" = none
 b_isinstance : mg "isinstance" = none
 b_int : mg "int" = none
 b_bool : mg "bool" = none
 b_str : mg "str" = none
 b_dict : mg "dict" = none
 b_all : mg "all" = none
 b_abs : mg "abs" = none
 b_ValueError : mg "ValueError" = none
 g_MOST_SCALE : ∃ t,mg "MOST_SCALE" = some (.int 10 t)
 g_MOST_BOTTOM : ∃ t,mg "MOST_BOTTOM" = some (.int 100 t)
 g_LETTERS : ∃ t,mg "LETTERS" = some (.str "abcdefghijklmnopqrstuvwxyz" t)
 g_MOST_LETTERS : ∃ t,mg "MOST_LETTERS" = some (.int 8 t)
 c_Book : ClsTy K CK0
 m_Book : mg "Book" = some (.ref CK0)
 n_Book_scale : Q1L K CK0 "scale"
 n_Book_top : Q1L K CK0 "top"
 n_Book_bottom : Q1L K CK0 "bottom"
 n_Book_tops : Q1L K CK0 "tops"
 n_Book_under : Q1L K CK0 "under"
 n_Book_came : Q1L K CK0 "came"
 m_HeedError : mg "HeedError" = some (.ref CK1)
 e_HeedError : PySem.W.excIn K CK1 bmV "ValueError.__new__" = true
 m_NoTurn : mg "NoTurn" = some (.ref CK5)
 t_NoTurn : Q2n K CK5
 n_NoTurn_number : PySem.W.findIn K (.ref CK5) "number" = some none
 x_NoTurn_HeedError : PySem.W.exmOne K (.ref CK5) (.ref CK1) = some true
 i_NoTurn_NoTurn : PySem.W.kitOne K (.ref CK5) (.ref CK5) = some true
 i_NoTurn_NoRow : PySem.W.kitOne K (.ref CK5) (.ref CK3) = some false
 i_NoTurn_NoRule : PySem.W.kitOne K (.ref CK5) (.ref CK4) = some false
 i_NoTurn_NoWay : PySem.W.kitOne K (.ref CK5) (.ref CK6) = some false
 i_NoTurn_NoName : PySem.W.kitOne K (.ref CK5) (.ref CK2) = some false
 i_NoTurn_Twice : PySem.W.kitOne K (.ref CK5) (.ref CK7) = some false
 m_NoRule : mg "NoRule" = some (.ref CK4)
 e_NoRule : PySem.W.excIn K CK4 bmV "ValueError.__new__" = true
 t_NoRule : Q2n K CK4
 x_NoRule_HeedError : PySem.W.exmOne K (.ref CK4) (.ref CK1) = some true
 i_NoRule_NoTurn : PySem.W.kitOne K (.ref CK4) (.ref CK5) = some false
 i_NoRule_NoRow : PySem.W.kitOne K (.ref CK4) (.ref CK3) = some false
 i_NoRule_NoRule : PySem.W.kitOne K (.ref CK4) (.ref CK4) = some true
 i_NoRule_NoWay : PySem.W.kitOne K (.ref CK4) (.ref CK6) = some false
 i_NoRule_NoName : PySem.W.kitOne K (.ref CK4) (.ref CK2) = some false
 i_NoRule_Twice : PySem.W.kitOne K (.ref CK4) (.ref CK7) = some false
 m_NoName : mg "NoName" = some (.ref CK2)
 e_NoName : PySem.W.excIn K CK2 bmV "ValueError.__new__" = true
 t_NoName : Q2n K CK2
 x_NoName_HeedError : PySem.W.exmOne K (.ref CK2) (.ref CK1) = some true
 i_NoName_NoTurn : PySem.W.kitOne K (.ref CK2) (.ref CK5) = some false
 i_NoName_NoRow : PySem.W.kitOne K (.ref CK2) (.ref CK3) = some false
 i_NoName_NoRule : PySem.W.kitOne K (.ref CK2) (.ref CK4) = some false
 i_NoName_NoWay : PySem.W.kitOne K (.ref CK2) (.ref CK6) = some false
 i_NoName_NoName : PySem.W.kitOne K (.ref CK2) (.ref CK2) = some true
 i_NoName_Twice : PySem.W.kitOne K (.ref CK2) (.ref CK7) = some false
 m_Twice : mg "Twice" = some (.ref CK7)
 e_Twice : PySem.W.excIn K CK7 bmV "ValueError.__new__" = true
 t_Twice : Q2n K CK7
 x_Twice_HeedError : PySem.W.exmOne K (.ref CK7) (.ref CK1) = some true
 i_Twice_NoTurn : PySem.W.kitOne K (.ref CK7) (.ref CK5) = some false
 i_Twice_NoRow : PySem.W.kitOne K (.ref CK7) (.ref CK3) = some false
 i_Twice_NoRule : PySem.W.kitOne K (.ref CK7) (.ref CK4) = some false
 i_Twice_NoWay : PySem.W.kitOne K (.ref CK7) (.ref CK6) = some false
 i_Twice_NoName : PySem.W.kitOne K (.ref CK7) (.ref CK2) = some false
 i_Twice_Twice : PySem.W.kitOne K (.ref CK7) (.ref CK7) = some true
 m_NoRow : mg "NoRow" = some (.ref CK3)
 m_NoWay : mg "NoWay" = some (.ref CK6)
def cnt (ws : List Int) : List Int := if ws.sum = 0 then ws.map (λ _ => 1) else ws
theorem cnt_len (ws : List Int) : (cnt ws).length = ws.length := by unfold cnt; split <;> simp
def Wok (ws : List Int) : Prop := ∀ w ∈ ws,0 <= w
theorem cnt_ok {ws : List Int} (h : Wok ws) : Wok (cnt ws) := by
 unfold cnt
 split
 ·intro w hw
  obtain ⟨_,_,rfl⟩ := List.mem_map.mp hw
  decide
 ·exact h
def go (W : Int) : Int -> List (Int × Int) -> Int
 | _,[] => 0
 | r,p :: l => if W <= 2 * (r + p.2) then p.1 else go W (r + p.2) l
def mid (ns ws : List Int) : Int := go (cnt ws).sum 0 (srt ltP (ns.zip (cnt ws)))
def Two (ns ws : List Int) : Prop := ns.length = ws.length /\ ws.length <= 63 /\ Wok ws
def spCounted : List D -> D -> Prop := λ ds d => ∃ ws : List Int,ds = [.tup (ws.map D.int)] /\ ws.length <= 63 /\ d = .lst ((cnt ws).map D.int)
def spMiddle : List D -> D -> Prop := λ ds d => ∃ ns ws : List Int,ds = [.tup (ns.map D.int),.tup (ws.map D.int)] /\ Two ns ws /\ d = .int (mid ns ws)
def cellAt (ns : List Int) (k : Int) : Int := (ns[k.toNat]?).getD 0
def spCell : List D -> D -> Prop := λ ds d => ∃ (ns : List Int) (k : Int),ds = [.scr (ns.map D.int),.int k] /\ 0 <= k /\ d = .int (cellAt ns k)
def below (f : Int) (ns ws : List Int) : Int := sm (λ q => if q.1 < f then q.2 else 0) (ns.zip ws)
def there (f : Int) (ns ws : List Int) : Int := sm (λ q => if q.1 = f then q.2 else 0) (ns.zip ws)
def rightB (f : Int) (ns ws : List Int) : Bool := if ns = [] then decide (f = 0) else (decide (f ∈ ns) && (decide (2 * below f ns (cnt ws) < (cnt ws).sum) && decide ((cnt ws).sum <= 2 * (below f ns (cnt ws) + there f ns (cnt ws)))))
theorem go_at (W : Int) : ∀ (L : List (Int × Int)) (r : Int),2 * r < W -> W <= 2 * (r + sm (λ q => q.2) L) -> ∃ A p B,L = A ++ p :: B /\ 2 * (r + sm (λ q => q.2) A) < W /\ W <= 2 * (r + sm (λ q => q.2) A + p.2) /\ go W r L = p.1
 | [],r,h1,h2 => by exfalso; unfold sm at h2; omega
 | p :: L,r,h1,h2 => by
  unfold go
  by_cases h : W <= 2 * (r + p.2)
  ·rw [if_pos h]
   refine ⟨[],p,L,rfl,?_,?_,rfl⟩
   ·show 2 * (r + 0) < W; omega
   ·show W <= 2 * (r + 0 + p.2); omega
  ·rw [if_neg h]
   have h2 : W <= 2 * (r + (p.2 + sm (λ q => q.2) L)) := h2
   obtain ⟨A,q,B,e1,e2,e3,e4⟩ := go_at W L (r + p.2) (by omega) (by omega)
   refine ⟨p :: A,q,B,by rw [e1]; rfl,?_,?_,e4⟩
   ·show 2 * (r + (p.2 + sm (λ q => q.2) A)) < W; omega
   ·show W <= 2 * (r + (p.2 + sm (λ q => q.2) A) + q.2); omega
theorem sum_pos {ws : List Int} (h : Wok ws) : 0 <= ws.sum := by
 rw [sum_sm]; exact sm_pos λ a ha => h a ha
theorem cnt_pos {ws : List Int} (h : Wok ws) (hn : ws ≠ []) : 0 < (cnt ws).sum := by
 unfold cnt
 split
 ·cases ws with
  | nil => exact absurd rfl hn
  | cons a l =>
   rw [List.map_cons,List.sum_cons]
   have : 0 <= (l.map λ _ => (1 : Int)).sum := by rw [sm_sum]; exact sm_pos λ _ _ => by decide
   omega
 ·have := sum_pos h
  omega
theorem right_mid {ns ws : List Int} (h : Two ns ws) : rightB (mid ns ws) ns ws = true := by
 obtain ⟨h1,h2,h3⟩ := h
 unfold rightB
 by_cases hn : ns = []
 ·rw [if_pos hn]
  subst hn
  have e : mid [] ws = 0 := by unfold mid srt; simp [go]
  exact decide_eq_true e
 ·rw [if_neg hn]
  have hw : ws ≠ [] := by
   intro e; apply hn
   rw [e] at h1
   exact List.eq_nil_of_length_eq_zero h1
  have hp := cnt_pos h3 hw
  have hc := cnt_ok h3
  have hl : ns.length = (cnt ws).length := by rw [cnt_len]; exact h1
  unfold mid below there
  generalize cnt ws = cs at hp hc hl
  have pm := Q1K ltP (ns.zip cs)
  have pw := srt_pw ordP (ns.zip cs)
  have hs : sm (λ q : Int × Int => q.2) (srt ltP (ns.zip cs)) = cs.sum := by rw [sm_perm pm,sm_zip_snd hl]
  obtain ⟨A,p,B,e1,e2,e3,e4⟩ := go_at cs.sum (srt ltP (ns.zip cs)) 0 (by omega) (by rw [hs]; omega)
  rw [e4]
  have nn : ∀ q ∈ srt ltP (ns.zip cs),0 <= q.2 := λ q hq => hc _ (List.of_mem_zip (pm.mem_iff.mp hq)).2
  rw [<- sm_perm (g := λ q : Int × Int => if q.1 < p.1 then q.2 else 0) pm,<- sm_perm (g := λ q : Int × Int => if q.1 = p.1 then q.2 else 0) pm]
  have hm : p.1 ∈ ns := (List.of_mem_zip (pm.mem_iff.mp (by rw [e1]; exact List.mem_append_right _ List.mem_cons_self) : (p.1,p.2) ∈ ns.zip cs)).1
  rw [e1] at pw nn ⊢
  have pA : ∀ q ∈ A,q.1 <= p.1 := λ q hq => by
   have := (List.pairwise_append.mp pw).2.2 q hq p List.mem_cons_self
   simp [ltP] at this
   omega
  have pB : ∀ q ∈ B,p.1 <= q.1 := λ q hq => by
   have := (List.pairwise_cons.mp (List.pairwise_append.mp pw).2.1).1 q hq
   simp [ltP] at this
   omega
  have b1 : sm (λ q : Int × Int => if q.1 < p.1 then q.2 else 0) (A ++ p :: B) <= sm (λ q => q.2) A := by
   rw [sm_app]
   have z : sm (λ q : Int × Int => if q.1 < p.1 then q.2 else 0) (p :: B) = 0 := by
    rw [sm_eq (h := λ _ => 0),sm_zero]
    intro a ha
    rcases List.mem_cons.mp ha with rfl | ha
    ·exact if_neg (by omega)
    ·exact if_neg (by have := pB a ha; omega)
   rw [z]
   have := sm_le (l := A) (g := λ q : Int × Int => if q.1 < p.1 then q.2 else 0) (h := λ q => q.2) λ a ha => by
    have := nn a (List.mem_append_left _ ha)
    try dsimp only
    split <;> omega
   omega
  have b2 : sm (λ q => q.2) A + p.2 <= sm (λ q : Int × Int => if q.1 < p.1 then q.2 else 0) (A ++ p :: B) + sm (λ q : Int × Int => if q.1 = p.1 then q.2 else 0) (A ++ p :: B) := by
   rw [<- sm_add,sm_app]
   have z : p.2 <= sm (λ q : Int × Int => (if q.1 < p.1 then q.2 else 0) + (if q.1 = p.1 then q.2 else 0)) (p :: B) := by
    show p.2 <= ((if p.1 < p.1 then p.2 else 0) + (if p.1 = p.1 then p.2 else 0)) + sm _ B
    rw [if_neg (by omega),if_pos rfl]
    have := sm_pos (l := B) (g := λ q : Int × Int => (if q.1 < p.1 then q.2 else 0) + (if q.1 = p.1 then q.2 else 0)) λ a ha => by
     have := nn a (List.mem_append_right _ (List.mem_cons_of_mem _ ha))
     try dsimp only
     split <;> split <;> omega
    omega
   have := sm_eq (l := A) (g := λ q : Int × Int => q.2) (h := λ q => (if q.1 < p.1 then q.2 else 0) + (if q.1 = p.1 then q.2 else 0)) λ a ha => by
    have := pA a ha
    try dsimp only
    split <;> split <;> omega
   omega
  rw [decide_eq_true hm,decide_eq_true (by omega),decide_eq_true (by omega)]
  rfl
def od : Option Int -> D
 | none => .non
 | some i => .int i
def ab (i : Int) : Int := if i < 0 then -i else i
def chg : Option Int -> Int -> Int
 | none,_ => 0
 | some w,z => ab (w - z)
theorem at_ws {ws : List Int} {k : Nat} (h : k < ws.length) : atI (ws.map D.int) (k : Int) = some (.int (ws.getD k 0)) := by
 refine Q2z ?_
 rw [List.getElem?_map,List.getElem?_eq_getElem h]
 simp [List.getD,h]
def onS (s : Int) : Option Int -> Bool
 | none => false
 | some i => decide (0 <= i) && decide (i <= s)
theorem Q2l {f g : Str} {d x : D} {r : List (Str × D)} (h : (g = f) -> False) : putD f d ((g,x) :: r) = (g,x) :: putD f d r := by
 show (if g = f then (g,d) :: r else (g,x) :: putD f d r) = _
 rw [if_neg h]
theorem put_eq {f : Str} {d x : D} {r : List (Str × D)} : putD f d ((f,x) :: r) = (f,d) :: r := by
 show (if f = f then (f,d) :: r else (f,x) :: putD f d r) = _
 rw [if_pos rfl]
def f3 (m s t : Int) : List (Str × D) := [("many",.int m),("scale",.int s),("top",.int t)]
def f4 (m s t b : Int) : List (Str × D) := [("many",.int m),("scale",.int s),("top",.int t),("bottom",.int b)]
def f5 (m s t b : Int) (d : D) : List (Str × D) := [("many",.int m),("scale",.int s),("top",.int t),("bottom",.int b),("tops",d)]
theorem lk_eq {f : Str} {d : D} {r : List (Str × D)} : List.lookup f ((f,d) :: r) = some d := by rw [List.lookup_cons,beq_self_eq_true]
theorem Q1q {f g : Str} {d : D} {r : List (Str × D)} (h : (f == g) = false) : List.lookup f ((g,d) :: r) = List.lookup f r := by rw [List.lookup_cons,h]
section
variable (m s t b u : Int) (ws : List Int)
end
theorem Q2j {O : Sto} {q : Nat} {x y : Option MO} (h : O[q]? = some x) : (O.set q y)[q]? = some y := by
 have := (List.getElem?_eq_some_iff.mp h).1
 rw [List.getElem?_set_self this]
def spPow : List D -> D -> Prop := λ ds d => ∃ b n : Int,ds = [.int b,.int n] /\ (0 <= b /\ b <= 1000) /\ (0 <= n /\ n <= 60000) /\ d = .int (b ^ n.toNat)
theorem pow_le {a b : Int} (h0 : 0 <= a) (h : a <= b) : ∀ n : Nat,a ^ n <= b ^ n
 | 0 => by simp
 | n + 1 => by
  rw [Int.pow_succ,Int.pow_succ]
  exact Int.mul_le_mul (pow_le h0 h n) h h0 (Int.pow_nonneg (Int.le_trans h0 h))
theorem small {a : Int} (h0 : 0 <= a) (h : a < 256) (n : Nat) : 0 <= a ^ n /\ a ^ n < 2 ^ (8 * n + 1) := by
 refine ⟨Int.pow_nonneg h0,?_⟩
 have h1 : a ^ n <= 256 ^ n := pow_le h0 (Int.le_of_lt h) n
 have h2 : (2 : Int) ^ (8 * n + 1) = 256 ^ n * 2 := by rw [Int.pow_succ,Int.pow_mul]; rfl
 have h3 : (0 : Int) < 256 ^ n := Int.pow_pos (by decide)
 rw [h2]
 omega
def Q4b : List D -> D -> Prop := λ ds d => ∃ (w : Option Int) (z : Int),ds = [od w,.int z] /\ d = .int (chg w z)
def tA (t b sc own off : Int) : Int := t ^ off.toNat * b ^ (sc - off).toNat * 2 * b ^ own.toNat
def tS (t b sc own : Int) : Int := b ^ sc.toNat * (b ^ own.toNat + t ^ own.toNat)
def tF (t b sc own so : Int) : Option Int -> Int
 | none => tS t b sc own
 | some x => tA t b sc own (ab (x - so))
structure Frac (sc t b : Int) : Prop where
 s1 : 1 <= sc
 s2 : sc <= 10
 t0 : 0 <= t
 tb : t < b
 b2 : b <= 100
structure WOk (n : Nat) (ws : List Int) (u : Int) : Prop where
 w : ∀ x ∈ ws,0 <= x /\ x < 2 ^ (250 * (n + 1))
 u0 : 0 <= u
 u1 : u < 2 ^ (250 * (n + 1))
theorem Q3J {x y : Int} {a c : Nat} (x0 : 0 <= x) (x1 : x < 2 ^ a) (y0 : 0 <= y) (y1 : y < 2 ^ c) : 0 <= x * y /\ x * y < 2 ^ (a + c) := by
 refine ⟨Int.mul_nonneg x0 y0,?_⟩
 rw [Int.pow_add]
 by_cases h : y = 0
 ·subst h
  rw [Int.mul_zero]
  exact Int.mul_pos (Int.pow_pos (by decide)) (Int.pow_pos (by decide))
 ·have h1 : x * y < 2 ^ a * y := Int.mul_lt_mul_of_pos_right x1 (by omega)
  have h2 : 2 ^ a * y <= 2 ^ a * 2 ^ c := Int.mul_le_mul_of_nonneg_left (Int.le_of_lt y1) (Int.pow_nonneg (by decide))
  omega
theorem p2_le {x : Int} {a c : Nat} (h : x < 2 ^ a) (hc : a <= c) : x < 2 ^ c := by
 obtain ⟨d,rfl⟩ := Nat.exists_eq_add_of_le hc
 have h1 : (1 : Int) <= 2 ^ d := Int.pow_pos (by decide)
 have h2 : (0 : Int) <= 2 ^ a := Int.pow_nonneg (by decide)
 have := Int.mul_le_mul_of_nonneg_left h1 h2
 rw [Int.pow_add]
 omega
theorem pw81 {x : Int} {e : Int} (h0 : 0 <= x) (h1 : x <= 100) (he : e <= 10) : 0 <= x ^ e.toNat /\ x ^ e.toNat < 2 ^ 81 := by
 have := small h0 (show x < 256 by omega) e.toNat
 exact ⟨this.1,p2_le this.2 (by omega)⟩
theorem tA_ok {sc t b own off : Int} (h : Frac sc t b) (ho : own <= sc) (hf : 0 <= off /\ off <= sc) : 0 <= tA t b sc own off /\ tA t b sc own off < 2 ^ 250 := by
 have := h.s1; have := h.s2; have := h.t0; have := h.tb; have := h.b2
 have a1 := pw81 (x := t) (e := off) h.t0 (by omega) (by omega)
 have a2 := pw81 (x := b) (e := sc - off) (by omega) (by omega) (by omega)
 have a3 := pw81 (x := b) (e := own) (by omega) (by omega) (by omega)
 have b1 := Q3J a1.1 a1.2 a2.1 a2.2
 have b2 := Q3J (c := 2) b1.1 b1.2 (show (0 : Int) <= 2 by decide) (by decide)
 have b3 := Q3J b2.1 b2.2 a3.1 a3.2
 exact ⟨b3.1,p2_le b3.2 (by decide)⟩
theorem tS_ok {sc t b own : Int} (h : Frac sc t b) (ho : own <= sc) : 0 <= tS t b sc own /\ tS t b sc own < 2 ^ 250 := by
 have := h.s1; have := h.s2; have := h.t0; have := h.tb; have := h.b2
 have a1 := pw81 (x := b) (e := sc) (by omega) (by omega) (by omega)
 have a2 := pw81 (x := b) (e := own) (by omega) (by omega) (by omega)
 have a3 := pw81 (x := t) (e := own) h.t0 (by omega) (by omega)
 have e : (2 : Int) ^ 82 = 2 ^ 81 + 2 ^ 81 := by decide
 have b1 := Q3J (y := b ^ own.toNat + t ^ own.toNat) (c := 82) a1.1 a1.2 (by omega) (by rw [e]; omega)
 exact ⟨b1.1,p2_le b1.2 (by decide)⟩
theorem onS_ok {s x : Int} (h : onS s (some x) = true) : 0 <= x /\ x <= s := by
 have h : (decide (0 <= x) && decide (x <= s)) = true := h
 rw [Bool.and_eq_true] at h
 exact ⟨of_decide_eq_true h.1,of_decide_eq_true h.2⟩
theorem ab_ok {s x so : Int} (h : 0 <= x /\ x <= s) (hs : 0 <= so /\ so <= s) : 0 <= ab (x - so) /\ ab (x - so) <= s := by
 unfold ab
 split <;> omega
theorem tF_ok {sc t b own so : Int} {w : Option Int} (h : Frac sc t b) (ho : own <= sc) (hs : 0 <= so /\ so <= sc) (hw : w = none \/ onS sc w = true) : 0 <= tF t b sc own so w /\ tF t b sc own so w < 2 ^ 250 := by
 cases w with
 | none => exact tS_ok h ho
 | some x =>
  rcases hw with hw | hw
  ·cases hw
  ·exact tA_ok h ho (ab_ok (onS_ok hw) hs)
def Q2u : List Nat := (Str.ofString "abcdefghijklmnopqrstuvwxyz").cps.toList
structure Q0M (x : Str) : Prop where
 l1 : 1 <= x.length
 l2 : x.length <= 8
 al : ∀ c ∈ x.cps.toList,c ∈ Q2u
def Q1w (sc t b : Int) (n : Nat) (u c : Int) : List (Str × D) := [("scale",.int sc),("top",.int t),("bottom",.int b),("tops",.ptr n),("under",.int u),("came",.int c)]
section
variable (sc t b : Int) (n : Nat) (u c : Int)
theorem Q4g : (Q1w sc t b n u c).lookup ("scale" : Str) = some (.int sc) := lk_eq
theorem Q1x : (Q1w sc t b n u c).lookup ("tops" : Str) = some (.ptr n) := by unfold Q1w; rw [Q1q (by decide +kernel),Q1q (by decide +kernel),Q1q (by decide +kernel),lk_eq]
theorem bl_under : (Q1w sc t b n u c).lookup ("under" : Str) = some (.int u) := by unfold Q1w; rw [Q1q (by decide +kernel),Q1q (by decide +kernel),Q1q (by decide +kernel),Q1q (by decide +kernel),lk_eq]
theorem bl_came : (Q1w sc t b n u c).lookup ("came" : Str) = some (.int c) := by unfold Q1w; rw [Q1q (by decide +kernel),Q1q (by decide +kernel),Q1q (by decide +kernel),Q1q (by decide +kernel),Q1q (by decide +kernel),lk_eq]
theorem Q1b {f : Str} (h : ([("scale" : Str),"top","bottom","tops","under","came"].all λ g => !(f == g)) = true) : (Q1w sc t b n u c).lookup f = none := by
 simp only [List.all_cons,List.all_nil,Bool.and_true,Bool.and_eq_true,Bool.not_eq_true'] at h
 obtain ⟨h1,h2,h3,h4,h5,h6⟩ := h
 unfold Q1w
 rw [Q1q h1,Q1q h2,Q1q h3,Q1q h4,Q1q h5,Q1q h6]
 rfl
theorem bput_came (c' : Int) : putD "came" (.int c') (Q1w sc t b n u c) = Q1w sc t b n u c' := by
 unfold Q1w
 rw [Q2l (by decide +kernel),Q2l (by decide +kernel),Q2l (by decide +kernel),Q2l (by decide +kernel),Q2l (by decide +kernel),put_eq]
end
structure BkAt (C : Addr) (O : Sto) (q n : Nat) (sc t b : Int) (ps : List Str) (ws : List Int) (u c : Int) : Prop where
 q : O[q]? = some (some (.ins C (Q1w sc t b n u c)))
 n : O[n]? = some (some (.dct (ps.map Sum.inr) (ws.map D.int)))
 l : ps.length = ws.length
 nd : ps.Nodup
theorem Q1z {O Y : Sto} {q : Nat} {m : Option MO} (h : O[q]? = some m) : (O ++ Y)[q]? = some m := by
 rw [List.getElem?_append_left (List.getElem?_eq_some_iff.mp h).1,h]
theorem Q2r {O Y : Sto} {q : Nat} {m n : Option MO} (h : O[q]? = some m) : (O ++ Y).set q n = O.set q n ++ Y := by
 rw [List.set_append_left _ _ (List.getElem?_eq_some_iff.mp h).1]
theorem at_int {ps : List Str} {ws : List Int} {x : Str} {w : Int} (h : atS ps ws x = some w) : atK (ps.map Sum.inr) (ws.map D.int) (.inr x) = some (.int w) := by
 show atS ps (ws.map D.int) x = _
 rw [atS_map,h]; rfl
theorem at_some {ps : List Str} {ws : List Int} {x : Str} (hl : ps.length = ws.length) (hx : x ∈ ps) : (atK (ps.map Sum.inr) (ws.map D.int) (.inr x)).isSome = true := by
 obtain ⟨w,h,_⟩ := Q3G hl hx
 rw [at_int h]; rfl
structure SaidB (sc : Int) (ps qs : List Str) (ys : List Int) : Prop where
 l : qs.length = ys.length
 nd : qs.Nodup
 sub : ∀ x ∈ qs,x ∈ ps
 on : ∀ y ∈ ys,0 <= y /\ y <= sc
 nm : ∀ x ∈ qs,Q0M x
 le : qs.length <= 60
def wAt (ps : List Str) (ws : List Int) (x : Str) : Int := (atS ps ws x).getD 0
def midB (ps : List Str) (ws : List Int) (qs : List Str) (ys : List Int) : Int := mid ys (qs.map (wAt ps ws))
def spComeB (C : Addr) : SpD := λ ds O R => ∃ (q n : Nat) (sc t b u c : Int) (ps : List Str) (ws : List Int) (x : Str),ds = [.ptr q,.str x] /\ BkAt C O q n sc t b ps ws u c /\ Q0M x /\ x ∉ ps /\ ps.length < 100 /\ R .non ((O.set n (some (.dct ((ps ++ [x]).map Sum.inr) ((ws ++ [u]).map D.int)))).set q (some (.ins C (Q1w sc t b n u (c + 1)))))
def spGoB (C : Addr) : SpD := λ ds O R => ∃ (q n : Nat) (sc t b u c : Int) (ps : List Str) (ws : List Int) (x : Str),ds = [.ptr q,.str x] /\ BkAt C O q n sc t b ps ws u c /\ Q0M x /\ x ∈ ps /\ R .non (O.set n (some (.dct (Q3R (ps.map Sum.inr) (.inr x)) (Q2S (ps.map Sum.inr) (ws.map D.int) (.inr x)))))
def Q3Z (C : Addr) : SpD := λ ds O R => ∃ (q n : Nat) (sc t b u c : Int) (ps : List Str) (ws : List Int),ds = [.ptr q] /\ BkAt C O q n sc t b ps ws u c /\ ps.length < 64 /\ R (.tup ((srt ltS ps).map D.str)) O
def spEverB (C : Addr) : SpD := λ ds O R => ∃ (q n : Nat) (sc t b u c : Int) (ps : List Str) (ws : List Int),ds = [.ptr q] /\ BkAt C O q n sc t b ps ws u c /\ R (.int c) O
def Q2B (C : Addr) : SpD := λ ds O R => ∃ (q n : Nat) (sc t b u c : Int) (ps : List Str) (ws : List Int),ds = [.ptr q] /\ BkAt C O q n sc t b ps ws u c /\ R (.tup [.ptr O.length,.int u]) (O ++ [some (MO.dct (ps.map Sum.inr) (ws.map D.int))])
def spSayB (C : Addr) : SpD := λ ds O R => ∃ (q n : Nat) (sc t b u c : Int) (ps qs : List Str) (ws ys : List Int),ds = [.ptr q,.dct (qs.map Sum.inr) (ys.map D.int)] /\ BkAt C O q n sc t b ps ws u c /\ Wok ws /\ SaidB sc ps qs ys /\ R (.int (midB ps ws qs ys)) O
def Q1J (sc t b : Int) (n : D) (u c : Int) : List (Str × D) := [("scale",.int sc),("top",.int t),("bottom",.int b),("tops",n),("under",.int u),("came",.int c)]
section
variable (sc t b : Int) (n : D) (u c : Int)
theorem bd_scale : (Q1J sc t b n u c).lookup ("scale" : Str) = some (.int sc) := lk_eq
theorem bd_top : (Q1J sc t b n u c).lookup ("top" : Str) = some (.int t) := by unfold Q1J; rw [Q1q (by decide +kernel),lk_eq]
theorem bd_bottom : (Q1J sc t b n u c).lookup ("bottom" : Str) = some (.int b) := by unfold Q1J; rw [Q1q (by decide +kernel),Q1q (by decide +kernel),lk_eq]
theorem bd_tops : (Q1J sc t b n u c).lookup ("tops" : Str) = some (n) := by unfold Q1J; rw [Q1q (by decide +kernel),Q1q (by decide +kernel),Q1q (by decide +kernel),lk_eq]
theorem bd_under : (Q1J sc t b n u c).lookup ("under" : Str) = some (.int u) := by unfold Q1J; rw [Q1q (by decide +kernel),Q1q (by decide +kernel),Q1q (by decide +kernel),Q1q (by decide +kernel),lk_eq]
theorem dput_tops (n' : D) : putD "tops" (n') (Q1J sc t b n u c) = Q1J sc t b n' u c := by
 unfold Q1J
 rw [Q2l (by decide +kernel),Q2l (by decide +kernel),Q2l (by decide +kernel),put_eq]
theorem dput_under (u' : Int) : putD "under" (.int u') (Q1J sc t b n u c) = Q1J sc t b n u' c := by
 unfold Q1J
 rw [Q2l (by decide +kernel),Q2l (by decide +kernel),Q2l (by decide +kernel),Q2l (by decide +kernel),put_eq]
end
structure KpAt (C : Addr) (O : Sto) (q : Nat) (fs : List (Str × D)) (sc t b : Int) : Prop where
 q : O[q]? = some (some (.ins C fs))
 sc : fs.lookup ("scale" : Str) = some (.int sc)
 t : fs.lookup ("top" : Str) = some (.int t)
 b : fs.lookup ("bottom" : Str) = some (.int b)
def spTAB (C : Addr) : SpD := λ ds O R => ∃ (q : Nat) (fs : List (Str × D)) (sc t b own off : Int),ds = [.ptr q,.int own,.int off] /\ KpAt C O q fs sc t b /\ Frac sc t b /\ (0 <= own /\ own <= sc) /\ (0 <= off /\ off <= sc) /\ R (.int (tA t b sc own off)) O
def spTSB (C : Addr) : SpD := λ ds O R => ∃ (q : Nat) (fs : List (Str × D)) (sc t b own : Int),ds = [.ptr q,.int own] /\ KpAt C O q fs sc t b /\ Frac sc t b /\ (0 <= own /\ own <= sc) /\ R (.int (tS t b sc own)) O
def spTFB (C : Addr) : SpD := λ ds O R => ∃ (q : Nat) (fs : List (Str × D)) (sc t b own so : Int) (w : Option Int),ds = [.ptr q,.int own,od w,.int so] /\ KpAt C O q fs sc t b /\ Frac sc t b /\ (0 <= own /\ own <= sc) /\ (0 <= so /\ so <= sc) /\ (w = none \/ onS sc w = true) /\ R (.int (tF t b sc own so w)) O
theorem twoB {sc : Int} {ps qs : List Str} {ws ys : List Int} (hs : SaidB sc ps qs ys) (hl : ps.length = ws.length) (hw : Wok ws) : Two ys (qs.map (wAt ps ws)) := by
 have h1 := hs.l
 have h2 := hs.le
 refine ⟨by rw [List.length_map]; omega,by rw [List.length_map]; omega,λ w hw2 => ?_⟩
 obtain ⟨x,hx,rfl⟩ := List.mem_map.mp hw2
 obtain ⟨w,h1,h2⟩ := Q3G hl (hs.sub x hx)
 unfold wAt
 rw [h1]
 exact hw w h2
theorem mid_on {sc : Int} {ps qs : List Str} {ws ys : List Int} (hs : SaidB sc ps qs ys) (h0 : 0 <= sc) (hl : ps.length = ws.length) (hw : Wok ws) : 0 <= midB ps ws qs ys /\ midB ps ws qs ys <= sc := by
 have hr := right_mid (twoB hs hl hw)
 unfold midB
 unfold rightB at hr
 by_cases hn : ys = []
 ·rw [if_pos hn] at hr
  rw [of_decide_eq_true hr]
  omega
 ·rw [if_neg hn,Bool.and_eq_true] at hr
  exact hs.on _ (of_decide_eq_true hr.1)
def spChargeB (C : Addr) : SpD := λ ds O R => ∃ (q n : Nat) (sc t b u c so : Int) (ps qs : List Str) (ws ys : List Int),ds = [.ptr q,.dct (qs.map Sum.inr) (ys.map D.int),.int so] /\ BkAt C O q n sc t b ps ws u c /\ Wok ws /\ SaidB sc ps qs ys /\ (0 <= so /\ so <= sc) /\ R (.int (ab (midB ps ws qs ys - so))) O
def Q2O (t b sc own so : Int) (ps : List Str) (ws : List Int) (qs : List Str) (ys : List Int) : List Int := (ps.zip ws).map λ p => p.2 * tF t b sc own so (atS qs ys p.1)
def spHearB (C : Addr) : SpD := λ ds O R => ∃ (q n k : Nat) (sc t b u c so : Int) (ps qs : List Str) (ws ys : List Int),ds = [.ptr q,.dct (qs.map Sum.inr) (ys.map D.int),.int so] /\ BkAt C O q n sc t b ps ws u c /\ Frac sc t b /\ k <= 1000 /\ WOk k ws u /\ SaidB sc ps qs ys /\ (0 <= so /\ so <= sc) /\ ps.length <= 60 /\
 R .non ((O.set n none).set q (some (.ins C (Q1w sc t b O.length (u * tS t b sc (ab (midB ps ws qs ys - so))) c))) ++ [some (MO.dct (ps.map Sum.inr) ((Q2O t b sc (ab (midB ps ws qs ys - so)) so ps ws qs ys).map D.int))])
theorem od_at (qs : List Str) (ys : List Int) (x : Str) : (atK (qs.map Sum.inr) (ys.map D.int) (.inr x)).getD .non = od (atS qs ys x) := by
 show (atS qs (ys.map D.int) x).getD .non = _
 rw [atS_map]
 cases atS qs ys x <;> rfl
theorem at_on {sc : Int} {ps qs : List Str} {ys : List Int} (hs : SaidB sc ps qs ys) (x : Str) : atS qs ys x = none \/ onS sc (atS qs ys x) = true := by
 by_cases hx : x ∈ qs
 ·obtain ⟨y,h1,h2⟩ := Q3G hs.l hx
  rw [h1]
  right
  show (decide (0 <= y) && decide (y <= sc)) = true
  rw [decide_eq_true (hs.on y h2).1,decide_eq_true (hs.on y h2).2]; rfl
 ·exact .inl (atS_not hx)
def stp (x : Int) (k : Nat) : Int := (x * x + 48271 * x + 7 * (k : Int) + 3) % 2305843009213693951
def run (k : Nat) (x : Int) : Nat -> List Int
 | 0 => []
 | n + 1 => stp x k :: run (k + 1) (stp x k) n
theorem run_len : ∀ (n k : Nat) (x : Int),(run k x n).length = n
 | 0,_,_ => rfl
 | n + 1,k,x => by unfold run; rw [List.length_cons,run_len n]
def strm (c : Int) (n : Nat) : List Int := (run 0 (c % 2305843009213693951) (n + 1)).drop 1
theorem strm_len (c : Int) (n : Nat) : (strm c n).length = n := by unfold strm; rw [List.length_drop,run_len]; omega
def Q4a : List D -> D -> Prop := λ ds d => ∃ (c : Int) (n : Nat),ds = [.int c,.int (n : Nat)] /\ n <= 200 /\ d = .lst ((strm c n).map D.int)
def preScr : List D -> Prop := λ ds => ∃ ns : List Int,ds = [.scr (ns.map D.int)]
def relRule : List D -> D -> Prop := λ _ d => ∃ sc t b : Int,d = .tup [.int sc,.int t,.int b] /\ Frac sc t b
def preNm : List D -> Prop := λ ds => ∃ (c : Int) (m : Nat),ds = [.int c,.int (m : Nat)] /\ m <= 10
def preCells : List D -> Prop := λ ds => ∃ (ns : List Int) (f : Int),ds = [.scr (ns.map D.int),.int f] /\ 0 <= f /\ ns.length <= 63
def relCells : List D -> D -> Prop := λ _ d => ∃ cs : List Int,d = .lst (cs.map D.int) /\ cs.length <= 63
structure Dict1 (sc : Int) (ths qs : List Str) (ys : List Int) : Prop where
 l : qs.length = ys.length
 nd : qs.Nodup
 sub : ∀ x ∈ qs,x ∈ ths
 on : ∀ y ∈ ys,0 <= y /\ y <= sc
def spSaidL : SpD := λ ds O R => ∃ (ths : List Str) (nsL : List Int) (sc : Int) (da : D),ds = [da,.lst (nsL.map D.int),.int sc] /\ LV O da (ths.map D.str) /\ ths.Nodup /\ ths.length <= nsL.length /\ ths.length <= 60 /\ 1 <= sc /\ ∀ qs ys,Dict1 sc ths qs ys -> R (.dct (qs.map Sum.inr) (ys.map D.int)) O
theorem lv_app {O Y : Sto} {d : D} {xs : List D} (h : LV O d xs) : LV (O ++ Y) d xs := by
 rcases h with h | h | ⟨n,h1,h2⟩
 ·exact .inl h
 ·exact .inr (.inl h)
 ·exact .inr (.inr ⟨n,h1,Q1z h2⟩)
theorem Q2T {x : Str} (h : Q0M x) : PyData.strOk x = true := by
 unfold PyData.strOk
 rw [<- Array.all_toList,List.all_eq_true]
 intro c hc
 have : ∀ c ∈ Q2u,c < 0x110000 := by decide +kernel
 exact decide_eq_true (this c (h.al c hc))
theorem eqS (a b : Str) : eqD (.str a) (.str b) = decide (a = b) := by
 show PyData.eqv (.str a) (.str b) = _
 by_cases e : a = b
 ·subst e; simp [PyData.eqv]
 ·simp [PyData.eqv,e]
theorem any_eqS (l : List Str) (x : Str) : ((l.map D.str).any λ y => eqD y (.str x)) = decide (x ∈ l) := by
 induction l with
 | nil => simp
 | cons a l ih =>
  rw [List.map_cons,List.any_cons,ih,eqS]
  by_cases e : a = x
  ·subst e; simp
  ·simp [e,Ne.symm e]
inductive Deed where
 | come (x : Str) | go (x : Str) | turn (qs : List Str) (ys : List Int) (so : Int)
def dD : Deed -> D
 | .come x => .tup [.str "come",.str x]
 | .go x => .tup [.str "go",.str x]
 | .turn qs ys so => .tup [.str "turn",.dct (qs.map Sum.inr) (ys.map D.int),.int so]
def stD (s : List Str × Nat) : Deed -> List Str × Nat
 | .come x => (s.1 ++ [x],s.2 + 1)
 | .go x => (s.1.eraseIdx (s.1.idxOf x),s.2)
 | .turn _ _ _ => s
def stA (L : List Deed) : List Str × Nat := L.foldl stD ([],0)
theorem Q0W (L : List Deed) (d : Deed) : stA (L ++ [d]) = stD (stA L) d := by unfold stA; rw [List.foldl_append]; rfl
def DOk (sc : Int) (s : List Str × Nat) : Deed -> Prop
 | .come x => Q0M x /\ x ∉ s.1 /\ s.2 < 20
 | .go x => Q0M x /\ x ∈ s.1
 | .turn qs ys so => Dict1 sc s.1 qs ys /\ (0 <= so /\ so <= sc)
def DsOk (sc : Int) (L : List Deed) : Prop := ∀ (i : Nat) (d : Deed),L[i]? = some d -> DOk sc (stA (L.take i)) d
theorem DsOk.snoc {sc : Int} {L : List Deed} {d : Deed} (h : DsOk sc L) (hd : DOk sc (stA L) d) : DsOk sc (L ++ [d]) := λ i e he => by
 by_cases hi : i < L.length
 ·rw [List.getElem?_append_left hi] at he
  rw [List.take_append_of_le_length (by omega)]
  exact h i e he
 ·have hi2 : i = L.length := by
   have := (List.getElem?_eq_some_iff.mp he).1
   rw [List.length_append] at this
   have : i < L.length + 1 := this
   omega
  subst hi2
  rw [List.getElem?_append_right (Nat.le_refl _),Nat.sub_self] at he
  cases Option.some.inj he
  rw [List.take_append_of_le_length (Nat.le_refl _),List.take_length]
  exact hd
structure StOk (s : List Str × Nat) : Prop where
 nd : s.1.Nodup
 nm : ∀ x ∈ s.1,Q0M x
 le : s.1.length <= s.2
 l20 : s.2 <= 20
theorem StOk.step {sc : Int} {s : List Str × Nat} {d : Deed} (h : StOk s) (hd : DOk sc s d) : StOk (stD s d) := by
 cases d with
 | come x =>
  obtain ⟨h1,h2,h3⟩ := hd
  refine ⟨List.nodup_append.mpr ⟨h.nd,List.nodup_cons.mpr ⟨List.not_mem_nil,List.nodup_nil⟩,λ a ha b hb => by rw [List.mem_singleton] at hb; subst hb; rintro rfl; exact h2 ha⟩,λ y hy => ?_,?_,?_⟩
  ·rcases List.mem_append.mp hy with hy | hy
   ·exact h.nm y hy
   ·cases List.mem_singleton.mp hy; exact h1
  ·show (s.1 ++ [x]).length <= s.2 + 1
   rw [List.length_append]
   have := h.le
   show s.1.length + 1 <= _
   omega
  ·show s.2 + 1 <= 20; omega
 | go x => exact ⟨h.nd.sublist (List.eraseIdx_sublist ..),λ y hy => h.nm y (List.mem_of_mem_eraseIdx hy),Nat.le_trans (List.length_eraseIdx_le ..) h.le,h.l20⟩
 | turn qs ys so => exact h
def spDeeds : SpD := λ ds O R => ∃ (cs : List Int) (nm : List Str) (sc : Int),ds = [.lst (cs.map D.int),.lst (nm.map D.str),.int sc] /\ cs.length <= 63 /\ nm.length = 6 /\ (∀ x ∈ nm,Q0M x) /\ 1 <= sc /\ ∀ L : List Deed,DsOk sc L -> L.length <= 63 -> R (.lst (L.map dD)) O
theorem dD_np (d : Deed) : npD (dD d) = true := by
 cases d with
 | come x => rfl
 | go x => rfl
 | turn qs ys so => show (npDs (ys.map D.int) && (true && true)) = true; rw [npDs_ints]; rfl
theorem pl_strs {l : List Str} (h : ∀ x ∈ l,Q0M x) : plDs (l.map D.str) = true := plDs_map λ x hx => Q2T (h x hx)
theorem Q2y : ∀ l : List Str,dpDs (l.map D.str) <= 0
 | [] => Nat.le_refl _
 | x :: l => by show max 0 (dpDs (l.map D.str)) <= 0; have := Q2y l; omega
theorem len_sub : ∀ {l m : List Str},l.Nodup -> (∀ x ∈ l,x ∈ m) -> l.length <= m.length
 | [],_,_,_ => Nat.zero_le _
 | a :: l,m,h,hs => by
  obtain ⟨h1,h2⟩ := List.nodup_cons.mp h
  have ha : a ∈ m := hs a List.mem_cons_self
  have := len_sub (l := l) (m := m.erase a) h2 λ x hx => (List.mem_erase_of_ne (λ e => h1 (by rw [<- e]; exact hx))).mpr (hs x (List.mem_cons_of_mem _ hx))
  rw [List.length_erase_of_mem ha] at this
  have := List.length_pos_of_mem ha
  rw [List.length_cons]
  omega
theorem let_at (k : Nat) (h : k < 26) : ∃ c,(Str.ofString "abcdefghijklmnopqrstuvwxyz").cps[k]? = some c /\ c ∈ Q2u := by
 have hs : (Str.ofString "abcdefghijklmnopqrstuvwxyz").cps.size = 26 := by decide +kernel
 refine ⟨_,Array.getElem?_eq_getElem (by rw [hs]; exact h),?_⟩
 unfold Q2u
 rw [<- Array.getElem_toList]
 exact List.getElem_mem _
theorem gset {O : Sto} {i j : Nat} {y m : Option MO} (hne : i ≠ j) (h : O[j]? = some m) : (O.set i y)[j]? = some m := by rw [List.getElem?_set_ne hne]; exact h
theorem at_ne {O : Sto} {i j : Nat} {m n : Option MO} (h1 : O[i]? = some m) (h2 : O[j]? = some n) (h : m ≠ n) : i ≠ j := λ e => by subst e; rw [h1] at h2; exact h (Option.some.inj h2)
theorem at_lt {O : Sto} {i : Nat} {m : Option MO} (h : O[i]? = some m) : i < O.length := (List.getElem?_eq_some_iff.mp h).1
def Above (O O' : Sto) : Prop := ∃ Y,O' = O ++ Y
theorem Above.set {O O' : Sto} {i : Nat} {y : Option MO} (h : Above O O') (hi : O.length <= i) : Above O (O'.set i y) := by
 obtain ⟨Y,rfl⟩ := h
 exact ⟨_,by rw [List.set_append_right (h := hi)]⟩
theorem Above.app {O O' : Sto} (h : Above O O') (Z : Sto) : Above O (O' ++ Z) := by
 obtain ⟨Y,rfl⟩ := h
 exact ⟨_,List.append_assoc ..⟩
theorem Above.le {O O' : Sto} (h : Above O O') : O.length <= O'.length := by
 obtain ⟨Y,rfl⟩ := h
 rw [List.length_append]; omega
section
variable {C : Addr} {O O' : Sto} {q n e q2 n2 k : Nat} {sc t b u : Int} {ps : List Str} {ws : List Int}
theorem BkAt.app {c : Int} (h : BkAt C O q n sc t b ps ws u c) (Y : Sto) : BkAt C (O ++ Y) q n sc t b ps ws u c := ⟨Q1z h.q,Q1z h.n,h.l,h.nd⟩
theorem BkAt.ne {c : Int} (h : BkAt C O q n sc t b ps ws u c) : n ≠ q := at_ne h.n h.q (by intro z; cases z)
theorem wOk_mono {ws : List Int} {u : Int} {k : Nat} (h : WOk k ws u) : WOk (k + 1) ws u := by
 have : (2 : Int) ^ (250 * (k + 1)) <= 2 ^ (250 * (k + 1 + 1)) := by
  rw [show 250 * (k + 1 + 1) = 250 * (k + 1) + 250 by omega,Int.pow_add]
  have h1 : (0 : Int) <= 2 ^ (250 * (k + 1)) := Int.pow_nonneg (by decide)
  have h2 : (1 : Int) <= 2 ^ 250 := by decide +kernel
  have := Int.mul_le_mul_of_nonneg_left h2 h1
  rw [Int.mul_one] at this
  exact this
 exact ⟨λ x hx => ⟨(h.w x hx).1,Int.lt_of_lt_of_le (h.w x hx).2 this⟩,h.u0,Int.lt_of_lt_of_le h.u1 this⟩
theorem wOk_come {ws : List Int} {u : Int} {k : Nat} (h : WOk k ws u) : WOk k (ws ++ [u]) u := ⟨λ x hx => by
 rcases List.mem_append.mp hx with hx | hx
 ·exact h.w x hx
 ·cases List.mem_singleton.mp hx; exact ⟨h.u0,h.u1⟩,h.u0,h.u1⟩
theorem wOk_go {ws : List Int} {u : Int} {k i : Nat} (h : WOk k ws u) : WOk k (ws.eraseIdx i) u := ⟨λ x hx => h.w x (List.mem_of_mem_eraseIdx hx),h.u0,h.u1⟩
theorem wOk_hear {own so : Int} {qs : List Str} {ys : List Int} (hf : Frac sc t b) (hw : WOk k ws u) (hs : SaidB sc ps qs ys) (hso : 0 <= so /\ so <= sc) (hd : 0 <= own /\ own <= sc) : WOk (k + 1) (Q2O t b sc own so ps ws qs ys) (u * tS t b sc own) := by
 have e : 250 * (k + 1 + 1) = 250 * (k + 1) + 250 := by omega
 have h1 := tS_ok (own := own) hf hd.2
 have h2 := Q3J hw.u0 hw.u1 h1.1 h1.2
 refine ⟨λ x hx => ?_,h2.1,by rw [e]; exact h2.2⟩
 obtain ⟨p,hp,rfl⟩ := List.mem_map.mp hx
 have h3 := hw.w _ (List.of_mem_zip hp).2
 have h4 := tF_ok (own := own) hf hd.2 hso (at_on hs p.1)
 have h5 := Q3J h3.1 h3.2 h4.1 h4.2
 exact ⟨h5.1,by rw [e]; exact h5.2⟩
theorem next_len {own so : Int} {qs : List Str} {ys : List Int} (hl : ps.length = ws.length) : ps.length = (Q2O t b sc own so ps ws qs ys).length := by
 unfold Q2O
 rw [List.length_map,List.length_zip]; omega
theorem bk_come {c : Int} {x : Str} (h : BkAt C O q n sc t b ps ws u c) (hx : x ∉ ps) : BkAt C ((O.set n (some (.dct ((ps ++ [x]).map Sum.inr) ((ws ++ [u]).map D.int)))).set q (some (.ins C (Q1w sc t b n u (c + 1))))) q n sc t b (ps ++ [x]) (ws ++ [u]) u (c + 1) :=
 ⟨Q2j (gset h.ne h.q),gset (Ne.symm h.ne) (Q2j h.n),by rw [List.length_append,List.length_append,h.l]; rfl,List.nodup_append.mpr ⟨h.nd,List.nodup_cons.mpr ⟨List.not_mem_nil,List.nodup_nil⟩,λ a ha b hb => by rw [List.mem_singleton] at hb; subst hb; rintro rfl; exact hx ha⟩⟩
theorem bk_hear {c u' : Int} {ws' : List Int} (h : BkAt C O q n sc t b ps ws u c) (hl : ps.length = ws'.length) : BkAt C ((O.set n none).set q (some (.ins C (Q1w sc t b O.length u' c))) ++ [some (MO.dct (ps.map Sum.inr) (ws'.map D.int))]) q O.length sc t b ps ws' u' c := by
 have hL : ((O.set n none).set q (some (.ins C (Q1w sc t b O.length u' c)))).length = O.length := by rw [List.length_set,List.length_set]
 refine ⟨Q1z (Q2j (gset h.ne h.q)),?_,hl,h.nd⟩
 rw [List.getElem?_append_right (by omega),hL,Nat.sub_self]
 rfl
end
theorem pop_not {α : Type} : ∀ {ps : List Str} {xs : List α} {x : Str},ps.length = xs.length -> x ∉ ps -> Q3R (ps.map Sum.inr) (.inr x) = ps.map Sum.inr /\ Q2S (ps.map Sum.inr) xs (.inr x) = xs
 | [],[],_,_,_ => ⟨rfl,rfl⟩
 | a :: ps,y :: xs,x,hl,hn => by
  obtain ⟨i1,i2⟩ := pop_not (ps := ps) (xs := xs) (x := x) (by simpa using hl) (λ h => hn (List.mem_cons_of_mem _ h))
  have e : ¬ a = x := λ e => hn (by rw [e]; exact List.mem_cons_self)
  constructor
  ·unfold Q3R at *
   rw [List.map_cons,List.filter_cons_of_pos (by simp [e]),i1]
  ·unfold Q2S at *
   rw [List.map_cons,List.zip_cons_cons,List.filter_cons_of_pos (by simp [e]),List.map_cons,i2]
theorem pop_at {α : Type} : ∀ {ps : List Str} {xs : List α} {x : Str},ps.length = xs.length -> ps.Nodup -> x ∈ ps -> Q3R (ps.map Sum.inr) (.inr x) = (ps.eraseIdx (ps.idxOf x)).map Sum.inr /\ Q2S (ps.map Sum.inr) xs (.inr x) = xs.eraseIdx (ps.idxOf x)
 | [],_,_,_,_,h => by cases h
 | a :: ps,y :: xs,x,hl,hn,hx => by
  obtain ⟨h1,h2⟩ := List.nodup_cons.mp hn
  have hl' : ps.length = xs.length := by simpa using hl
  by_cases e : a = x
  ·subst e
   obtain ⟨p1,p2⟩ := pop_not (ps := ps) (xs := xs) (x := a) hl' h1
   have i0 : (a :: ps).idxOf a = 0 := by simp [List.idxOf_cons]
   rw [i0,List.eraseIdx_cons_zero,List.eraseIdx_cons_zero]
   constructor
   ·unfold Q3R at *
    rw [List.map_cons,List.filter_cons_of_neg (by simp),p1]
   ·unfold Q2S at *
    rw [List.map_cons,List.zip_cons_cons,List.filter_cons_of_neg (by simp),p2]
  ·obtain ⟨p1,p2⟩ := pop_at (ps := ps) (xs := xs) (x := x) hl' h2 ((List.mem_cons.mp hx).resolve_left λ z => e z.symm)
   have i0 : (a :: ps).idxOf x = ps.idxOf x + 1 := by rw [List.idxOf_cons,show (a == x) = false from beq_eq_false_iff_ne.mpr e]; rfl
   rw [i0,List.eraseIdx_cons_succ,List.eraseIdx_cons_succ]
   constructor
   ·unfold Q3R at *
    rw [List.map_cons,List.filter_cons_of_pos (by simp [e]),p1,List.map_cons]
   ·unfold Q2S at *
    rw [List.map_cons,List.zip_cons_cons,List.filter_cons_of_pos (by simp [e]),List.map_cons,p2]
theorem erase_len {α β : Type} {l : List α} {m : List β} {i : Nat} (h : l.length = m.length) : (l.eraseIdx i).length = (m.eraseIdx i).length := by
 rw [List.length_eraseIdx,List.length_eraseIdx,h]
theorem idx_gone {ps : List Str} {x : Str} (hn : ps.Nodup) : x ∉ ps.eraseIdx (ps.idxOf x) := by
 induction ps with
 | nil => exact List.not_mem_nil
 | cons a ps ih =>
  obtain ⟨h1,h2⟩ := List.nodup_cons.mp hn
  by_cases e : a = x
  ·subst e
   have i0 : (a :: ps).idxOf a = 0 := by simp [List.idxOf_cons]
   rw [i0,List.eraseIdx_cons_zero]; exact h1
  ·have i0 : (a :: ps).idxOf x = ps.idxOf x + 1 := by rw [List.idxOf_cons,show (a == x) = false from beq_eq_false_iff_ne.mpr e]; rfl
   rw [i0,List.eraseIdx_cons_succ]
   intro h
   rcases List.mem_cons.mp h with h | h
   ·exact e h.symm
   ·exact ih h2 h
theorem bk_go {C : Addr} {O : Sto} {q n : Nat} {sc t b u c : Int} {ps : List Str} {ws : List Int} {x : Str} (h : BkAt C O q n sc t b ps ws u c) (hx : x ∈ ps) : BkAt C (O.set n (some (.dct (Q3R (ps.map Sum.inr) (.inr x)) (Q2S (ps.map Sum.inr) (ws.map D.int) (.inr x))))) q n sc t b (ps.eraseIdx (ps.idxOf x)) (ws.eraseIdx (ps.idxOf x)) u c := by
 obtain ⟨p1,p2⟩ := pop_at (xs := ws.map D.int) (by rw [List.length_map]; exact h.l) h.nd hx
 refine ⟨gset h.ne h.q,?_,erase_len h.l,h.nd.sublist (List.eraseIdx_sublist ..)⟩
 rw [Q2j h.n,p1,p2,Q2w]
structure BSt (C : Addr) (O O' : Sto) (q n : Nat) (sc t b : Int) (s : List Str × Nat) (ws : List Int) (u : Int) (k : Nat) : Prop where
 up : Above O O'
 B : BkAt C O' q n sc t b s.1 ws u ((s.2 : Nat) : Int)
 n0 : O.length <= n
 w : WOk k ws u
section
variable {C : Addr} {O O' : Sto} {q n k : Nat} {sc t b u : Int} {s : List Str × Nat} {ws : List Int}
theorem BSt.app (h : BSt C O O' q n sc t b s ws u k) (Y : Sto) : BSt C O (O' ++ Y) q n sc t b s ws u k := ⟨h.up.app Y,h.B.app Y,h.n0,h.w⟩
theorem BSt.come {x : Str} (h : BSt C O O' q n sc t b s ws u k) (h1 : O.length <= q) (hx : x ∉ s.1) :
  BSt C O ((O'.set n (some (.dct ((s.1 ++ [x]).map Sum.inr) ((ws ++ [u]).map D.int)))).set q (some (.ins C (Q1w sc t b n u (((s.2 : Nat) : Int) + 1))))) q n sc t b (stD s (.come x)) (ws ++ [u]) u (k + 1) := ⟨(h.up.set h.n0).set h1,bk_come h.B hx,h.n0,wOk_mono (wOk_come h.w)⟩
theorem BSt.go {x : Str} (h : BSt C O O' q n sc t b s ws u k) (hx : x ∈ s.1) :
  BSt C O (O'.set n (some (.dct (Q3R (s.1.map Sum.inr) (.inr x)) (Q2S (s.1.map Sum.inr) (ws.map D.int) (.inr x))))) q n sc t b (stD s (.go x)) (ws.eraseIdx (s.1.idxOf x)) u (k + 1) := ⟨h.up.set h.n0,bk_go h.B hx,h.n0,wOk_mono (wOk_go h.w)⟩
theorem BSt.hear {so : Int} {qs : List Str} {ys : List Int} (h : BSt C O O' q n sc t b s ws u k) (h1 : O.length <= q) (hf : Frac sc t b) (hs : SaidB sc s.1 qs ys) (hso : 0 <= so /\ so <= sc) (hd : 0 <= ab (midB s.1 ws qs ys - so) /\ ab (midB s.1 ws qs ys - so) <= sc) :
  BSt C O ((O'.set n none).set q (some (.ins C (Q1w sc t b O'.length (u * tS t b sc (ab (midB s.1 ws qs ys - so))) ((s.2 : Nat) : Int)))) ++ [some (MO.dct (s.1.map Sum.inr) ((Q2O t b sc (ab (midB s.1 ws qs ys - so)) so s.1 ws qs ys).map D.int))]) q O'.length sc t b (stD s (.turn qs ys so)) (Q2O t b sc (ab (midB s.1 ws qs ys - so)) so s.1 ws qs ys) (u * tS t b sc (ab (midB s.1 ws qs ys - so))) (k + 1) := ⟨((h.up.set h.n0).set h1).app _,bk_hear h.B (next_len h.B.l),h.up.le,wOk_hear hf h.w hs hso hd⟩
end
theorem dsOk_st {sc : Int} {L : List Deed} (h : DsOk sc L) : ∀ i,StOk (stA (L.take i))
 | 0 => ⟨List.nodup_nil,(λ x hx => by cases hx),Nat.le_refl _,by show 0 <= 20; decide⟩
 | i + 1 => by
  cases hd : L[i]? with
  | none => rw [List.take_succ,hd]; show StOk (stA (L.take i ++ [])); rw [List.append_nil]; exact dsOk_st h i
  | some d => rw [List.take_succ,hd]; show StOk (stA (L.take i ++ [d])); rw [Q0W]; exact (dsOk_st h i).step (h i d hd)
section
variable {C : Addr} {O O' : Sto} {q q2 n2 e n k : Nat} {sc t b u : Int} {s : List Str × Nat} {ws : List Int}
end
inductive Ov where
 | n | i (v : Int) | b (t : Bool) | s (x : Str) | t (xs : List D) | l (xs : List D)
def ov : Ov -> D
 | .n => .non | .i v => .int v | .b t => .bl t | .s x => .str x | .t xs => .tup xs | .l xs => .lst xs
def isW : Ov -> Bool
 | .i _ => true
 | _ => false
def onO (s : Int) : Ov -> Bool
 | .i v => decide (0 <= v) && decide (v <= s)
 | _ => false
theorem not_t {b : Bool} (h : (!b) = true) : b = false := by cases b <;> first | rfl | cases h
theorem not_f {b : Bool} (h : (!b) = false) : b = true := by cases b <;> first | rfl | cases h
theorem ok_ov (v : Ov) : okTy (ov v) = true := by cases v <;> rfl
def Q2C : List D -> D -> Prop := λ ds d => ∃ v : Ov,ds = [ov v] /\ d = .bl (isW v)
def spOnSO : List D -> D -> Prop := λ ds d => ∃ (s : Int) (v : Ov),ds = [.int s,ov v] /\ d = .bl (onO s v)
def inO : Ov -> Int -> Int -> Bool
 | .i n,l,h => decide (l <= n) && decide (n <= h)
 | _,_,_ => false
theorem inO_i {v : Ov} {l h : Int} (e : inO v l h = true) : ∃ n,v = .i n /\ l <= n /\ n <= h := by
 cases v with
 | i n =>
  simp only [inO,Bool.and_eq_true,decide_eq_true_eq] at e
  exact ⟨n,rfl,e.1,e.2⟩
 | _ => cases e
abbrev tail0 : Str := " is no whole number that may stand there"
def Sh (x : Str) : Prop := (Str.empty ++ x ++ tail0).length <= sizeLine /\ x.length <= sizeLine /\ (Str.empty ++ x).length <= sizeLine
theorem sh_of {x : Str} {n : Nat} (h : ((Str.empty ++ x ++ tail0).length,x.length,(Str.empty ++ x).length) = (n + 40,n,n)) (hn : n <= 20) : Sh x := by
 simp only [Prod.mk.injEq] at h
 obtain ⟨h1,h2,h3⟩ := h
 unfold Sh
 rw [sizeLine_eq]
 omega
theorem sh_scale : Sh "scale" := sh_of (n := 5) (by decide +kernel) (by decide)
def Q2Z (CK4 : Addr) : SpX := λ ds O R RX => ∃ (x : Str) (v : Ov) (l h : Int),ds = [.str x,ov v,.int l,.int h] /\ Sh x /\ (inO v l h = true -> R .non O) /\ (inO v l h = false -> RX CK4 [] O)
theorem sh_top : Sh "top" := sh_of (n := 3) (by decide +kernel) (by decide)
theorem sh_bottom : Sh "bottom" := sh_of (n := 6) (by decide +kernel) (by decide)
def spScaleX (CK4 : Addr) : SpX := λ ds O R RX => ∃ v : Ov,ds = [ov v] /\ (inO v 1 10 = true -> R .non O) /\ (inO v 1 10 = false -> RX CK4 [] O)
def lessO : Ov -> Int
 | .i n => n - 1
 | _ => 0
def frO (t b : Ov) : Bool := inO b 1 100 && inO t 0 (lessO b)
theorem frO_i {t b : Ov} (h : frO t b = true) : ∃ x y : Int,t = .i x /\ b = .i y /\ (0 <= x /\ x < y /\ y <= 100) := by
 unfold frO at h
 rw [Bool.and_eq_true] at h
 obtain ⟨y,rfl,h1⟩ := inO_i h.1
 obtain ⟨x,rfl,h2⟩ := inO_i h.2
 have h3 : x <= y - 1 := h2.2
 exact ⟨x,y,rfl,rfl,h2.1,by omega,h1.2⟩
theorem frO_ii (x y : Int) : (decide (0 <= x) && (decide (x < y) && decide (y <= 100))) = frO (.i x) (.i y) := by
 show _ = ((decide (1 <= y) && decide (y <= 100)) && (decide (0 <= x) && decide (x <= y - 1)))
 rw [Bool.eq_iff_iff]
 simp only [Bool.and_eq_true,decide_eq_true_eq]
 omega
def Q2R (CK4 : Addr) : SpX := λ ds O R RX => ∃ t b : Ov,ds = [ov t,ov b] /\ (frO t b = true -> R .non O) /\ (frO t b = false -> RX CK4 [] O)
def nmS (x : Str) : Bool := (decide (1 <= (x.length : Int)) && decide ((x.length : Int) <= 8)) && (x.cps.toList.map λ c => decide (c ∈ Q2u)).all id
def nmO : Ov -> Bool
 | .s x => nmS x
 | _ => false
def Sml : Ov -> Prop
 | .s x => x.length <= 1000
 | _ => True
theorem nmS_ok {x : Str} (h : nmS x = true) : Q0M x := by
 unfold nmS at h
 rw [Bool.and_eq_true,Bool.and_eq_true,decide_eq_true_eq,decide_eq_true_eq,List.all_map,List.all_eq_true] at h
 exact ⟨by omega,by omega,λ c hc => of_decide_eq_true (h.2 c hc)⟩
theorem nmS_of {x : Str} (h : Q0M x) : nmS x = true := by
 have l1 := h.l1
 have l2 := h.l2
 unfold nmS
 rw [decide_eq_true (by omega),decide_eq_true (by omega),List.all_map]
 exact List.all_eq_true.mpr λ c hc => decide_eq_true (h.al c hc)
def spNameO : List D -> D -> Prop := λ ds d => ∃ v : Ov,ds = [ov v] /\ Sml v /\ d = .bl (nmO v)
def Q3e (CK2 : Addr) : SpX := λ ds O R RX => ∃ v : Ov,ds = [ov v] /\ Sml v /\ (nmO v = true -> R .non O) /\ (nmO v = false -> RX CK2 [] O)
def Q3d (CK2 : Addr) : SpX := λ ds O R RX => ∃ (da : D) (ks : List Key) (xs : List D) (x : Str),ds = [da,.str x] /\ DV O da ks xs /\ x.length <= 1000 /\ ((atK ks xs (.inr x)).isSome = true -> R .non O) /\ ((atK ks xs (.inr x)).isSome = false -> RX CK2 [] O)
def Spk (ps qs : List Str) : Prop := ∀ x ∈ qs,Q0M x /\ x ∈ ps
def spSpeakX (CK2 : Addr) : SpX := λ ds O R RX => ∃ (da : D) (ps qs : List Str) (ws : List Int) (zs : List D),ds = [da,.dct (qs.map Sum.inr) zs] /\ DV O da (ps.map Sum.inr) (ws.map D.int) /\ ps.length = ws.length /\ qs.length <= 60 /\ (∀ x ∈ qs,x.length <= 1000) /\ (Spk ps qs -> R .non O) /\ (¬ Spk ps qs -> RX CK2 [] O)
def Q4c (CK5 : Addr) : SpX := λ ds O R RX => ∃ (s : Int) (vs : List Ov),ds = [.int s,.lst (vs.map ov)] /\ vs.length <= 60 /\ ((∀ v ∈ vs,onO s v = true) -> R .non O) /\ (¬ (∀ v ∈ vs,onO s v = true) -> RX CK5 [("number",.int 0)] O)
theorem is_some {ps : List Str} {ws : List Int} {x : Str} (hl : ps.length = ws.length) : (atK (ps.map Sum.inr) (ws.map D.int) (.inr x)).isSome = decide (x ∈ ps) := by
 by_cases h : x ∈ ps
 ·rw [at_some hl h,decide_eq_true h]
 ·rw [decide_eq_false h]
  show (atS ps (ws.map D.int) x).isSome = false
  rw [atS_not h]; rfl
def Q3a (C CK4 : Addr) : SpX := λ ds O R RX => ∃ (q : Nat) (s0 t0 b0 : Ov),ds = [.ptr q,ov s0,ov t0,ov b0] /\ O[q]? = some (some (.ins C [])) /\ (∀ sc t b : Int,s0 = .i sc -> t0 = .i t -> b0 = .i b -> Frac sc t b -> R .non ((O ++ [some (MO.dct [] [])]).set q (some (.ins C (Q1w sc t b O.length 1 0))))) /\ ((inO s0 1 10 && frO t0 b0) = false -> RX CK4 [] O)
def Q3c (C CK2 CK7 : Addr) : SpX := λ ds O R RX => spComeB C ds O R \/ (∃ (q n : Nat) (sc t b u c : Int) (ps : List Str) (ws : List Int) (v : Ov),ds = [.ptr q,ov v] /\ BkAt C O q n sc t b ps ws u c /\ Sml v /\ nmO v = false /\ RX CK2 [] O) \/
 ∃ (q n : Nat) (sc t b u c : Int) (ps : List Str) (ws : List Int) (x : Str),ds = [.ptr q,.str x] /\ BkAt C O q n sc t b ps ws u c /\ Q0M x /\ x ∈ ps /\ RX CK7 [] O
def spGoBX (C CK2 : Addr) : SpX := λ ds O R RX => spGoB C ds O R \/ (∃ (q n : Nat) (sc t b u c : Int) (ps : List Str) (ws : List Int) (v : Ov),ds = [.ptr q,ov v] /\ BkAt C O q n sc t b ps ws u c /\ Sml v /\ nmO v = false /\ RX CK2 [] O) \/
 ∃ (q n : Nat) (sc t b u c : Int) (ps : List Str) (ws : List Int) (x : Str),ds = [.ptr q,.str x] /\ BkAt C O q n sc t b ps ws u c /\ Q0M x /\ x ∉ ps /\ RX CK2 [] O
def BadSaid (C CK2 CK5 : Addr) (q : Nat) (ps qs : List Str) (vs : List Ov) (sc : Int) (O : Sto) (RX : XR) : Prop := qs.length <= 60 /\ qs.length = vs.length /\ (∀ x ∈ qs,x.length <= 1000) /\ ((¬ Spk ps qs /\ RX CK2 [] O) \/ (Spk ps qs /\ ¬ (∀ v ∈ vs,onO sc v = true) /\ RX CK5 [("number",.int 0)] O))
def spSayBX (C CK2 CK5 : Addr) : SpX := λ ds O R RX => spSayB C ds O R \/ ∃ (q n : Nat) (sc t b u c : Int) (ps qs : List Str) (ws : List Int) (vs : List Ov),ds = [.ptr q,.dct (qs.map Sum.inr) (vs.map ov)] /\ BkAt C O q n sc t b ps ws u c /\ BadSaid C CK2 CK5 q ps qs vs sc O RX
def spBadTurn (C CK2 CK5 : Addr) : List D -> Sto -> XR -> Prop := λ ds O RX => (∃ (q n : Nat) (sc t b u c : Int) (ps qs : List Str) (ws : List Int) (vs : List Ov) (y : Ov),ds = [.ptr q,.dct (qs.map Sum.inr) (vs.map ov),ov y] /\ BkAt C O q n sc t b ps ws u c /\ BadSaid C CK2 CK5 q ps qs vs sc O RX) \/
 ∃ (q n : Nat) (sc t b u c : Int) (ps qs : List Str) (ws ys : List Int) (y : Ov),ds = [.ptr q,.dct (qs.map Sum.inr) (ys.map D.int),ov y] /\ BkAt C O q n sc t b ps ws u c /\ Wok ws /\ SaidB sc ps qs ys /\ onO sc y = false /\ RX CK5 [("number",.int 0)] O
def Q2D (C CK2 CK5 : Addr) : SpX := λ ds O R RX => spChargeB C ds O R \/ spBadTurn C CK2 CK5 ds O RX
def Q3b (C CK2 CK5 : Addr) : SpX := λ ds O R RX => spHearB C ds O R \/ spBadTurn C CK2 CK5 ds O RX
theorem ints_ov (ys : List Int) : (ys.map Ov.i).map ov = ys.map D.int := by rw [List.map_map]; rfl
theorem on_all {sc : Int} {ys : List Int} (h : ∀ y ∈ ys,0 <= y /\ y <= sc) : ∀ v ∈ ys.map Ov.i,onO sc v = true := λ v hv => by
 obtain ⟨y,hy,rfl⟩ := List.mem_map.mp hv
 show (decide (0 <= y) && decide (y <= sc)) = true
 rw [decide_eq_true (h y hy).1,decide_eq_true (h y hy).2]; rfl
def badN (j : Int) : Ov := if j = 0 then .s "" else if j = 1 then .s "A" else if j = 2 then .s "ab1" else if j = 3 then .s "abcdefghi" else if j = 4 then .s " a" else if j = 5 then .s "a b" else if j = 6 then .n else if j = 7 then .i 7 else if j = 8 then .s "a\n" else if j = 9 then .t [.str "a"] else .l [.str "a"]
theorem badN_at (j : Int) : atI [D.str "",.str "A",.str "ab1",.str "abcdefghi",.str " a",.str "a b",.non,.int 7,.str "a\n",.tup [.str "a"],.lst [.str "a"]] (j % 11) = some (ov (badN (j % 11))) := by
 unfold badN
 have h : j % 11 = 0 \/ j % 11 = 1 \/ j % 11 = 2 \/ j % 11 = 3 \/ j % 11 = 4 \/ j % 11 = 5 \/ j % 11 = 6 \/ j % 11 = 7 \/ j % 11 = 8 \/ j % 11 = 9 \/ j % 11 = 10 := by omega
 rcases h with h | h | h | h | h | h | h | h | h | h | h <;> rw [h] <;> rfl
theorem badN_no (j : Int) : nmO (badN (j % 11)) = false /\ Sml (badN (j % 11)) := by
 unfold badN
 have h : j % 11 = 0 \/ j % 11 = 1 \/ j % 11 = 2 \/ j % 11 = 3 \/ j % 11 = 4 \/ j % 11 = 5 \/ j % 11 = 6 \/ j % 11 = 7 \/ j % 11 = 8 \/ j % 11 = 9 \/ j % 11 = 10 := by omega
 rcases h with h | h | h | h | h | h | h | h | h | h | h <;> rw [h]
 ·exact ⟨show nmS "" = false by decide +kernel,show (("" : Str)).length <= 1000 by decide +kernel⟩
 ·exact ⟨show nmS "A" = false by decide +kernel,show (("A" : Str)).length <= 1000 by decide +kernel⟩
 ·exact ⟨show nmS "ab1" = false by decide +kernel,show (("ab1" : Str)).length <= 1000 by decide +kernel⟩
 ·exact ⟨show nmS "abcdefghi" = false by decide +kernel,show (("abcdefghi" : Str)).length <= 1000 by decide +kernel⟩
 ·exact ⟨show nmS " a" = false by decide +kernel,show ((" a" : Str)).length <= 1000 by decide +kernel⟩
 ·exact ⟨show nmS "a b" = false by decide +kernel,show (("a b" : Str)).length <= 1000 by decide +kernel⟩
 ·exact ⟨rfl,trivial⟩
 ·exact ⟨rfl,trivial⟩
 ·exact ⟨show nmS "a\n" = false by decide +kernel,show (("a\n" : Str)).length <= 1000 by decide +kernel⟩
 ·exact ⟨rfl,trivial⟩
 ·exact ⟨rfl,trivial⟩
def bad5 (j : Int) : Str := if j = 0 then "" else if j = 1 then "A" else if j = 2 then "ab1" else if j = 3 then "abcdefghi" else " a"
theorem bad5_at (j : Int) : atI [D.str "",.str "A",.str "ab1",.str "abcdefghi",.str " a"] (j % 5) = some (.str (bad5 (j % 5))) := by
 unfold bad5
 have h : j % 5 = 0 \/ j % 5 = 1 \/ j % 5 = 2 \/ j % 5 = 3 \/ j % 5 = 4 := by omega
 rcases h with h | h | h | h | h <;> rw [h] <;> rfl
theorem bad5_no (j : Int) : nmS (bad5 (j % 5)) = false /\ (bad5 (j % 5)).length <= 1000 := by
 unfold bad5
 have h : j % 5 = 0 \/ j % 5 = 1 \/ j % 5 = 2 \/ j % 5 = 3 \/ j % 5 = 4 := by omega
 rcases h with h | h | h | h | h <;> rw [h]
 ·exact ⟨show nmS "" = false by decide +kernel,show (("" : Str)).length <= 1000 by decide +kernel⟩
 ·exact ⟨show nmS "A" = false by decide +kernel,show (("A" : Str)).length <= 1000 by decide +kernel⟩
 ·exact ⟨show nmS "ab1" = false by decide +kernel,show (("ab1" : Str)).length <= 1000 by decide +kernel⟩
 ·exact ⟨show nmS "abcdefghi" = false by decide +kernel,show (("abcdefghi" : Str)).length <= 1000 by decide +kernel⟩
 ·exact ⟨show nmS " a" = false by decide +kernel,show ((" a" : Str)).length <= 1000 by decide +kernel⟩
theorem bad5_spk {ps : List Str} (j : Int) (l : List Str) : ¬ Spk ps (bad5 (j % 5) :: l) := λ h => by
 have := nmS_of (h _ List.mem_cons_self).1
 rw [(bad5_no j).1] at this
 cases this
def badM (s j : Int) : Ov := if j = 0 then .i (s + 1) else if j = 1 then .i (-1) else if j = 2 then .b true else if j = 3 then .n else if j = 4 then .s "0" else if j = 5 then .t [.int 0] else if j = 6 then .i (s + 10 ^ (30 : Int).toNat) else .b false
theorem badM_at (s j : Int) : atI [D.int (s + 1),.int (-1),.bl true,.non,.str "0",.tup [.int 0],.int (s + 10 ^ (30 : Int).toNat),.bl false] (j % 8) = some (ov (badM s (j % 8))) := by
 unfold badM
 generalize (10 : Int) ^ (30 : Int).toNat = z
 have h : j % 8 = 0 \/ j % 8 = 1 \/ j % 8 = 2 \/ j % 8 = 3 \/ j % 8 = 4 \/ j % 8 = 5 \/ j % 8 = 6 \/ j % 8 = 7 := by omega
 rcases h with h | h | h | h | h | h | h | h <;> rw [h] <;> rfl
theorem badM_no (s j : Int) : onO s (badM s (j % 8)) = false := by
 unfold badM
 have hz : (0 : Int) < 10 ^ (30 : Int).toNat := by decide +kernel
 generalize (10 : Int) ^ (30 : Int).toNat = z at hz
 have h : j % 8 = 0 \/ j % 8 = 1 \/ j % 8 = 2 \/ j % 8 = 3 \/ j % 8 = 4 \/ j % 8 = 5 \/ j % 8 = 6 \/ j % 8 = 7 := by omega
 rcases h with h | h | h | h | h | h | h | h <;> rw [h] <;> first | rfl | skip
 ·show (decide (0 <= s + 1) && decide (s + 1 <= s)) = false
  rw [decide_eq_false (show ¬ s + 1 <= s by omega),Bool.and_false]
 ·show (decide (0 <= s + z) && decide (s + z <= s)) = false
  rw [decide_eq_false (show ¬ s + z <= s by omega),Bool.and_false]
def spBadName : List D -> D -> Prop := λ ds d => ∃ c : Int,ds = [.int c] /\ d = ov (badN (c % 11))
def spBadNum : List D -> D -> Prop := λ ds d => ∃ c s : Int,ds = [.int c,.int s] /\ d = ov (badM s (c % 8))
def badS (j : Int) : Ov := if j = 0 then .i 0 else if j = 1 then .i 11 else if j = 2 then .i (-1) else if j = 3 then .b true else if j = 4 then .b false else .i (10 ^ (20 : Int).toNat)
theorem badS_at (j : Int) : atI [D.int 0,.int 11,.int (-1),.bl true,.bl false,.int (10 ^ (20 : Int).toNat)] (j % 6) = some (ov (badS (j % 6))) := by
 unfold badS
 generalize (10 : Int) ^ (20 : Int).toNat = z
 have h : j % 6 = 0 \/ j % 6 = 1 \/ j % 6 = 2 \/ j % 6 = 3 \/ j % 6 = 4 \/ j % 6 = 5 := by omega
 rcases h with h | h | h | h | h | h <;> rw [h] <;> rfl
theorem badS_no (j : Int) : inO (badS (j % 6)) 1 10 = false := by
 unfold badS
 have hz : (10 : Int) < 10 ^ (20 : Int).toNat := by decide +kernel
 generalize (10 : Int) ^ (20 : Int).toNat = z at hz
 have h : j % 6 = 0 \/ j % 6 = 1 \/ j % 6 = 2 \/ j % 6 = 3 \/ j % 6 = 4 \/ j % 6 = 5 := by omega
 rcases h with h | h | h | h | h | h <;> rw [h] <;> first | rfl | skip
 show (decide (1 <= z) && decide (z <= 10)) = false
 rw [decide_eq_false (show ¬ z <= 10 by omega),Bool.and_false]
def badF (j : Int) : Ov × Ov := if j = 0 then (.i 1,.i 1) else if j = 1 then (.i (-1),.i 2) else if j = 2 then (.i 0,.i 0) else if j = 3 then (.i 3,.i 2) else if j = 4 then (.b true,.i 2) else if j = 5 then (.i 0,.i 101) else if j = 6 then (.i 0,.i (-3)) else (.i 0,.b true)
theorem badF_at (j : Int) : atI [D.tup [.int 1,.int 1],.tup [.int (-1),.int 2],.tup [.int 0,.int 0],.tup [.int 3,.int 2],.tup [.bl true,.int 2],.tup [.int 0,.int 101],.tup [.int 0,.int (-3)],.tup [.int 0,.bl true]] (j % 8) = some (.tup [ov (badF (j % 8)).1,ov (badF (j % 8)).2]) := by
 unfold badF
 have h : j % 8 = 0 \/ j % 8 = 1 \/ j % 8 = 2 \/ j % 8 = 3 \/ j % 8 = 4 \/ j % 8 = 5 \/ j % 8 = 6 \/ j % 8 = 7 := by omega
 rcases h with h | h | h | h | h | h | h | h <;> rw [h] <;> rfl
theorem badF_no (j : Int) : frO (badF (j % 8)).1 (badF (j % 8)).2 = false := by
 unfold badF
 have h : j % 8 = 0 \/ j % 8 = 1 \/ j % 8 = 2 \/ j % 8 = 3 \/ j % 8 = 4 \/ j % 8 = 5 \/ j % 8 = 6 \/ j % 8 = 7 := by omega
 rcases h with h | h | h | h | h | h | h | h <;> rw [h] <;> decide +kernel
def wayC (CK2 CK7 CK5 CK4 : Addr) (w : Nat) : Addr × List (Str × D) := if w = 4 then (CK7,[]) else if w < 8 then (CK2,[]) else if w < 12 then (CK5,[("number",.int 0)]) else (CK4,[])
def spDeedX (C CK2 CK7 CK5 CK4 : Addr) : SpX := λ ds O R RX => ∃ (q n w : Nat) (sc t b u c cc : Int) (ps nm : List Str) (ws : List Int) (x0 x1 : Str),ds = [.ptr q,.int (w : Nat),.lst (nm.map D.str),.int cc,.int sc] /\ w < 14 /\ BkAt C O q n sc t b ps ws u c /\ Wok ws /\ (1 <= sc /\ sc <= 10) /\ nm[0]? = some x0 /\ nm[1]? = some x1 /\ Q0M x0 /\ Q0M x1 /\ x0 ≠ x1 /\ x0 ∈ ps /\ x1 ∉ ps /\
 ∀ Y,RX (wayC CK2 CK7 CK5 CK4 w).1 (wayC CK2 CK7 CK5 CK4 w).2 (O ++ Y)
theorem badM_np (s j : Int) : npD (ov (badM s (j % 8))) = true := by
 unfold badM
 have h : j % 8 = 0 \/ j % 8 = 1 \/ j % 8 = 2 \/ j % 8 = 3 \/ j % 8 = 4 \/ j % 8 = 5 \/ j % 8 = 6 \/ j % 8 = 7 := by omega
 rcases h with h | h | h | h | h | h | h | h <;> rw [h] <;> rfl
theorem spk_one {ps : List Str} {x : Str} (h : Q0M x) (hp : x ∈ ps) : Spk ps [x] := λ y hy => by rw [List.mem_singleton.mp hy]; exact ⟨h,hp⟩
theorem off_one {s : Int} {v : Ov} (h : onO s v = false) : ¬ ∀ w ∈ [v],onO s w = true := λ z => by
 have := z v (List.mem_singleton.mpr rfl)
 rw [h] at this
 cases this
theorem len_sm {l : List Str} (h : ∀ x ∈ l,Q0M x) : ∀ x ∈ l,x.length <= 1000 := λ x hx => by have := (h x hx).l2; omega
def dueS (w : Nat) : Str := if w = 4 then "twice" else if w < 8 then "name" else if w < 12 then "turn" else "rule"
def spToldB (C : Addr) : SpD := λ ds O R => ∃ (q n w : Nat) (sc t b u c cc : Int) (ps nm : List Str) (ws : List Int) (x0 x1 : Str),ds = [.ptr q,.int (w : Nat),.lst (nm.map D.str),.int cc,.int sc] /\ w < 14 /\ BkAt C O q n sc t b ps ws u c /\ Wok ws /\ (1 <= sc /\ sc <= 10) /\ nm[0]? = some x0 /\ nm[1]? = some x1 /\ Q0M x0 /\ Q0M x1 /\ x0 ≠ x1 /\ x0 ∈ ps /\ x1 ∉ ps /\ R (.str (dueS w)) O
theorem way_cs {cA cB cC cD : Addr} {w : Nat} (h : w < 14) : (wayC cA cB cC cD w = (cB,[]) /\ dueS w = "twice") \/ (wayC cA cB cC cD w = (cA,[]) /\ dueS w = "name") \/ (wayC cA cB cC cD w = (cC,[(("number" : Str),D.int 0)]) /\ dueS w = "turn") \/ (wayC cA cB cC cD w = (cD,[]) /\ dueS w = "rule") := by
 unfold wayC dueS
 by_cases h1 : w = 4
 ·left; rw [if_pos h1,if_pos h1]; exact ⟨rfl,rfl⟩
 rw [if_neg h1,if_neg h1]
 by_cases h2 : w < 8
 ·right; left; rw [if_pos h2,if_pos h2]; exact ⟨rfl,rfl⟩
 rw [if_neg h2,if_neg h2]
 by_cases h3 : w < 12
 ·right; right; left; rw [if_pos h3,if_pos h3]; exact ⟨rfl,rfl⟩
 rw [if_neg h3,if_neg h3]
 exact .inr (.inr (.inr ⟨rfl,rfl⟩))
def abc : Str := Str.ofString "abcdefghijklmnopqrstuvwxyz"
def letA (k : Int) : Option Nat := abc.cps[k.toNat]?
theorem let_inj : ∀ i : Nat,i < 26 -> ∀ j : Nat,j < 26 -> abc.cps[i]? = abc.cps[j]? -> i = j := by decide +kernel
theorem letA_ne (k : Int) : letA (k % 26) ≠ letA ((k + 1) % 26) := λ h => by
 have := let_inj (k % 26).toNat (by omega) ((k + 1) % 26).toNat (by omega) h
 omega
def relNm2 : List D -> D -> Prop := λ ds d => ∃ nm : List Str,d = .lst (nm.map D.str) /\ (∀ c m,ds = [.int c,.int ((m : Nat) : Int)] -> nm.length = m) /\ (∀ x ∈ nm,Q0M x) /\ ∀ x0 x1,nm[0]? = some x0 -> nm[1]? = some x1 -> x0 ≠ x1
theorem tS_ge {t b sc dd : Int} (hf : Frac sc t b) : 1 <= tS t b sc dd /\ (b ≠ 1 -> 2 <= tS t b sc dd) := by
 have t0 := hf.t0; have tb := hf.tb; have s1 := hf.s1
 have h1 : 0 < b ^ sc.toNat := Int.pow_pos (by omega)
 have h2 : 0 < b ^ dd.toNat := Int.pow_pos (by omega)
 have h3 : 0 <= t ^ dd.toNat := Int.pow_nonneg t0
 refine ⟨Int.mul_pos h1 (by omega),λ hb => ?_⟩
 have h4 : 2 <= b ^ sc.toNat := by
  rw [show sc.toNat = (sc.toNat - 1) + 1 by omega,Int.pow_succ]
  have h5 : 0 < b ^ (sc.toNat - 1) := Int.pow_pos (by omega)
  have := Int.mul_le_mul_of_nonneg_right (show 1 <= b ^ (sc.toNat - 1) by omega) (show 0 <= b by omega)
  rw [Int.one_mul] at this
  omega
 have := Int.mul_le_mul_of_nonneg_left (show 1 <= b ^ dd.toNat + t ^ dd.toNat by omega) (show 0 <= b ^ sc.toNat by omega)
 rw [Int.mul_one] at this
 exact Int.le_trans h4 this
theorem u_more {u T : Int} (hu : 1 <= u) (hT : 1 <= T) : 1 <= u * T /\ (2 <= T -> u < u * T) := by
 have h1 := Int.mul_le_mul_of_nonneg_left hT (show 0 <= u by omega)
 rw [Int.mul_one] at h1
 refine ⟨by omega,λ h2 => ?_⟩
 have h3 := Int.mul_le_mul_of_nonneg_left h2 (show 0 <= u by omega)
 omega
theorem mem_gone {ps : List Str} {x y : Str} (hy : y ∈ ps) (hn : y ≠ x) : y ∈ ps.eraseIdx (ps.idxOf x) := by
 induction ps with
 | nil => cases hy
 | cons a ps ih =>
  by_cases e : a = x
  ·subst e
   have i0 : (a :: ps).idxOf a = 0 := by simp [List.idxOf_cons]
   rw [i0,List.eraseIdx_cons_zero]
   exact (List.mem_cons.mp hy).resolve_left hn
  ·have i0 : (a :: ps).idxOf x = ps.idxOf x + 1 := by rw [List.idxOf_cons,show (a == x) = false from beq_eq_false_iff_ne.mpr e]; rfl
   rw [i0,List.eraseIdx_cons_succ]
   rcases List.mem_cons.mp hy with h | h
   ·rw [h]; exact List.mem_cons_self
   ·exact List.mem_cons_of_mem _ (ih h)
theorem due_8 {w : Nat} (h : w < 14) : ∃ z,atI [D.str "name",.str "name",.str "name",.str "name",.str "twice",.str "name",.str "name",.str "name"] (((w : Nat) : Int) % 8) = some (.str z) /\ (w < 8 -> z = dueS w) := by
 have hw : w = 0 \/ w = 1 \/ w = 2 \/ w = 3 \/ w = 4 \/ w = 5 \/ w = 6 \/ w = 7 \/ w = 8 \/ w = 9 \/ w = 10 \/ w = 11 \/ w = 12 \/ w = 13 := by omega
 rcases hw with rfl | rfl | rfl | rfl | rfl | rfl | rfl | rfl | rfl | rfl | rfl | rfl | rfl | rfl <;> exact ⟨_,rfl,λ h => by first | rfl | omega⟩
theorem due_14 {w : Nat} (h : w < 14) (h8 : 8 <= w) : atI [D.str "turn",.str "turn",.str "turn",.str "turn",.str "rule",.str "rule"] (((w : Nat) : Int) - 8) = some (.str (dueS w)) := by
 have hw : w = 8 \/ w = 9 \/ w = 10 \/ w = 11 \/ w = 12 \/ w = 13 := by omega
 rcases hw with rfl | rfl | rfl | rfl | rfl | rfl <;> rfl
structure LOk (C : Addr) (O O' : Sto) (q n : Nat) (sc t b : Int) (s : List Str × Nat) (ws : List Int) (u : Int) (k : Nat) : Prop where
 S : BSt C O O' q n sc t b s ws u k
 u1 : 1 <= u
 nm : ∀ x ∈ s.1,Q0M x
 l : s.1.length <= 21
 k : k <= 70
theorem srt_nm {l : List Str} (h : ∀ x ∈ l,Q0M x) : plDs ((srt ltS l).map D.str) = true := pl_strs λ x hx => h x ((Q1K ltS l).mem_iff.mp hx)
theorem srt_any (l : List Str) (x : Str) : (((srt ltS l).map D.str).any λ y => eqD y (.str x)) = decide (x ∈ l) := by
 rw [any_eqS]
 exact decide_eq_decide.mpr (Q1K ltS l).mem_iff
theorem eq_tup (l : List Str) : eqD (.tup (l.map D.str)) (.tup (l.map D.str)) = true := by
 have : eqD (.tup (l.map D.str)) (.tup (l.map D.str)) = decide (l = l) := eqDs_map eqS l l
 rw [this,decide_eq_true rfl]
seal EvP Ev EvPs Ex Exs EvT EvI EvX ExX ExsX
section
variable {P : Program} {w : World} {K : PySem.W.Frag} {mg : Str -> Option Value} {base : Heap} {CK0 CK1 CK5 CK4 CK2 CK7 CK3 CK6 : Addr}
theorem Q3k {f : Addr} {fd : FuncData} (T : Txt K mg CK0 CK1 CK5 CK4 CK2 CK7 CK3 CK6) (Fn : Fun K "__init__" "NoTurn.__init__" Q0C f fd) (Z : ExcI K CK5 f "number") : FnOk P w K mg base CX0 1 f fd ["self","number"] (spI CK5 "number") :=
 L2.okI Fn Q3g Z T.t_NoTurn rfl (by decide) (by decide) (by decide) (by decide) (by first | exact Or.inl rfl | exact Or.inr rfl) (by first | exact Or.inl rfl | exact Or.inr rfl) (λ _ => rfl)
theorem ok_is_whole {f : Addr} {fd : FuncData} (T : Txt K mg CK0 CK1 CK5 CK4 CK2 CK7 CK3 CK6) (Fn : Fun K "is_whole" "is_whole" Q1D f fd) (hm : mg "is_whole" = some (.ref f)) (hb : Q0F K fd ["value"] []) : Q0t P w K mg base 1 "is_whole" (Q0x Q2C) := by
 refine okD (k := 0) Fn sc_is_whole hm hb (λ ds O R h => ?_) (λ cdv A outer s H E ds O R hr h => ?_)
 ·obtain ⟨_,⟨_,rfl,_⟩,_⟩ := h; rfl
 ·obtain ⟨d,⟨v,rfl,rfl⟩,hR⟩ := h
  refine Q0c (Q0N (EvP.ev (ev_and (Q0K T.b_isinstance (Q0a (Q0b 0) (Q0a (Q2i T.b_int) Q0e)) (c_isi_int (ok_ov v))) (λ hbb => (ev_one (ev_not (Q0K T.b_isinstance (Q0a (Q0b 0) (Q0a (Q2i T.b_bool) Q0e)) (c_isi_bool (ok_ov v))))))) ?_))
  have e : (isiD (ov v) "int" && !isiD (ov v) "bool") = isW v := by cases v <;> rfl
  rw [e]
  exact hR
theorem ok_check_within {f : Addr} {fd : FuncData} (T : Txt K mg CK0 CK1 CK5 CK4 CK2 CK7 CK3 CK6) (Fn : Fun K "check_within" "check_within" Q0U f fd) (hm : mg "check_within" = some (.ref f)) (hb : Q0F K fd ["what","value","least","most"] []) (F_is_whole : Q0t P w K mg base 1 "is_whole" (Q0x Q2C)) : DefX P w K mg base 2 "check_within" (Q2Z CK4) := by
 refine ⟨f,fd,_,okX (k := 1) Fn sc_check_within (λ ds O R RX h => ?_) (λ cdv A outer s H E ds O R RX hr h => ?_),hm,Fn.kp,hb⟩
 ·obtain ⟨_,_,_,_,rfl,_⟩ := h; rfl
 ·obtain ⟨x,v,l,u,rfl,⟨hx1,hx2,hx3⟩,h1,h2⟩ := h
  cases hw : isW v with
  | false =>
   have e : inO v l u = false := by cases v <;> first | rfl | cases hw
   refine Q0g (Q1i (k := true || false) (EvW.t (ew_or (k := true) (l := false) (EvT.cast (Q2m (Q2V (Q0p F_is_whole (hr.mono (by decide)) (Q0a (Q0b 1) Q0e) ⟨v,rfl,rfl⟩))) (by rw [hw]; rfl)) (λ hbb => by cases hbb))) (λ hk => ?_) (λ hk => by cases hk))
   exact Q0g (Q2Y T.e_NoRule T.m_NoRule (Q0a (ev_fstr (Q0b 0) hx1 hx2 hx3) Q0e) (h2 e) trivial)
  | true =>
   cases v <;> first | (cases hw; done) | skip
   rename_i n
   refine Q0g (Q1i (EvW.t (ew_or (Q2m (Q2V (Q0p F_is_whole (hr.mono (by decide)) (Q0a (Q0b 1) Q0e) ⟨.i n,rfl,rfl⟩))) (λ hbb => (ew_or1 (Q2m (et_chain (Q0b 2) (Q0b 1) (Q0b 3) cmp_le (λ hbb => cmp_le))))))) (λ hk => ?_) (λ hk => Q1R (Q1R (h1 ?_))))
   ·refine Q0g (Q2Y T.e_NoRule T.m_NoRule (Q0a (ev_fstr (Q0b 0) hx1 hx2 hx3) Q0e) (h2 ?_) trivial)
    exact not_t (show (!(decide (l <= n) && decide (n <= u))) = true from hk)
   ·exact not_f (show (!(decide (l <= n) && decide (n <= u))) = false from hk)
theorem ok_check_scale {f : Addr} {fd : FuncData} (T : Txt K mg CK0 CK1 CK5 CK4 CK2 CK7 CK3 CK6) (Fn : Fun K "check_scale" "check_scale" Q1g f fd) (hm : mg "check_scale" = some (.ref f)) (hb : Q0F K fd ["scale"] []) (F_check_within : DefX P w K mg base 2 "check_within" (Q2Z CK4)) : DefX P w K mg base 3 "check_scale" (spScaleX CK4) := by
 refine ⟨f,fd,_,okX (k := 2) Fn sc_check_scale (λ ds O R RX h => ?_) (λ cdv A outer s H E ds O R RX hr h => ?_),hm,Fn.kp,hb⟩
 ·obtain ⟨_,rfl,_⟩ := h; rfl
 ·obtain ⟨v,rfl,h1,h2⟩ := h
  exact Q0g (Q0s (Q0z F_check_within (hr.mono (by decide)) (Q0a Q0k (Q0a (Q0b 0) (Q0a Q0d (Q0a (ev_gint T.g_MOST_SCALE.choose_spec) Q0e)))) ⟨"scale",v,1,10,rfl,sh_scale,λ e => Q1R (h1 e),λ e => h2 e⟩))
theorem Q3B {f : Addr} {fd : FuncData} (T : Txt K mg CK0 CK1 CK5 CK4 CK2 CK7 CK3 CK6) (Fn : Fun K "check_fraction" "check_fraction" Q0J f fd) (hm : mg "check_fraction" = some (.ref f)) (hb : Q0F K fd ["top","bottom"] []) (F_check_within : DefX P w K mg base 2 "check_within" (Q2Z CK4)) : DefX P w K mg base 3 "check_fraction" (Q2R CK4) := by
 refine ⟨f,fd,_,okX (k := 2) Fn Q3v (λ ds O R RX h => ?_) (λ cdv A outer s H E ds O R RX hr h => ?_),hm,Fn.kp,hb⟩
 ·obtain ⟨_,_,rfl,_⟩ := h; rfl
 ·obtain ⟨t,b,rfl,h1,h2⟩ := h
  refine Q0g (Q0s (Q0z F_check_within (hr.mono (by decide)) (Q0a Q0k (Q0a (Q0b 1) (Q0a Q0d (Q0a (ev_gint T.g_MOST_BOTTOM.choose_spec) Q0e)))) ⟨"bottom",b,1,100,rfl,sh_bottom,λ e => ?_,λ e => h2 (by unfold frO; rw [e]; rfl)⟩))
  obtain ⟨n,rfl,hn⟩ := inO_i e
  exact Q0g (Q0s (Q0z F_check_within (hr.mono (by decide)) (Q0a Q0k (Q0a (Q0b 0) (Q0a Q0d (Q0a (Q0j (Q0b 1) Q0d o_sub) Q0e)))) ⟨"top",t,0,n - 1,rfl,sh_top,λ e' => Q1R (h1 (by unfold frO lessO; rw [e,e']; rfl)),λ e' => h2 (by unfold frO lessO; rw [e,e']; rfl)⟩))
theorem ok_is_on_scale {f : Addr} {fd : FuncData} (T : Txt K mg CK0 CK1 CK5 CK4 CK2 CK7 CK3 CK6) (Fn : Fun K "is_on_scale" "is_on_scale" Q1e f fd) (hm : mg "is_on_scale" = some (.ref f)) (hb : Q0F K fd ["scale","value"] []) (F_is_whole : Q0t P w K mg base 1 "is_whole" (Q0x Q2C)) : Q0t P w K mg base 2 "is_on_scale" (Q0x spOnSO) := by
 refine okD (k := 1) Fn sc_is_on_scale hm hb (λ ds O R h => ?_) (λ cdv A outer s H E ds O R hr h => ?_)
 ·obtain ⟨_,⟨_,_,rfl,_⟩,_⟩ := h; rfl
 ·obtain ⟨d,⟨s,v,rfl,rfl⟩,hR⟩ := h
  cases hw : isW v with
  | false =>
   have e : onO s v = false := by cases v <;> first | rfl | cases hw
   rw [e] at hR
   refine Q0c (Q0N (EvP.ev (ev_and (k := false) (l := false) (Q0p F_is_whole (hr.mono (by decide)) (Q0a (Q0b 1) Q0e) ⟨v,rfl,by rw [hw]⟩) (λ hbb => absurd hbb Bool.false_ne_true)) ?_))
   exact hR
  | true =>
   cases v <;> first | (cases hw; done) | skip
   rename_i i
   refine Q0c (Q0N (EvP.ev (ev_and (Q0p F_is_whole (hr.mono (by decide)) (Q0a (Q0b 1) Q0e) ⟨.i i,rfl,rfl⟩) (λ hbb => (ev_one (ev_chain Q0d (Q0b 1) (Q0b 0) cmp_le (λ hbb => cmp_le))))) ?_))
   exact hR
theorem ok_is_name {f : Addr} {fd : FuncData} (T : Txt K mg CK0 CK1 CK5 CK4 CK2 CK7 CK3 CK6) (Fn : Fun K "is_name" "is_name" Q1V f fd) (hm : mg "is_name" = some (.ref f)) (hb : Q0F K fd ["name"] []) : Q0t P w K mg base 1 "is_name" (Q0x spNameO) := by
 refine okD (k := 0) Fn sc_is_name hm hb (λ ds O R h => ?_) (λ cdv A outer s H E ds O R hr h => ?_)
 ·obtain ⟨_,⟨_,rfl,_⟩,_⟩ := h; rfl
 ·obtain ⟨d,⟨v,rfl,hv,rfl⟩,hR⟩ := h
  cases v with
  | s x =>
   have hv : x.length <= 1000 := hv
   have hz : x.length <= sizeLine := by rw [sizeLine_eq]; omega
   have hR : R (.bl (nmS x)) O := hR
   unfold nmS at hR
   refine Q0c (x_if (EvT.cast (k' := !(decide ((1 : Int) <= (x.length : Nat)) && decide (((x.length : Nat) : Int) <= 8))) (EvW.t (ew_or (Q2m (Q2V (Q0K T.b_isinstance (Q0a (Q0b 0) (Q0a (Q2i T.b_str) Q0e)) (Q2b rfl)))) (λ hbb => (ew_or1 (Q2m (et_chain Q0d (Q0K T.b_len (Q0a (Q0b 0) Q0e) (c_lenS hz)) (ev_gint T.g_MOST_LETTERS.choose_spec) cmp_le (λ hbb => cmp_le))))))) rfl) (λ hk => ?_) (λ hk => Q0m ?_))
   ·have e : (decide ((1 : Int) <= (x.length : Nat)) && decide (((x.length : Nat) : Int) <= 8)) = false := by
     cases e : (decide ((1 : Int) <= (x.length : Nat)) && decide (((x.length : Nat) : Int) <= 8)) with
     | false => rfl
     | true => rw [e] at hk; cases hk
    rw [e] at hR
    exact Q0c (Q0N (EvP.ev Q2a hR))
   ·have e : (decide ((1 : Int) <= (x.length : Nat)) && decide (((x.length : Nat) : Int) <= 8)) = true := by
     cases e : (decide ((1 : Int) <= (x.length : Nat)) && decide (((x.length : Nat) : Int) <= 8)) with
     | true => rfl
     | false => rw [e] at hk; cases hk
    rw [e,Bool.true_and] at hR
    exact Q0c (Q0N (EvP.ev (Q0K T.b_all (Q0a (Q4f (λ c : Nat => .bl (decide (c ∈ Q2u))) ["sign"] [] [] (ei_str (Q0b 0)) (by rw [Array.length_toList]; show x.length <= _; exact hz) (by exact λ q hq s H fp => ⟨[some _],rfl,(Q0A 0 (show List.Nodup (["sign"] : List Str) by decide +kernel)),⟨_,rfl,(ev_cmp (Q0b 0) (ev_gstr T.g_LETTERS.choose_spec) cmp_inS)⟩⟩)) Q0e) (c_all (bs := x.cps.toList.map λ c => decide (c ∈ Q2u)) (Or.inl (Or.inl (by rw [List.map_map]; rfl))))) hR))
  | n =>
   refine Q0c (x_if (k := true || false) (EvW.t (ew_or (k := true) (l := false) (EvT.cast (Q2m (Q2V (Q0K T.b_isinstance (Q0a (Q0b 0) (Q0a (Q2i T.b_str) Q0e)) (Q2b rfl)))) rfl) (λ hbb => by cases hbb))) (λ _ => ?_) (λ hk => by cases hk))
   exact Q0c (Q0N (EvP.ev Q2a hR))
  | i z =>
   refine Q0c (x_if (k := true || false) (EvW.t (ew_or (k := true) (l := false) (EvT.cast (Q2m (Q2V (Q0K T.b_isinstance (Q0a (Q0b 0) (Q0a (Q2i T.b_str) Q0e)) (Q2b rfl)))) rfl) (λ hbb => by cases hbb))) (λ _ => ?_) (λ hk => by cases hk))
   exact Q0c (Q0N (EvP.ev Q2a hR))
  | b z =>
   refine Q0c (x_if (k := true || false) (EvW.t (ew_or (k := true) (l := false) (EvT.cast (Q2m (Q2V (Q0K T.b_isinstance (Q0a (Q0b 0) (Q0a (Q2i T.b_str) Q0e)) (Q2b rfl)))) rfl) (λ hbb => by cases hbb))) (λ _ => ?_) (λ hk => by cases hk))
   exact Q0c (Q0N (EvP.ev Q2a hR))
  | t z =>
   refine Q0c (x_if (k := true || false) (EvW.t (ew_or (k := true) (l := false) (EvT.cast (Q2m (Q2V (Q0K T.b_isinstance (Q0a (Q0b 0) (Q0a (Q2i T.b_str) Q0e)) (Q2b rfl)))) rfl) (λ hbb => by cases hbb))) (λ _ => ?_) (λ hk => by cases hk))
   exact Q0c (Q0N (EvP.ev Q2a hR))
  | l z =>
   refine Q0c (x_if (k := true || false) (EvW.t (ew_or (k := true) (l := false) (EvT.cast (Q2m (Q2V (Q0K T.b_isinstance (Q0a (Q0b 0) (Q0a (Q2i T.b_str) Q0e)) (Q2b rfl)))) rfl) (λ hbb => by cases hbb))) (λ _ => ?_) (λ hk => by cases hk))
   exact Q0c (Q0N (EvP.ev Q2a hR))
theorem ok_check_name {f : Addr} {fd : FuncData} (T : Txt K mg CK0 CK1 CK5 CK4 CK2 CK7 CK3 CK6) (Fn : Fun K "check_name" "check_name" Q1l f fd) (hm : mg "check_name" = some (.ref f)) (hb : Q0F K fd ["name"] []) (F_is_name : Q0t P w K mg base 1 "is_name" (Q0x spNameO)) : DefX P w K mg base 2 "check_name" (Q3e CK2) := by
 refine ⟨f,fd,_,okX (k := 1) Fn sc_check_name (λ ds O R RX h => ?_) (λ cdv A outer s H E ds O R RX hr h => ?_),hm,Fn.kp,hb⟩
 ·obtain ⟨_,rfl,_⟩ := h; rfl
 ·obtain ⟨v,rfl,hv,h1,h2⟩ := h
  refine Q0g (Q1i (Q2m (Q2V (Q0p F_is_name (hr.mono (by decide)) (Q0a (Q0b 0) Q0e) ⟨v,rfl,hv,rfl⟩))) (λ hk => ?_) (λ hk => Q1R (Q1R (h1 ?_))))
  ·refine Q0g (Q2Y T.e_NoName T.m_NoName (Q0a Q0k Q0e) (h2 ?_) trivial)
   cases e : nmO v with
   | false => rfl
   | true => rw [e] at hk; cases hk
  ·cases e : nmO v with
   | true => rfl
   | false => rw [e] at hk; cases hk
theorem ok_check_there {f : Addr} {fd : FuncData} (T : Txt K mg CK0 CK1 CK5 CK4 CK2 CK7 CK3 CK6) (Fn : Fun K "check_there" "check_there" Q1f f fd) (hm : mg "check_there" = some (.ref f)) (hb : Q0F K fd ["tops","name"] []) : DefX P w K mg base 1 "check_there" (Q3d CK2) := by
 refine ⟨f,fd,_,okX (k := 0) Fn sc_check_there (λ ds O R RX h => ?_) (λ cdv A outer s H E ds O R RX hr h => ?_),hm,Fn.kp,hb⟩
 ·obtain ⟨_,_,_,_,rfl,_⟩ := h; rfl
 ·obtain ⟨da,ks,xs,x,rfl,hd,hx,h1,h2⟩ := h
  have e0 : Str.empty.length = 0 := by decide +kernel
  have e1 : ((" is not there" : Str)).length = 13 := by decide +kernel
  have hn := sizeLine_eq
  refine Q0g (Q1i (Q0n (Q0b 1) (Q0b 0) (cmp_niK (k := .inr x) hr hd)) (λ hk => ?_) (λ hk => Q1R (Q1R (h1 ?_))))
  ·refine Q0g (Q2Y T.e_NoName T.m_NoName (Q0a (ev_fstr (Q0b 1) (by rw [Str.length_append,Str.length_append,e0,e1]; omega) (by omega) (by rw [Str.length_append,e0]; omega)) Q0e) (h2 ?_) trivial)
   cases e : (atK ks xs (.inr x)).isSome with
   | false => rfl
   | true => rw [e] at hk; cases hk
  ·cases e : (atK ks xs (.inr x)).isSome with
   | true => rfl
   | false => rw [e] at hk; cases hk
theorem Q3A {f : Addr} {fd : FuncData} (T : Txt K mg CK0 CK1 CK5 CK4 CK2 CK7 CK3 CK6) (Fn : Fun K "check_speakers" "check_speakers" Q0I f fd) (hm : mg "check_speakers" = some (.ref f)) (hb : Q0F K fd ["tops","said"] []) (F_check_name : DefX P w K mg base 2 "check_name" (Q3e CK2)) (F_check_there : DefX P w K mg base 1 "check_there" (Q3d CK2)) : DefX P w K mg base 3 "check_speakers" (spSpeakX CK2) := by
 refine ⟨f,fd,_,okX (k := 2) Fn Q1r (λ ds O R RX h => ?_) (λ cdv A outer s H E ds O R RX hr h => ?_),hm,Fn.kp,hb⟩
 ·obtain ⟨_,_,_,_,_,rfl,_⟩ := h; rfl
 ·obtain ⟨da,ps,qs,ws,zs,rfl,hd,hl,hle,hsm,h1,h2⟩ := h
  refine Q0g (xX_for (ei_dctS (Q0b 1)) (λ i ρ O' => O' = O /\ (∀ j,j < i -> ∀ x,qs[j]? = some x -> Q0M x) /\ ∃ v,ρ = [some da,some (.dct (qs.map Sum.inr) zs),v]) ⟨rfl,λ j hj => absurd hj (Nat.not_lt_zero j),_,rfl⟩ ?_ ?_)
  ·rintro i z ρ O' hz ⟨hO,hok,v,rfl⟩
   subst hO
   rw [List.getElem?_map] at hz
   cases hq : qs[i]? with
   | none => rw [hq] at hz; cases hz
   | some x =>
    rw [hq] at hz
    cases hz
    have hx := List.mem_of_getElem? hq
    refine ⟨_,Q0A 2 Q1r.nd,?_⟩
    refine Q0g (Q0s (Q0z F_check_name (hr.mono (by decide)) (Q0a (Q0b 2) Q0e) ⟨.s x,rfl,hsm x hx,λ e => Q1R ⟨rfl,λ j hj y hy => ?_,_,rfl⟩,λ e => h2 λ z => ?_⟩))
    ·rcases Nat.lt_succ_iff_lt_or_eq.mp hj with h | h
     ·exact hok j h y hy
     ·subst h
      rw [hq] at hy
      cases hy
      exact nmS_ok e
    ·have e : nmS x = false := e
     rw [nmS_of (z x hx).1] at e
     cases e
  ·rintro ρ O' ⟨hO,hok,v,rfl⟩
   subst hO
   have hall : ∀ x ∈ qs,Q0M x := λ x hx => by
    obtain ⟨j,hj,e⟩ := List.getElem_of_mem hx
    exact hok j (by rw [List.length_map]; exact hj) x (by rw [List.getElem?_eq_getElem hj,e])
   refine Q0g (xX_for (ei_LF (ev_sortedK (Q0b 1) (Or.inl rfl) (by omega) T.b_sorted) (Or.inl rfl)) (λ i ρ O'' => O'' = O' /\ (∀ j,j < i -> ∀ x,(srt ltS qs)[j]? = some x -> x ∈ ps) /\ ∃ v,ρ = [some da,some (.dct (qs.map Sum.inr) zs),v]) ⟨rfl,λ j hj => absurd hj (Nat.not_lt_zero j),_,rfl⟩ ?_ ?_)
   ·rintro i z ρ O2 hz ⟨hO,hok2,v,rfl⟩
    subst hO
    rw [List.getElem?_map] at hz
    cases hq : (srt ltS qs)[i]? with
    | none => rw [hq] at hz; cases hz
    | some x =>
     rw [hq] at hz
     cases hz
     have hx := (Q1K ltS qs).mem_iff.mp (List.mem_of_getElem? hq)
     refine ⟨_,Q0A 2 Q1r.nd,?_⟩
     refine Q0g (Q0s (Q0z F_check_there (hr.mono (by decide)) (Q0a (Q0b 0) (Q0a (Q0b 2) Q0e)) ⟨da,_,_,x,rfl,hd,hsm x hx,λ e => Q1R ⟨rfl,λ j hj y hy => ?_,_,rfl⟩,λ e => h2 λ z => ?_⟩))
     ·rcases Nat.lt_succ_iff_lt_or_eq.mp hj with h | h
      ·exact hok2 j h y hy
      ·subst h
       rw [hq] at hy
       cases hy
       rw [is_some hl] at e
       exact of_decide_eq_true e
     ·rw [is_some hl,decide_eq_true (z x hx).2] at e
      cases e
   ·rintro ρ O2 ⟨hO,hok2,v,rfl⟩
    subst hO
    refine Q1R (h1 λ x hx => ⟨hall x hx,?_⟩)
    obtain ⟨j,hj,e⟩ := List.getElem_of_mem ((Q1K ltS qs).mem_iff.mpr hx)
    exact hok2 j (by rw [List.length_map]; exact hj) x (by rw [List.getElem?_eq_getElem hj,e])
theorem Q3S {f : Addr} {fd : FuncData} (T : Txt K mg CK0 CK1 CK5 CK4 CK2 CK7 CK3 CK6) (Fn : Fun K "check_numbers" "check_numbers" Q0O f fd) (hm : mg "check_numbers" = some (.ref f)) (hb : Q0F K fd ["scale","numbers"] []) (F_is_on_scale : Q0t P w K mg base 2 "is_on_scale" (Q0x spOnSO)) (J_NoTurn : InitI P w K mg base CK5 1 "NoTurn" "number") : DefX P w K mg base 3 "check_numbers" (Q4c CK5) := by
 refine ⟨f,fd,_,okX (k := 2) Fn Q3P (λ ds O R RX h => ?_) (λ cdv A outer s H E ds O R RX hr h => ?_),hm,Fn.kp,hb⟩
 ·obtain ⟨_,_,rfl,_⟩ := h; rfl
 ·obtain ⟨sc,vs,rfl,hl,h1,h2⟩ := h
  have ea : (vs.map λ v => onO sc v).all id = true ↔ ∀ v ∈ vs,onO sc v = true := by rw [List.all_map,List.all_eq_true]; exact Iff.rfl
  refine Q0g (Q1i (Q2m (Q2V (Q0K T.b_all (Q0a (Q4f (λ v : Ov => .bl (onO sc v)) ["number"] ["scale"] [0] (ei_LF (Q0b 1) (by first | exact Or.inl rfl | exact Or.inr (Or.inl rfl) | exact Or.inr (Or.inr rfl) | assumption)) (by rw [sizeLine_eq]; omega) (by exact λ q hq s H fp => ⟨[some _],rfl,(Q0A 0 (show List.Nodup (["number","scale"] : List Str) by decide +kernel)),⟨_,rfl,(Q0p F_is_on_scale (hr.mono (by decide)) (Q0a (Q0b 1) (Q0a (Q0b 0) Q0e)) ⟨sc,q,rfl,rfl⟩)⟩⟩)) Q0e) (c_all (bs := vs.map λ v => onO sc v) (Or.inl (Or.inl (by rw [List.map_map]; rfl))))))) (λ hk => ?_) (λ hk => Q1R (Q1R (h1 ?_))))
  ·refine Q0g (xX_raiseI J_NoTurn (hr.mono (by decide)) (Q0a Q0d Q0e) (h2 λ z => ?_) trivial)
   rw [ea.mpr z] at hk
   cases hk
  ·refine ea.mp ?_
   cases e : (vs.map λ v => onO sc v).all id with
   | true => rfl
   | false => rw [e] at hk; cases hk
theorem ok_counted {f : Addr} {fd : FuncData} (T : Txt K mg CK0 CK1 CK5 CK4 CK2 CK7 CK3 CK6) (Fn : Fun K "counted" "counted" Q1W f fd) (hm : mg "counted" = some (.ref f)) (hb : Q0F K fd ["weights"] []) : Q0t P w K mg base 1 "counted" (Q0x spCounted) := by
 refine okD (k := 0) Fn sc_counted hm hb (λ ds O R h => ?_) (λ cdv A outer s H E ds O R hr h => ?_)
 ·obtain ⟨_,⟨_,rfl,_⟩,_⟩ := h; rfl
 ·obtain ⟨d,⟨ws,rfl,hl,rfl⟩,hR⟩ := h
  refine Q0c (x_if (Q0n (Q0K T.b_sum (Q0a (Q0b 0) Q0e) (c_sum (by first | exact Or.inr rfl | exact Or.inl (Or.inl rfl) | exact Or.inl (Or.inr (Or.inl rfl)) | exact Or.inl (Or.inr (Or.inr ⟨_,rfl,by first | assumption | rfl⟩))))) Q0d Q0v) (λ hk => ?_) (λ hk => ?_))
  ·have hk := of_decide_eq_true hk
   refine Q0c (Q0N (EvP.ev (Q4f (λ _ => .int 1) ["weight"] [] [] (ei_LF (Q0b 0) (by first | exact Or.inl rfl | exact Or.inr (Or.inl rfl) | exact Or.inr (Or.inr rfl) | assumption)) (by rw [sizeLine_eq]; omega) (by exact λ q hq s H fp => ⟨[some _],rfl,(Q0A 0 (show List.Nodup (["weight"] : List Str) by decide +kernel)),⟨_,rfl,Q0d⟩⟩)) ?_))
   unfold cnt at hR
   rw [if_pos hk,List.map_map] at hR
   exact hR
  ·have hk := of_decide_eq_false hk
   refine Q0m ?_
   refine Q0c (Q0N (EvP.ev (Q3r T.b_list (Q0a (Q0b 0) Q0e) (c_list (by first | exact Or.inr rfl | exact Or.inl (Or.inl rfl) | exact Or.inl (Or.inr (Or.inl rfl)) | exact Or.inl (Or.inr (Or.inr ⟨_,rfl,by first | assumption | rfl⟩))))) ?_))
   unfold cnt at hR
   rw [if_neg hk] at hR
   exact hR
theorem ok_middle {f : Addr} {fd : FuncData} (T : Txt K mg CK0 CK1 CK5 CK4 CK2 CK7 CK3 CK6) (Fn : Fun K "middle" "middle" Q2E f fd) (hm : mg "middle" = some (.ref f)) (hb : Q0F K fd ["numbers","weights"] []) (F_counted : Q0t P w K mg base 1 "counted" (Q0x spCounted)) : Q0t P w K mg base 2 "middle" (Q0x spMiddle) := by
 refine okD (k := 1) Fn Q1F hm hb (λ ds O R h => ?_) (λ cdv A outer s H E ds O R hr h => ?_)
 ·obtain ⟨_,⟨_,_,rfl,_⟩,_⟩ := h; rfl
 ·obtain ⟨d,⟨ns,ws,rfl,⟨h1,h2,h3⟩,rfl⟩,hR⟩ := h
  refine Q0c (Q0H 2 (EvP.ev (Q0p F_counted (hr.mono (by decide)) (Q0a (Q0b 1) Q0e) ⟨_,rfl,by assumption,rfl⟩) ?_) Q1F.nd)
  have hc := cnt_ok h3
  have hcl := cnt_len ws
  unfold mid at hR
  generalize cnt ws = cs at hR hc hcl
  refine Q0c (Q0H 3 (EvP.ev (Q0K T.b_sum (Q0a (Q0b 2) Q0e) (c_sum (by first | exact Or.inr rfl | exact Or.inl (Or.inl rfl) | exact Or.inl (Or.inr (Or.inl rfl)) | exact Or.inl (Or.inr (Or.inr ⟨_,rfl,by first | assumption | rfl⟩))))) ?_) Q1F.nd)
  refine Q0c (Q0H 4 (EvP.ev Q0d ?_) Q1F.nd)
  have hz : (ns.zip cs).length < 64 := by rw [List.length_zip]; omega
  have hsl : (srt ltP (ns.zip cs)).length <= 63 := by rw [(Q1K ltP (ns.zip cs)).length_eq]; omega
  have hsm : ∀ p ∈ srt ltP (ns.zip cs),0 <= p.2 := λ p hp => hc _ (List.of_mem_zip ((Q1K ltP (ns.zip cs)).mem_iff.mp hp)).2
  refine Q0c (x_for (ei_LF (ev_sortedZ ordP (λ Y => cmpP) nolen_zip (ez_zipM (Q0b 0) (Q0b 2) (by first | exact Or.inl rfl | exact Or.inr (Or.inl rfl) | exact Or.inr (Or.inr rfl) | assumption) (by first | exact Or.inl rfl | exact Or.inr (Or.inl rfl) | exact Or.inr (Or.inr rfl) | assumption) T.b_zip) (by omega) T.b_sorted) (by first | exact Or.inl rfl | exact Or.inr (Or.inl rfl) | exact Or.inr (Or.inr rfl) | assumption)) (λ i ρ O' => ∃ (r : Int) (u v : Option D),ρ = [some (.tup (ns.map D.int)),some (.tup (ws.map D.int)),some (.lst (cs.map D.int)),some (.int cs.sum),some (.int r),u,v] /\ r = sm (λ q => q.2) ((srt ltP (ns.zip cs)).take i) /\ go cs.sum 0 (srt ltP (ns.zip cs)) = go cs.sum r ((srt ltP (ns.zip cs)).drop i) /\ O' = O) ⟨0,_,_,rfl,rfl,rfl,rfl⟩ ?_ ?_)
  ·rintro i x ρ O' hx ⟨r,u,v,rfl,hr1,hg,rfl⟩
   rw [List.getElem?_map] at hx
   cases hp : (srt ltP (ns.zip cs))[i]? with
   | none => rw [hp] at hx; cases hx
   | some p =>
    rw [hp] at hx
    cases hx
    refine ⟨_,tg_tup (Q1A (Q0A 5 Q1F.nd) (Q1A (Q0A 6 Q1F.nd) tgs_nil)),?_⟩
    refine Q0c (Q0H 4 (EvP.ev (Q0j (Q0b 4) (Q0b 6) Q1Y) ?_) Q1F.nd)
    have h4 : r + p.2 = sm (λ q => q.2) ((srt ltP (ns.zip cs)).take (i + 1)) := by rw [sm_take hp,hr1]
    have hd : (srt ltP (ns.zip cs)).drop i = p :: (srt ltP (ns.zip cs)).drop (i + 1) := by
     obtain ⟨hi,e⟩ := List.getElem?_eq_some_iff.mp hp
     rw [List.drop_eq_getElem_cons hi,e]
    rw [hd] at hg
    refine Q0c (x_if (Q0n (Q0j Q0d (Q0b 4) (Q3m (CMul.ok (Or.inl ⟨by decide,by decide⟩)))) (Q0b 3) cmp_ge) (λ hk => ?_) (λ hk => ?_))
    ·have hk := of_decide_eq_true hk
     refine Q0c (Q0N (EvP.ev (Q0b 5) ?_))
     rw [hg] at hR
     unfold go at hR
     rw [if_pos hk] at hR
     exact hR
    ·have hk := of_decide_eq_false hk
     refine Q0m (Q0m ?_)
     refine ⟨_,_,_,rfl,h4,?_,rfl⟩
     rw [hg]
     conv => lhs; unfold go
     rw [if_neg hk]
  ·rintro ρ O' ⟨r,u,v,rfl,hr1,hg,rfl⟩
   refine Q0c (Q0N (EvP.ev Q0d ?_))
   rw [List.length_map,List.drop_of_length_le (Nat.le_refl _)] at hg
   rw [hg] at hR
   exact hR
theorem ok_power {f : Addr} {fd : FuncData} (T : Txt K mg CK0 CK1 CK5 CK4 CK2 CK7 CK3 CK6) (Fn : Fun K "power" "power" Q3x f fd) (hm : mg "power" = some (.ref f)) (hb : Q0F K fd ["base","exponent"] []) : Q0t P w K mg base 1 "power" (Q0x spPow) := by
 refine okD (k := 0) Fn Q4d hm hb (λ ds O R h => ?_) (λ cdv A outer s H E ds O R hr h => ?_)
 ·obtain ⟨_,⟨_,_,rfl,_⟩,_⟩ := h; rfl
 ·obtain ⟨d,⟨b,n,rfl,hb,hn,rfl⟩,hR⟩ := h
  refine Q0c (Q0H 2 (EvP.ev Q0d ?_) Q4d.nd)
  refine Q0c (x_for (Q2x (Q0b 1) T.b_range (by first | decide | omega) (by first | decide | omega)) (λ i ρ O' => ∃ u,ρ = [some (.int b),some (.int n),some (.int (b ^ i)),u] /\ O' = O) ⟨none,by rw [Int.pow_zero]; rfl,rfl⟩ ?_ ?_)
  ·rintro i x ρ O' hx ⟨u,rfl,rfl⟩
   refine ⟨_,Q0A 3 Q4d.nd,?_⟩
   refine Q0c (Q0H 2 (EvP.ev (Q0j (Q0b 2) (Q0b 0) (Q3m (by first | assumption | exact CMul.ok (Or.inl ⟨by omega,by omega⟩) | exact CMul.ok (Or.inr ⟨by omega,by omega⟩)))) ?_) Q4d.nd)
   exact Q0m ⟨_,by rw [Int.pow_succ]; rfl,rfl⟩
  ·rintro ρ O' ⟨u,rfl,rfl⟩
   rw [Q1h]
   exact Q0c (Q0N (EvP.ev (Q0b 2) hR))
theorem ok_charge {f : Addr} {fd : FuncData} (T : Txt K mg CK0 CK1 CK5 CK4 CK2 CK7 CK3 CK6) (Fn : Fun K "charge" "charge" Q2J f fd) (hm : mg "charge" = some (.ref f)) (hb : Q0F K fd ["what","so"] []) : Q0t P w K mg base 1 "charge" (Q0x Q4b) := by
 refine okD (k := 0) Fn sc_charge hm hb (λ ds O R h => ?_) (λ cdv A outer s H E ds O R hr h => ?_)
 ·obtain ⟨_,⟨_,_,rfl,_⟩,_⟩ := h; rfl
 ·obtain ⟨d,⟨w,z,rfl,rfl⟩,hR⟩ := h
  cases w with
  | none =>
   refine Q0c (x_if (Q0n (Q0b 0) ev_non cmp_is) (λ hk => ?_) (λ hk => ?_))
   ·exact Q0c (Q0N (EvP.ev Q0d hR))
   ·cases hk
  | some w =>
   refine Q0c (x_if (Q0n (Q0b 0) ev_non cmp_is) (λ hk => ?_) (λ hk => ?_))
   ·cases hk
   ·exact Q0m (Q0c (Q0N (EvP.ev (Q0K T.b_abs (Q0a (Q0j (Q0b 0) (Q0b 1) o_sub) Q0e) c_abs) hR)))
theorem ok_times_awake {f : Addr} {fd : FuncData} (T : Txt K mg CK0 CK1 CK5 CK4 CK2 CK7 CK3 CK6) (Fn : Fun K "times_awake" "times_awake" Q1d f fd) (hm : mg "times_awake" = some (.ref f)) (hb : Q0F K fd ["keeper","own","off"] []) (F_power : Q0t P w K mg base 1 "power" (Q0x spPow)) : Q0t P w K mg base 2 "times_awake" (spTAB CK0) := by
 refine okD (k := 1) Fn Q2P hm hb (λ ds O R h => ?_) (λ cdv A outer s H E ds O R hr h => ?_)
 ·obtain ⟨_,_,_,_,_,_,_,rfl,_⟩ := h; rfl
 ·obtain ⟨q,fs,sc,t,b,own,off,rfl,hq,hf,ho,hof,hR⟩ := h
  have s1 := hf.s1; have s2 := hf.s2; have t0 := hf.t0; have tb := hf.tb; have b2 := hf.b2
  have a1 := pw81 (x := t) (e := off) hf.t0 (by omega) (by omega)
  have a2 := pw81 (x := b) (e := sc - off) (by omega) (by omega) (by omega)
  have a3 := pw81 (x := b) (e := own) (by omega) (by omega) (by omega)
  have c1 := Q3J a1.1 a1.2 a2.1 a2.2
  have c2 := Q3J (c := 2) c1.1 c1.2 (show (0 : Int) <= 2 by decide) (by decide)
  refine Q0c (Q0H 3 (EvP.ev (Q0j (Q0p F_power (hr.mono (by decide)) (Q0a (Q0G (Q0b 0) hq.q T.c_Book.cls T.n_Book_top hq.t) (Q0a (Q0b 2) Q0e)) ⟨_,_,rfl,⟨by omega,by omega⟩,⟨by omega,by omega⟩,rfl⟩) (Q0p F_power (hr.mono (by decide)) (Q0a (Q0G (Q0b 0) hq.q T.c_Book.cls T.n_Book_bottom hq.b) (Q0a (Q0j (Q0G (Q0b 0) hq.q T.c_Book.cls T.n_Book_scale hq.sc) (Q0b 2) o_sub) Q0e)) ⟨_,_,rfl,⟨by omega,by omega⟩,⟨by omega,by omega⟩,rfl⟩) (Q3m (mulP a1.1 a1.2 a2.1 a2.2))) ?_) Q2P.nd)
  exact Q0c (Q0N (EvP.ev (Q0j (Q0j (Q0b 3) Q0d (Q3m (by first | assumption | exact CMul.ok (Or.inl ⟨by omega,by omega⟩) | exact CMul.ok (Or.inr ⟨by omega,by omega⟩)))) (Q0p F_power (hr.mono (by decide)) (Q0a (Q0G (Q0b 0) hq.q T.c_Book.cls T.n_Book_bottom hq.b) (Q0a (Q0b 1) Q0e)) ⟨_,_,rfl,⟨by omega,by omega⟩,⟨by omega,by omega⟩,rfl⟩) (Q3m (mulP c2.1 c2.2 a3.1 a3.2))) hR))
theorem ok_times_asleep {f : Addr} {fd : FuncData} (T : Txt K mg CK0 CK1 CK5 CK4 CK2 CK7 CK3 CK6) (Fn : Fun K "times_asleep" "times_asleep" Q0S f fd) (hm : mg "times_asleep" = some (.ref f)) (hb : Q0F K fd ["keeper","own"] []) (F_power : Q0t P w K mg base 1 "power" (Q0x spPow)) : Q0t P w K mg base 2 "times_asleep" (spTSB CK0) := by
 refine okD (k := 1) Fn sc_times_asleep hm hb (λ ds O R h => ?_) (λ cdv A outer s H E ds O R hr h => ?_)
 ·obtain ⟨_,_,_,_,_,_,rfl,_⟩ := h; rfl
 ·obtain ⟨q,fs,sc,t,b,own,rfl,hq,hf,ho,hR⟩ := h
  have s1 := hf.s1; have s2 := hf.s2; have t0 := hf.t0; have tb := hf.tb; have b2 := hf.b2
  have a1 := pw81 (x := b) (e := sc) (by omega) (by omega) (by omega)
  have a2 := pw81 (x := b) (e := own) (by omega) (by omega) (by omega)
  have a3 := pw81 (x := t) (e := own) hf.t0 (by omega) (by omega)
  have e82 : (2 : Int) ^ 82 = 2 ^ 81 + 2 ^ 81 := by decide
  exact Q0c (Q0N (EvP.ev (Q0j (Q0p F_power (hr.mono (by decide)) (Q0a (Q0G (Q0b 0) hq.q T.c_Book.cls T.n_Book_bottom hq.b) (Q0a (Q0G (Q0b 0) hq.q T.c_Book.cls T.n_Book_scale hq.sc) Q0e)) ⟨_,_,rfl,⟨by omega,by omega⟩,⟨by omega,by omega⟩,rfl⟩) (Q0j (Q0p F_power (hr.mono (by decide)) (Q0a (Q0G (Q0b 0) hq.q T.c_Book.cls T.n_Book_bottom hq.b) (Q0a (Q0b 1) Q0e)) ⟨_,_,rfl,⟨by omega,by omega⟩,⟨by omega,by omega⟩,rfl⟩) (Q0p F_power (hr.mono (by decide)) (Q0a (Q0G (Q0b 0) hq.q T.c_Book.cls T.n_Book_top hq.t) (Q0a (Q0b 1) Q0e)) ⟨_,_,rfl,⟨by omega,by omega⟩,⟨by omega,by omega⟩,rfl⟩) Q1Y) (Q3m (mulP (n := 82) a1.1 a1.2 (by omega) (by rw [e82]; omega)))) hR))
theorem ok_times {f : Addr} {fd : FuncData} (T : Txt K mg CK0 CK1 CK5 CK4 CK2 CK7 CK3 CK6) (Fn : Fun K "times" "times" Q3w f fd) (hm : mg "times" = some (.ref f)) (hb : Q0F K fd ["keeper","own","what","so"] []) (F_charge : Q0t P w K mg base 1 "charge" (Q0x Q4b)) (F_times_asleep : Q0t P w K mg base 2 "times_asleep" (spTSB CK0)) (F_times_awake : Q0t P w K mg base 2 "times_awake" (spTAB CK0)) : Q0t P w K mg base 3 "times" (spTFB CK0) := by
 refine okD (k := 2) Fn sc_times hm hb (λ ds O R h => ?_) (λ cdv A outer s H E ds O R hr h => ?_)
 ·obtain ⟨_,_,_,_,_,_,_,_,rfl,_⟩ := h; rfl
 ·obtain ⟨q,fs,sc,t,b,own,so,w,rfl,hq,hf,ho,hso,hw,hR⟩ := h
  cases w with
  | none =>
   refine Q0c (x_if (Q0n (Q0b 2) ev_non cmp_is) (λ hk => ?_) (λ hk => by cases hk))
   exact Q0c (Q0N (EvP.ev (Ev.evp (Q1Q F_times_asleep (hr.mono (by decide)) (Q0a (Q0b 0) (Q0a (Q0b 1) Q0e)) ⟨q,fs,sc,t,b,own,rfl,hq,hf,ho,rfl,rfl⟩)) hR))
  | some x =>
   have hx := onS_ok (hw.resolve_left (λ h => by cases h))
   refine Q0c (x_if (Q0n (Q0b 2) ev_non cmp_is) (λ hk => by cases hk) (λ hk => Q0m ?_))
   exact Q0c (Q0N (EvP.ev (Ev.evp (Q1Q F_times_awake (hr.mono (by decide)) (Q0a (Q0b 0) (Q0a (Q0b 1) (Q0a (Q0p F_charge (hr.mono (by decide)) (Q0a (Q0b 2) (Q0a (Q0b 3) Q0e)) ⟨some x,so,rfl,rfl⟩) Q0e))) ⟨q,fs,sc,t,b,own,ab (x - so),rfl,hq,hf,ho,ab_ok hx hso,rfl,rfl⟩)) hR))
theorem Q3T {f : Addr} {fd : FuncData} (T : Txt K mg CK0 CK1 CK5 CK4 CK2 CK7 CK3 CK6) (Fn : Fun K "__init__" "Book.__init__" Q0P f fd) (F_check_scale : DefX P w K mg base 3 "check_scale" (spScaleX CK4)) (F_check_fraction : DefX P w K mg base 3 "check_fraction" (Q2R CK4)) : FnOk P w K mg base (CX1 P w) 5 f fd ["self","scale","top","bottom"] (Q2d K (Q3a CK0 CK4)) := by
 refine okX (k := 4) Fn Q3Q (λ ds O R RX h => ?_) (λ cdv A outer s H E ds O R RX hr h => ?_)
 ·obtain ⟨_,_,_,_,rfl,_⟩ := h; rfl
 ·obtain ⟨q,s0,t0,b0,rfl,hq,h1,h2⟩ := h
  refine Q0g (Q0s (Q0z F_check_scale (hr.mono (by decide)) (Q0a (Q0b 1) Q0e) ⟨s0,rfl,λ e => ?_,λ e => h2 (by rw [e]; rfl)⟩))
  refine Q0g (Q0s (Q0z F_check_fraction (hr.mono (by decide)) (Q0a (Q0b 2) (Q0a (Q0b 3) Q0e)) ⟨t0,b0,rfl,λ e' => ?_,λ e' => h2 (by rw [e',Bool.and_false])⟩))
  obtain ⟨sc,rfl,hs⟩ := inO_i e
  obtain ⟨t,b,rfl,rfl,hb⟩ := frO_i e'
  have hR := h1 sc t b rfl rfl rfl ⟨hs.1,hs.2,hb.1,hb.2.1,hb.2.2⟩
  refine Exs.x_ ?_
  show Exs _ [some (.ptr q),some (.int sc),some (.int t),some (.int b)] _ _ _
  refine Q0c (x_fld (Q0b 1) (Q0b 0) hq T.c_Book.cls T.n_Book_scale (by decide) ?_)
  refine Q0c (x_fld (Q0b 2) (Q0b 0) (Q2j hq) T.c_Book.cls T.n_Book_top (by show 1 < 1000; decide) ?_)
  rw [List.set_set]
  refine Q0c (x_fld (Q0b 3) (Q0b 0) (Q2j hq) T.c_Book.cls T.n_Book_bottom (by show 2 < 1000; decide) ?_)
  rw [List.set_set]
  have q3 := Q2j (y := some (.ins CK0 (putD "bottom" (.int b) (putD "top" (.int t) (putD "scale" (.int sc) []))))) hq
  refine Q0c (x_fldE (ev_dctM ⟨(Q0b 0),Q1z q3,?_⟩) T.c_Book.cls T.n_Book_tops (by show 3 < 1000; decide))
  rw [List.length_set,Q2r q3,List.set_set]
  have q4 : ∀ z,(O.set q (some z) ++ [some (MO.dct [] [])])[q]? = some (some z) := λ z => Q1z (Q2j hq)
  refine Q0c (x_fld Q0d (Q0b 0) (q4 _) T.c_Book.cls T.n_Book_under (by show 4 < 1000; decide) ?_)
  rw [Q2r (Q2j hq),List.set_set]
  refine Q0c (x_fld Q0d (Q0b 0) (q4 _) T.c_Book.cls T.n_Book_came (by show 5 < 1000; decide) ?_)
  rw [Q2r (Q2j hq),List.set_set]
  refine Q0m ?_
  rw [Q2r hq] at hR
  exact hR
theorem ok_Book_come {f : Addr} {fd : FuncData} (T : Txt K mg CK0 CK1 CK5 CK4 CK2 CK7 CK3 CK6) (Fn : Fun K "come" "Book.come" Q1v f fd) (F_check_name : DefX P w K mg base 2 "check_name" (Q3e CK2)) : FnOk P w K mg base (CX1 P w) 4 f fd ["self","name"] (Q2d K (Q3c CK0 CK2 CK7)) := by
 refine okX (k := 3) Fn sc_Book_come (λ ds O R RX h => ?_) (λ cdv A outer s H E ds O R RX hr h => ?_)
 ·rcases h with ⟨_,_,_,_,_,_,_,_,_,_,rfl,_⟩ | ⟨_,_,_,_,_,_,_,_,_,_,rfl,_⟩ | ⟨_,_,_,_,_,_,_,_,_,_,rfl,_⟩ <;> rfl
 ·rcases h with ⟨q,n,sc,t,b,u,c,ps,ws,x,rfl,hB,hx,hn,hz,hR⟩ | ⟨q,n,sc,t,b,u,c,ps,ws,v,rfl,hB,hv,hbad,hX⟩ | ⟨q,n,sc,t,b,u,c,ps,ws,x,rfl,hB,hx,hn,hX⟩
  ·refine Q0g (Q0s (Q0z F_check_name (hr.mono (by decide)) (Q0a (Q0b 1) Q0e) ⟨.s x,rfl,(by have := hx.l2; show x.length <= 1000; omega),λ _ => ?_,λ z => absurd ((nmS_of hx).symm.trans z) (by decide)⟩))
   refine Exs.x_ ?_
   refine Q0c (x_if (EvT.cast (k' := false) (Q0n (Q0b 1) (Q0G (Q0b 0) hB.q T.c_Book.cls T.n_Book_tops (Q1x _ _ _ _ _ _)) (cmp_inK (k := .inr x) hr (Or.inr ⟨n,rfl,hB.n⟩))) (by show (atS ps (ws.map D.int) x).isSome = false; rw [atS_not hn]; rfl)) (λ hk => by cases hk) (λ _ => Q0m ?_))
   refine Q0c (x_dput (k := .inr x) hr (Q0G (Q0b 0) hB.q T.c_Book.cls T.n_Book_under (bl_under _ _ _ _ _ _)) (Q0G (Q0b 0) hB.q T.c_Book.cls T.n_Book_tops (Q1x _ _ _ _ _ _)) hB.n (Q0b 1) (by rw [sizeLine_eq,List.length_map]; omega) ?_)
   obtain ⟨p1,p2⟩ := put_newS (ws := ws.map D.int) (w := D.int u) hn
   rw [p1,p2]
   have hne : n ≠ q := by intro e; have h1 := hB.q; have h2 := hB.n; rw [e,h1] at h2; cases h2
   have hq2 : (O.set n (some (MO.dct ((ps ++ [x]).map Sum.inr) (ws.map D.int ++ [D.int u]))))[q]? = some (some (.ins CK0 (Q1w sc t b n u c))) := by rw [List.getElem?_set_ne hne]; exact hB.q
   refine Q0c (x_fld (Q0j (Q0G (Q0b 0) hq2 T.c_Book.cls T.n_Book_came (bl_came _ _ _ _ _ _)) Q0d Q1Y) (Q0b 0) hq2 T.c_Book.cls T.n_Book_came (by show 6 < 1000; decide) ?_)
   rw [bput_came]
   refine Q0m ?_
   have e : (ws ++ [u]).map D.int = ws.map D.int ++ [D.int u] := List.map_append ..
   rw [e] at hR
   exact hR
  ·exact Q0g (Q0s (Q0z F_check_name (hr.mono (by decide)) (Q0a (Q0b 1) Q0e) ⟨v,rfl,hv,λ z => absurd (hbad.symm.trans z) (by decide),λ _ => hX⟩))
  ·refine Q0g (Q0s (Q0z F_check_name (hr.mono (by decide)) (Q0a (Q0b 1) Q0e) ⟨.s x,rfl,(by have := hx.l2; show x.length <= 1000; omega),λ _ => ?_,λ z => absurd ((nmS_of hx).symm.trans z) (by decide)⟩))
   have e0 : Str.empty.length = 0 := by decide +kernel
   have e1 : ((" is there" : Str)).length = 9 := by decide +kernel
   have hl2 := hx.l2
   have hsz := sizeLine_eq
   refine Q0g (Q1i (EvT.cast (k' := true) (Q0n (Q0b 1) (Q0G (Q0b 0) hB.q T.c_Book.cls T.n_Book_tops (Q1x _ _ _ _ _ _)) (cmp_inK (k := .inr x) hr (Or.inr ⟨n,rfl,hB.n⟩))) (at_some hB.l hn)) (λ _ => ?_) (λ hk => by cases hk))
   exact Q0g (Q2Y T.e_Twice T.m_Twice (Q0a (ev_fstr (Q0b 1) (by rw [Str.length_append,Str.length_append,e0,e1]; omega) (by omega) (by rw [Str.length_append,e0]; omega)) Q0e) hX trivial)
theorem ok_Book_go {f : Addr} {fd : FuncData} (T : Txt K mg CK0 CK1 CK5 CK4 CK2 CK7 CK3 CK6) (Fn : Fun K "go" "Book.go" Q1X f fd) (F_check_name : DefX P w K mg base 2 "check_name" (Q3e CK2)) (F_check_there : DefX P w K mg base 1 "check_there" (Q3d CK2)) : FnOk P w K mg base (CX1 P w) 4 f fd ["self","name"] (Q2d K (spGoBX CK0 CK2)) := by
 refine okX (k := 3) Fn sc_Book_go (λ ds O R RX h => ?_) (λ cdv A outer s H E ds O R RX hr h => ?_)
 ·rcases h with ⟨_,_,_,_,_,_,_,_,_,_,rfl,_⟩ | ⟨_,_,_,_,_,_,_,_,_,_,rfl,_⟩ | ⟨_,_,_,_,_,_,_,_,_,_,rfl,_⟩ <;> rfl
 ·rcases h with ⟨q,n,sc,t,b,u,c,ps,ws,x,rfl,hB,hx,hn,hR⟩ | ⟨q,n,sc,t,b,u,c,ps,ws,v,rfl,hB,hv,hbad,hX⟩ | ⟨q,n,sc,t,b,u,c,ps,ws,x,rfl,hB,hx,hn,hX⟩
  ·refine Q0g (Q0s (Q0z F_check_name (hr.mono (by decide)) (Q0a (Q0b 1) Q0e) ⟨.s x,rfl,(by have := hx.l2; show x.length <= 1000; omega),λ _ => ?_,λ z => absurd ((nmS_of hx).symm.trans z) (by decide)⟩))
   refine Q0g (Q0s (Q0z F_check_there (hr.mono (by decide)) (Q0a (Q0G (Q0b 0) hB.q T.c_Book.cls T.n_Book_tops (Q1x _ _ _ _ _ _)) (Q0a (Q0b 1) Q0e)) ⟨_,_,_,x,rfl,Or.inr ⟨n,rfl,hB.n⟩,(by have := hx.l2; omega),λ _ => ?_,λ z => absurd ((at_some hB.l hn).symm.trans z) (by decide)⟩))
   refine Exs.x_ ?_
   obtain ⟨w,hw,_⟩ := Q3G hB.l hn
   exact Q0c (x_dpop (k := .inr x) (Q0G (Q0b 0) hB.q T.c_Book.cls T.n_Book_tops (Q1x _ _ _ _ _ _)) hB.n (Q0b 1) (at_int hw) (Q0m hR))
  ·exact Q0g (Q0s (Q0z F_check_name (hr.mono (by decide)) (Q0a (Q0b 1) Q0e) ⟨v,rfl,hv,λ z => absurd (hbad.symm.trans z) (by decide),λ _ => hX⟩))
  ·refine Q0g (Q0s (Q0z F_check_name (hr.mono (by decide)) (Q0a (Q0b 1) Q0e) ⟨.s x,rfl,(by have := hx.l2; show x.length <= 1000; omega),λ _ => ?_,λ z => absurd ((nmS_of hx).symm.trans z) (by decide)⟩))
   exact Q0g (Q0s (Q0z F_check_there (hr.mono (by decide)) (Q0a (Q0G (Q0b 0) hB.q T.c_Book.cls T.n_Book_tops (Q1x _ _ _ _ _ _)) (Q0a (Q0b 1) Q0e)) ⟨_,_,_,x,rfl,Or.inr ⟨n,rfl,hB.n⟩,(by have := hx.l2; omega),λ z => absurd (show (atK (ps.map Sum.inr) (ws.map D.int) (.inr x)).isSome = false by rw [is_some hB.l,decide_eq_false hn]) (by rw [z]; decide),λ _ => hX⟩))
theorem ok_Book_there {f : Addr} {fd : FuncData} (T : Txt K mg CK0 CK1 CK5 CK4 CK2 CK7 CK3 CK6) (Fn : Fun K "there" "Book.there" Q1m f fd)  : FnOk P w K mg base CX0 1 f fd ["self"] (toSp K (Q3Z CK0)) := by
 refine okF (k := 0) Fn sc_Book_there (λ ds O R h => ?_) (λ cdv A outer s H E ds O R hr h => ?_)
 ·obtain ⟨_,_,_,_,_,_,_,_,_,rfl,_⟩ := h; rfl
 ·obtain ⟨q,n,sc,t,b,u,c,ps,ws,rfl,hB,hl,hR⟩ := h
  exact Q0c (Q0N (EvP.ev (Q3r T.b_tuple (Q0a (ev_sortedK (Q0G (Q0b 0) hB.q T.c_Book.cls T.n_Book_tops (Q1x _ _ _ _ _ _)) (Or.inr ⟨n,rfl,hB.n⟩) hl T.b_sorted) Q0e) (c_tuple (Or.inl (Or.inl rfl)))) hR))
theorem ok_Book_ever {f : Addr} {fd : FuncData} (T : Txt K mg CK0 CK1 CK5 CK4 CK2 CK7 CK3 CK6) (Fn : Fun K "ever" "Book.ever" Q1u f fd)  : FnOk P w K mg base CX0 1 f fd ["self"] (toSp K (spEverB CK0)) := by
 refine okF (k := 0) Fn sc_Book_ever (λ ds O R h => ?_) (λ cdv A outer s H E ds O R hr h => ?_)
 ·obtain ⟨_,_,_,_,_,_,_,_,_,rfl,_⟩ := h; rfl
 ·obtain ⟨q,n,sc,t,b,u,c,ps,ws,rfl,hB,hR⟩ := h
  exact Q0c (Q0N (EvP.ev (Q0G (Q0b 0) hB.q T.c_Book.cls T.n_Book_came (bl_came _ _ _ _ _ _)) hR))
theorem ok_Book_weights {f : Addr} {fd : FuncData} (T : Txt K mg CK0 CK1 CK5 CK4 CK2 CK7 CK3 CK6) (Fn : Fun K "weights" "Book.weights" Q0V f fd)  : FnOk P w K mg base CX0 1 f fd ["self"] (toSp K (Q2B CK0)) := by
 refine okF (k := 0) Fn sc_Book_weights (λ ds O R h => ?_) (λ cdv A outer s H E ds O R hr h => ?_)
 ·obtain ⟨_,_,_,_,_,_,_,_,_,rfl,_⟩ := h; rfl
 ·obtain ⟨q,n,sc,t,b,u,c,ps,ws,rfl,hB,hR⟩ := h
  have hq2 : ∀ Y,(O ++ Y)[q]? = some (some (.ins CK0 (Q1w sc t b n u c))) := λ Y => Q1z hB.q
  exact Q0c (Q0N (ev_tupA (Q1y (ev_dcopy T.b_dict (Q0G (Q0b 0) hB.q T.c_Book.cls T.n_Book_tops (Q1x _ _ _ _ _ _)) (Or.inr ⟨n,rfl,hB.n⟩) (EvPs.as (Q0a (Q0G (Q0b 0) (hq2 _) T.c_Book.cls T.n_Book_under (bl_under _ _ _ _ _ _)) Q0e) ⟨by rw [sizeLine_eq]; show 2 <= 16777216; decide,hR⟩)))))
theorem ok_Book_say {f : Addr} {fd : FuncData} (T : Txt K mg CK0 CK1 CK5 CK4 CK2 CK7 CK3 CK6) (Fn : Fun K "say" "Book.say" Q1E f fd) (F_check_speakers : DefX P w K mg base 3 "check_speakers" (spSpeakX CK2)) (F_check_numbers : DefX P w K mg base 3 "check_numbers" (Q4c CK5)) (F_middle : Q0t P w K mg base 2 "middle" (Q0x spMiddle)) : FnOk P w K mg base (CX1 P w) 5 f fd ["self","said"] (Q2d K (spSayBX CK0 CK2 CK5)) := by
 refine okX (k := 4) Fn sc_Book_say (λ ds O R RX h => ?_) (λ cdv A outer s H E ds O R RX hr h => ?_)
 ·rcases h with ⟨_,_,_,_,_,_,_,_,_,_,_,rfl,_⟩ | ⟨_,_,_,_,_,_,_,_,_,_,_,rfl,_⟩ <;> rfl
 ·rcases h with ⟨jj,n,sc,t,b,u,c,ps,qs,ws,ys,rfl,hB,hw,hs,hR⟩ | ⟨jj,n,sc,t,b,u,c,ps,qs,ws,vs,rfl,hB,hle,hlv,hsm,hbad⟩
  ·have hle := hs.le
   have hl := hs.l
   have hdv : DV O (.ptr n) (ps.map Sum.inr) (ws.map D.int) := Or.inr ⟨n,rfl,hB.n⟩
   refine Q0g (Q0s (Q0z F_check_speakers (hr.mono (by decide)) (Q0a (Q0G (Q0b 0) hB.q T.c_Book.cls T.n_Book_tops (Q1x _ _ _ _ _ _)) (Q0a (Q0b 1) Q0e)) ⟨_,ps,qs,ws,ys.map D.int,rfl,hdv,hB.l,hle,(λ x hx => by have := (hs.nm x hx).l2; omega),λ _ => ?_,λ z => absurd (λ x hx => ⟨hs.nm x hx,hs.sub x hx⟩) z⟩))
   refine Q0g (Q0s (Q0z F_check_numbers (hr.mono (by decide)) (Q0a (Q0G (Q0b 0) hB.q T.c_Book.cls T.n_Book_scale (Q4g _ _ _ _ _ _)) (Q0a (EvP.cast (ev_lstVals (Q0b 1) (Or.inl rfl) T.b_list) (congrArg D.lst (ints_ov ys).symm)) Q0e)) ⟨sc,ys.map Ov.i,rfl,by rw [List.length_map]; omega,λ _ => ?_,λ z => absurd (on_all hs.on) z⟩))
   refine Exs.x_ ?_
   have hA : ∀ x ∈ qs,atK (ps.map Sum.inr) (ws.map D.int) (.inr x) = some (.int (wAt ps ws x)) := λ x hx => by
    obtain ⟨w,h1,_⟩ := Q3G hB.l (hs.sub x hx)
    unfold wAt
    rw [h1]
    exact at_int h1
   have hT := twoB hs hB.l hw
   have eM : (qs.map λ x => D.int (wAt ps ws x)) = (qs.map (wAt ps ws)).map D.int := by rw [List.map_map]; rfl
   refine Q0c (Q0N (EvP.ev (Q0p F_middle (hr.mono (by decide)) (Q0a (ev_tupVals (Q0b 1) (Or.inl rfl) T.b_tuple) (Q0a (EvP.cast (d' := .tup ((qs.map (wAt ps ws)).map D.int)) (Q3r T.b_tuple (Q0a (Q4f (λ x : Str => .int (wAt ps ws x)) ["name"] ["self"] [0] (ei_dctS (Q0b 1)) (by rw [sizeLine_eq]; omega) (by exact λ q hq s H fp => ⟨[some _],rfl,(Q0A 0 (show List.Nodup (["name","self"] : List Str) by decide +kernel)),⟨_,rfl,(ev_dgetK hr (Q0G (Q0b 1) hB.q T.c_Book.cls T.n_Book_tops (Q1x _ _ _ _ _ _)) hdv (Q0b 0) (hA q hq))⟩⟩)) Q0e) (c_tuple (by first | exact Or.inr rfl | exact Or.inl (Or.inl rfl) | exact Or.inl (Or.inr (Or.inl rfl)) | exact Or.inl (Or.inr (Or.inr ⟨_,rfl,by first | assumption | rfl⟩))))) (congrArg D.tup eM)) Q0e)) ⟨ys,_,rfl,hT,rfl⟩) hR))
  ·have hdv : DV O (.ptr n) (ps.map Sum.inr) (ws.map D.int) := Or.inr ⟨n,rfl,hB.n⟩
   rcases hbad with ⟨hb,hX⟩ | ⟨hS,hb,hX⟩
   ·exact Q0g (Q0s (Q0z F_check_speakers (hr.mono (by decide)) (Q0a (Q0G (Q0b 0) hB.q T.c_Book.cls T.n_Book_tops (Q1x _ _ _ _ _ _)) (Q0a (Q0b 1) Q0e)) ⟨_,ps,qs,ws,vs.map ov,rfl,hdv,hB.l,hle,hsm,λ z => absurd z hb,λ _ => hX⟩))
   ·refine Q0g (Q0s (Q0z F_check_speakers (hr.mono (by decide)) (Q0a (Q0G (Q0b 0) hB.q T.c_Book.cls T.n_Book_tops (Q1x _ _ _ _ _ _)) (Q0a (Q0b 1) Q0e)) ⟨_,ps,qs,ws,vs.map ov,rfl,hdv,hB.l,hle,hsm,λ _ => ?_,λ z => absurd hS z⟩))
    exact Q0g (Q0s (Q0z F_check_numbers (hr.mono (by decide)) (Q0a (Q0G (Q0b 0) hB.q T.c_Book.cls T.n_Book_scale (Q4g _ _ _ _ _ _)) (Q0a (ev_lstVals (Q0b 1) (Or.inl rfl) T.b_list) Q0e)) ⟨sc,vs,rfl,by omega,λ z => absurd z hb,λ _ => hX⟩))
theorem Q3l {f : Addr} {fd : FuncData} (T : Txt K mg CK0 CK1 CK5 CK4 CK2 CK7 CK3 CK6) (Fn : Fun K "charge_for" "Book.charge_for" Q0D f fd) (F_charge : Q0t P w K mg base 1 "charge" (Q0x Q4b)) (F_check_numbers : DefX P w K mg base 3 "check_numbers" (Q4c CK5)) (M_Book_say : Q2A P w K mg base CK0 5 "say" (spSayBX CK0 CK2 CK5)) : FnOk P w K mg base (CX1 P w) 7 f fd ["self","said","so"] (Q2d K (Q2D CK0 CK2 CK5)) := by
 refine okX (k := 6) Fn Q0X (λ ds O R RX h => ?_) (λ cdv A outer s H E ds O R RX hr h => ?_)
 ·rcases h with ⟨_,_,_,_,_,_,_,_,_,_,_,_,rfl,_⟩ | ⟨_,_,_,_,_,_,_,_,_,_,_,_,rfl,_⟩ | ⟨_,_,_,_,_,_,_,_,_,_,_,_,rfl,_⟩ <;> rfl
 ·rcases h with ⟨jj,n,sc,t,b,u,c,so,ps,qs,ws,ys,rfl,hB,hw,hs,hso,hR⟩ | ⟨jj,n,sc,t,b,u,c,ps,qs,ws,vs,y,rfl,hB,hbad⟩ | ⟨jj,n,sc,t,b,u,c,ps,qs,ws,ys,y,rfl,hB,hw,hs,hy,hX⟩
  ·refine Q0g (xX_set 3 (Q0E M_Book_say (hr.mono (by decide)) (Q0b 0) hB.q (Q1b _ _ _ _ _ _ (by decide +kernel)) (Q0a (Q0b 1) Q0e) (.inl ⟨jj,n,sc,t,b,u,c,ps,qs,ws,ys,rfl,hB,hw,hs,?_⟩)) Q0X.nd)
   refine Q0g (Q0s (Q0z F_check_numbers (hr.mono (by decide)) (Q0a (Q0G (Q0b 0) hB.q T.c_Book.cls T.n_Book_scale (Q4g _ _ _ _ _ _)) (Q0a (Q0Q (Q0a (Q0b 2) Q0e)) Q0e)) ⟨sc,[.i so],rfl,(by show 1 <= 60; decide),λ _ => ?_,λ z => absurd (on_all (ys := [so]) λ y hy => by cases List.mem_singleton.mp hy; exact hso) z⟩))
   exact Exs.x_ (Q0c (Q0N (EvP.ev (Q0p F_charge (hr.mono (by decide)) (Q0a (Q0b 3) (Q0a (Q0b 2) Q0e)) ⟨some (midB ps ws qs ys),so,rfl,rfl⟩) hR)))
  ·exact Q0g (xX_set 3 (Q0E M_Book_say (hr.mono (by decide)) (Q0b 0) hB.q (Q1b _ _ _ _ _ _ (by decide +kernel)) (Q0a (Q0b 1) Q0e) (.inr ⟨jj,n,sc,t,b,u,c,ps,qs,ws,vs,rfl,hB,hbad⟩)) Q0X.nd)
  ·refine Q0g (xX_set 3 (Q0E M_Book_say (hr.mono (by decide)) (Q0b 0) hB.q (Q1b _ _ _ _ _ _ (by decide +kernel)) (Q0a (Q0b 1) Q0e) (.inl ⟨jj,n,sc,t,b,u,c,ps,qs,ws,ys,rfl,hB,hw,hs,?_⟩)) Q0X.nd)
   exact Q0g (Q0s (Q0z F_check_numbers (hr.mono (by decide)) (Q0a (Q0G (Q0b 0) hB.q T.c_Book.cls T.n_Book_scale (Q4g _ _ _ _ _ _)) (Q0a (Q0Q (Q0a (Q0b 2) Q0e)) Q0e)) ⟨sc,[y],rfl,(by show 1 <= 60; decide),λ z => absurd (hy.symm.trans (z y (List.mem_singleton.mpr rfl))) (by decide),λ _ => hX⟩))
theorem ok_Book_hear {f : Addr} {fd : FuncData} (T : Txt K mg CK0 CK1 CK5 CK4 CK2 CK7 CK3 CK6) (Fn : Fun K "hear" "Book.hear" Q1t f fd) (F_times : Q0t P w K mg base 3 "times" (spTFB CK0)) (M_Book_charge_for : Q2A P w K mg base CK0 7 "charge_for" (Q2D CK0 CK2 CK5)) : FnOk P w K mg base (CX1 P w) 9 f fd ["self","said","so"] (Q2d K (Q3b CK0 CK2 CK5)) := by
 refine okX (k := 8) Fn Q1a (λ ds O R RX h => ?_) (λ cdv A outer s H E ds O R RX hr h => ?_)
 ·rcases h with ⟨_,_,_,_,_,_,_,_,_,_,_,_,_,rfl,_⟩ | ⟨_,_,_,_,_,_,_,_,_,_,_,_,rfl,_⟩ | ⟨_,_,_,_,_,_,_,_,_,_,_,_,rfl,_⟩ <;> rfl
 ·rcases h with ⟨jj,n,k,sc,t,b,u,c,so,ps,qs,ws,ys,rfl,hB,hf,hk,hwo,hs,hso,h60,hR⟩ | h
  ·have s1 := hf.s1
   have h0 : Wok ws := λ w hw => (hwo.w w hw).1
   have hd := ab_ok (mid_on (ws := ws) hs (by omega) hB.l h0) hso
   refine Q0g (xX_set 3 (Q0E M_Book_charge_for (hr.mono (by decide)) (Q0b 0) hB.q (Q1b _ _ _ _ _ _ (by decide +kernel)) (Q0a (Q0b 1) (Q0a (Q0b 2) Q0e)) (.inl ⟨jj,n,sc,t,b,u,c,so,ps,qs,ws,ys,rfl,hB,h0,hs,hso,?_⟩)) Q1a.nd)
   refine Exs.x_ ?_
   generalize ab (midB ps ws qs ys - so) = own at hd hR
   have hne : n ≠ jj := by intro e; have h1 := hB.q; have h2 := hB.n; rw [e,h1] at h2; cases h2
   have hlp := hB.l
   refine Q0c (Q0H 4 (ev_dctM ?_) Q1a.nd)
   refine xs_frzF (Q1z hB.q) (Q1x _ _ _ _ _ _) (Q1z hB.n) ?_
   have hj1 : (O.set n none)[jj]? = some (some (.ins CK0 (Q1w sc t b n u c))) := by rw [List.getElem?_set_ne hne]; exact hB.q
   have eF : putD "tops" (.dct (ps.map Sum.inr) (ws.map D.int)) (Q1w sc t b n u c) = Q1J sc t b (.dct (ps.map Sum.inr) (ws.map D.int)) u c := dput_tops sc t b (.ptr n) u c _
   rw [Q2r hB.n,Q2r hj1,eF]
   have hj2 := Q2j (y := some (.ins CK0 (Q1J sc t b (.dct (ps.map Sum.inr) (ws.map D.int)) u c))) hj1
   have hln : O.length = ((O.set n none).set jj (some (.ins CK0 (Q1J sc t b (.dct (ps.map Sum.inr) (ws.map D.int)) u c)))).length := by rw [List.length_set,List.length_set]
   have hst : ∀ d,(O.set n none).set jj (some (.ins CK0 d)) = ((O.set n none).set jj (some (.ins CK0 (Q1J sc t b (.dct (ps.map Sum.inr) (ws.map D.int)) u c)))).set jj (some (.ins CK0 d)) := λ d => by rw [List.set_set]
   rw [hst,hln] at hR
   rw [hln]
   generalize (O.set n none).set jj (some (.ins CK0 (Q1J sc t b (.dct (ps.map Sum.inr) (ws.map D.int)) u c))) = Ob at hj2 hR
   clear hln hst hj1
   have hkp : ∀ Y,KpAt CK0 (Ob ++ Y) jj (Q1J sc t b (.dct (ps.map Sum.inr) (ws.map D.int)) u c) sc t b := λ Y => ⟨Q1z hj2,bd_scale _ _ _ _ _ _,bd_top _ _ _ _ _ _,bd_bottom _ _ _ _ _ _⟩
   have hnl : (Q2O t b sc own so ps ws qs ys).length = ps.length := by unfold Q2O; rw [List.length_map,List.length_zip]; omega
   refine Q0c (x_for (hp := PassesOwn.leaving) (ei_items (Q0G (Q0b 0) (Q1z hj2) T.c_Book.cls T.n_Book_tops (bd_tops _ _ _ _ _ _))) (λ i ρ O' => ∃ v5 v6 : Option D,ρ = [some (.ptr jj),some (.dct (qs.map Sum.inr) (ys.map D.int)),some (.int so),some (.int own),some (.ptr Ob.length),v5,v6] /\ O' = Ob ++ [some (.dct ((ps.take i).map Sum.inr) (((Q2O t b sc own so ps ws qs ys).take i).map D.int))]) ⟨_,_,rfl,rfl⟩ ?_ ?_)
   ·rintro i z ρ O' hz ⟨v5,v6,rfl,rfl⟩
    have hi : i < ps.length := by
     have := (List.getElem?_eq_some_iff.mp hz).1
     rw [List.length_map,List.length_zip,List.length_map,List.length_map] at this
     omega
    have hzz : z = .tup [.str ps[i],.int (ws[i]'(by omega))] := by
     rw [List.getElem?_map,List.getElem?_eq_getElem (by rw [List.length_zip,List.length_map,List.length_map]; omega),List.getElem_zip,List.getElem_map,List.getElem_map] at hz
     exact (Option.some.inj hz).symm
    subst hzz
    have hwi := hwo.w ws[i] (List.getElem_mem _)
    have hnx : (Q2O t b sc own so ps ws qs ys)[i]? = some (ws[i] * tF t b sc own so (atS qs ys ps[i])) := by
     unfold Q2O
     rw [List.getElem?_map,List.getElem?_eq_getElem (by rw [List.length_zip]; omega),List.getElem_zip]
     rfl
    have hnot : ps[i] ∉ ps.take i := λ hm => by
     obtain ⟨j,hj,e⟩ := List.mem_iff_getElem.mp hm
     rw [List.getElem_take] at e
     rw [List.length_take] at hj
     have := (List.getElem?_inj (show j < ps.length by omega) hB.nd).mp (show ps[j]? = ps[i]? by rw [List.getElem?_eq_getElem (by omega),List.getElem?_eq_getElem hi,e])
     omega
    have htk : ps.take (i + 1) = ps.take i ++ [ps[i]] := by rw [List.take_succ,List.getElem?_eq_getElem hi]; rfl
    have htn : (Q2O t b sc own so ps ws qs ys).take (i + 1) = (Q2O t b sc own so ps ws qs ys).take i ++ [ws[i] * tF t b sc own so (atS qs ys ps[i])] := by rw [List.take_succ,hnx]; rfl
    have hon := at_on hs ps[i]
    have htf := tF_ok (own := own) hf hd.2 hso hon
    refine ⟨_,tg_tup (Q1A (Q0A 5 Q1a.nd) (Q1A (Q0A 6 Q1a.nd) tgs_nil)),?_⟩
    generalize ps[i] = x at hnot htk htn hon htf
    generalize ws[i]'(by omega) = w at hwi htn
    refine Q0c (x_dput (k := .inr x) hr (Q0j (Q0b 6) (Ev.evp (Q1Q F_times (hr.mono (by decide)) (Q0a (Q0b 0) (Q0a (Q0b 3) (Q0a (EvP.cast (ev_dget1K (k := .inr x) hr (Q0b 1) (Or.inl rfl) (Q0b 5)) (od_at qs ys x)) (Q0a (Q0b 2) Q0e)))) ⟨jj,_,sc,t,b,own,so,atS qs ys x,rfl,hkp _,hf,hd,hso,hon,rfl,rfl⟩)) (Q3m (mulP hwi.1 hwi.2 htf.1 htf.2 (by omega)))) (Q0b 4) st0 (Q0b 5) (by rw [sizeLine_eq,List.length_map,List.length_take]; omega) ?_)
    obtain ⟨p1,p2⟩ := put_newS (ws := ((Q2O t b sc own so ps ws qs ys).take i).map D.int) (w := D.int (w * tF t b sc own so (atS qs ys x))) hnot
    rw [p1,p2,ss0]
    refine Q0m ⟨_,_,rfl,?_⟩
    rw [htk,htn,List.map_append (l₁ := (Q2O t b sc own so ps ws qs ys).take i)]
    rfl
   ·rintro ρ O' ⟨v5,v6,rfl,rfl⟩
    rw [List.length_map,List.length_zip,List.length_map,List.length_map,show min ps.length ws.length = ps.length by omega,List.take_length,show ps.length = (Q2O t b sc own so ps ws qs ys).length from hnl.symm,List.take_length]
    refine Q0c (x_fld (Q0b 4) (Q0b 0) (Q1z hj2) T.c_Book.cls T.n_Book_tops (by show 6 < 1000; decide) ?_)
    rw [dput_tops,Q2r hj2]
    have hj3 := Q2j (y := some (.ins CK0 (Q1J sc t b (.ptr Ob.length) u c))) hj2
    have hts := tS_ok (own := own) hf hd.2
    refine Q0c (x_fld (Q0j (Q0G (Q0b 0) (Q1z hj3) T.c_Book.cls T.n_Book_under (bd_under _ _ _ _ _ _)) (Ev.evp (Q1Q F_times (hr.mono (by decide)) (Q0a (Q0b 0) (Q0a (Q0b 3) (Q0a ev_non (Q0a (Q0b 2) Q0e)))) ⟨jj,_,sc,t,b,own,so,none,rfl,⟨Q1z hj3,bd_scale _ _ _ _ _ _,bd_top _ _ _ _ _ _,bd_bottom _ _ _ _ _ _⟩,hf,hd,hso,.inl rfl,rfl,rfl⟩)) (Q3m (mulP hwo.u0 hwo.u1 hts.1 hts.2 (by omega)))) (Q0b 0) (Q1z hj3) T.c_Book.cls T.n_Book_under (by show 6 < 1000; decide) ?_)
    rw [dput_under,Q2r hj3,List.set_set]
    exact Q0m hR
  ·have h' := h
   rcases h with ⟨jj,n,sc,t,b,u,c,ps,qs,ws,vs,y,rfl,hB,hbad⟩ | ⟨jj,n,sc,t,b,u,c,ps,qs,ws,ys,y,rfl,hB,hw,hs,hy,hX⟩
   ·exact Q0g (xX_set 3 (Q0E M_Book_charge_for (hr.mono (by decide)) (Q0b 0) hB.q (Q1b _ _ _ _ _ _ (by decide +kernel)) (Q0a (Q0b 1) (Q0a (Q0b 2) Q0e)) (.inr h')) Q1a.nd)
   ·exact Q0g (xX_set 3 (Q0E M_Book_charge_for (hr.mono (by decide)) (Q0b 0) hB.q (Q1b _ _ _ _ _ _ (by decide +kernel)) (Q0a (Q0b 1) (Q0a (Q0b 2) Q0e)) (.inr h')) Q1a.nd)
theorem ok_l_cell_at {f : Addr} {fd : FuncData} (T : Txt K mg CK0 CK1 CK5 CK4 CK2 CK7 CK3 CK6) (Fn : Fun K "_law_cell_at" "_law_cell_at" Q1s f fd) (hm : mg "_law_cell_at" = some (.ref f)) (hb : Q0F K fd ["_law_script","_law_k"] []) : Q0t P w K mg base 1 "_law_cell_at" (Q0x spCell) := by
 refine okD (k := 0) Fn sc_l_cell_at hm hb (λ ds O R h => ?_) (λ cdv A outer s H E ds O R hr h => ?_)
 ·obtain ⟨_,⟨_,_,rfl,_⟩,_⟩ := h; rfl
 ·obtain ⟨d,⟨ns,k,rfl,hk0,rfl⟩,hR⟩ := h
  refine Q0c (x_if (Q0n (Q0b 1) (Q0K T.b_len (Q0a (Q0b 0) Q0e) (c_len (by first | exact Or.inr rfl | exact Or.inl (Or.inl rfl) | exact Or.inl (Or.inr (Or.inl rfl)) | exact Or.inl (Or.inr (Or.inr ⟨_,rfl,by first | assumption | rfl⟩))))) cmp_lt) (λ hk => ?_) (λ hk => ?_))
  ·have hk := of_decide_eq_true hk
   rw [List.length_map] at hk
   have hi : k.toNat < ns.length := by omega
   have hz : atI (ns.map D.int) k = some (.int ns[k.toNat]) := atI_map hk0 (List.getElem?_eq_getElem hi)
   refine Q0c (Q0N (EvP.ev (Q0w (Q0b 0) (by first | exact Or.inl rfl | exact Or.inr (Or.inl rfl) | exact Or.inr (Or.inr ⟨_,rfl,by first | assumption | rfl⟩)) (Q0b 1) hz) ?_))
   unfold cellAt at hR
   rw [List.getElem?_eq_getElem hi] at hR
   exact hR
  ·have hk := of_decide_eq_false hk
   rw [List.length_map] at hk
   refine Q0m ?_
   refine Q0c (Q0N (EvP.ev Q0d ?_))
   unfold cellAt at hR
   rw [List.getElem?_eq_none (by omega)] at hR
   exact hR
theorem ok_l_bad_name {f : Addr} {fd : FuncData} (T : Txt K mg CK0 CK1 CK5 CK4 CK2 CK7 CK3 CK6) (Fn : Fun K "_law_bad_name" "_law_bad_name" Q1k f fd) (hm : mg "_law_bad_name" = some (.ref f)) (hb : Q0F K fd ["_law_cell"] []) : Q0t P w K mg base 1 "_law_bad_name" (Q0x spBadName) := by
 refine okD (k := 0) Fn sc_l_bad_name hm hb (λ ds O R h => ?_) (λ cdv A outer s H E ds O R hr h => ?_)
 ·obtain ⟨_,⟨_,rfl,_⟩,_⟩ := h; rfl
 ·obtain ⟨d,⟨c,rfl,rfl⟩,hR⟩ := h
  exact Q0c (Q0N (EvP.ev (Q0w (Q0Q (Q0a Q0k (Q0a Q0k (Q0a Q0k (Q0a Q0k (Q0a Q0k (Q0a Q0k (Q0a ev_non (Q0a Q0d (Q0a Q0k (Q0a (Q1Z (Q0a Q0k Q0e)) (Q0a (Q0Q (Q0a Q0k Q0e)) Q0e)))))))))))) (by first | exact Or.inl rfl | exact Or.inr (Or.inl rfl) | exact Or.inr (Or.inr ⟨_,rfl,by first | assumption | rfl⟩)) (Q0j (Q0b 0) Q0d (Q1p (by first | decide | omega))) (badN_at c)) hR))
theorem ok_l_bad_number {f : Addr} {fd : FuncData} (T : Txt K mg CK0 CK1 CK5 CK4 CK2 CK7 CK3 CK6) (Fn : Fun K "_law_bad_number" "_law_bad_number" Q0T f fd) (hm : mg "_law_bad_number" = some (.ref f)) (hb : Q0F K fd ["_law_cell","_law_scale"] []) : Q0t P w K mg base 1 "_law_bad_number" (Q0x spBadNum) := by
 refine okD (k := 0) Fn sc_l_bad_number hm hb (λ ds O R h => ?_) (λ cdv A outer s H E ds O R hr h => ?_)
 ·obtain ⟨_,⟨_,_,rfl,_⟩,_⟩ := h; rfl
 ·obtain ⟨d,⟨c,s,rfl,rfl⟩,hR⟩ := h
  exact Q0c (Q0N (EvP.ev (Q0w (Q0Q (Q0a (Q0j (Q0b 1) Q0d Q1Y) (Q0a (ev_neg Q0d) (Q0a Q2a (Q0a ev_non (Q0a Q0k (Q0a (Q1Z (Q0a Q0d Q0e)) (Q0a (Q0j (Q0b 1) (Q0j Q0d Q0d (o_pow ⟨(by first | decide | omega),(by first | decide | omega),by decide⟩)) Q1Y) (Q0a Q2a Q0e))))))))) (by first | exact Or.inl rfl | exact Or.inr (Or.inl rfl) | exact Or.inr (Or.inr ⟨_,rfl,by first | assumption | rfl⟩)) (Q0j (Q0b 0) Q0d (Q1p (by first | decide | omega))) (badM_at s c)) hR))
theorem ok_l_deed {f : Addr} {fd : FuncData} (T : Txt K mg CK0 CK1 CK5 CK4 CK2 CK7 CK3 CK6) (Fn : Fun K "_law_deed" "_law_deed" Q2I f fd) (hm : mg "_law_deed" = some (.ref f)) (hb : Q0F K fd ["_law_book","_law_way","_law_names_here","_law_cell","_law_scale"] []) (F_l_bad_name : Q0t P w K mg base 1 "_law_bad_name" (Q0x spBadName)) (F_l_bad_number : Q0t P w K mg base 1 "_law_bad_number" (Q0x spBadNum)) (M_Book_come : Q2A P w K mg base CK0 4 "come" (Q3c CK0 CK2 CK7)) (M_Book_go : Q2A P w K mg base CK0 4 "go" (spGoBX CK0 CK2)) (M_Book_say : Q2A P w K mg base CK0 5 "say" (spSayBX CK0 CK2 CK5)) (M_Book_hear : Q2A P w K mg base CK0 9 "hear" (Q3b CK0 CK2 CK5)) (K_Book : MakeX P w K mg base CK0 5 "Book" (Q3a CK0 CK4)) : DefX P w K mg base 12 "_law_deed" (spDeedX CK0 CK2 CK7 CK5 CK4) := by
 refine ⟨f,fd,_,okX (k := 11) Fn Q3f (λ ds O R RX h => ?_) (λ cdv A outer s H E ds O R RX hr h => ?_),hm,Fn.kp,hb⟩
 ·obtain ⟨_,_,_,_,_,_,_,_,_,_,_,_,_,_,rfl,_⟩ := h; rfl
 ·obtain ⟨q,n,w,sc,t,b,u,c,cc,ps,nm,ws,x0,x1,rfl,hw14,hB,hw,hsc,g0,g1,hx0,hx1,hne,hin,hnot,hX⟩ := h
  have h0 : atI (nm.map D.str) 0 = some (.str x0) := Q2z (j := 0) (by rw [List.getElem?_map,g0]; rfl)
  have h1 : atI (nm.map D.str) 1 = some (.str x1) := Q2z (j := 1) (by rw [List.getElem?_map,g1]; rfl)
  refine Q0g (Ex.x_ (Q0H 5 (EvP.ev (Q0j (Q0j (Q0b 3) Q0d (Q3U ⟨(by first | decide | omega),(by first | decide | omega)⟩)) (Q0j (Q0b 4) Q0d Q1Y) (Q1p (by omega))) ?_) Q3f.nd))
  have hnum : 0 <= cc / 80 % (sc + 1) /\ cc / 80 % (sc + 1) <= sc := ⟨Int.emod_nonneg _ (by omega),by have := Int.emod_lt_of_pos (cc / 80) (show 0 < sc + 1 by omega); omega⟩
  generalize cc / 80 % (sc + 1) = num at hnum
  have hcs : w = 0 \/ w = 1 \/ w = 2 \/ w = 3 \/ w = 4 \/ w = 5 \/ w = 6 \/ w = 7 \/ w = 8 \/ w = 9 \/ w = 10 \/ w = 11 \/ w = 12 \/ w = 13 := by omega
  rcases hcs with rfl | rfl | rfl | rfl | rfl | rfl | rfl | rfl | rfl | rfl | rfl | rfl | rfl | rfl
  ·have hX0 := hX []
   rw [List.append_nil] at hX0
   refine Q0g (Q1i (EvT.cast (k' := true) (Q0n (Q0b 1) Q0d Q0v) (by decide)) (λ _ => ?_) (λ hk => by cases hk))
   exact Q0g (Q0s (Q0E M_Book_come (hr.mono (by decide)) (Q0b 0) hB.q (Q1b _ _ _ _ _ _ (by decide +kernel)) (Q0a (Q0p F_l_bad_name (hr.mono (by decide)) (Q0a (Q0b 3) Q0e) ⟨_,rfl,rfl⟩) Q0e) (.inr (.inl ⟨q,n,sc,t,b,u,c,ps,ws,badN (cc % 11),rfl,hB,(badN_no cc).2,(badN_no cc).1,hX0⟩))))
  ·have hX0 := hX []
   rw [List.append_nil] at hX0
   iterate 1 (refine Q0g (Q1i (EvT.cast (k' := false) (Q0n (Q0b 1) Q0d Q0v) (by decide)) (λ hk => by cases hk) (λ _ => ?_)))
   refine Q0g (Q1i (EvT.cast (k' := true) (Q0n (Q0b 1) Q0d Q0v) (by decide)) (λ _ => ?_) (λ hk => by cases hk))
   exact Q0g (Q0s (Q0E M_Book_go (hr.mono (by decide)) (Q0b 0) hB.q (Q1b _ _ _ _ _ _ (by decide +kernel)) (Q0a (Q0p F_l_bad_name (hr.mono (by decide)) (Q0a (Q0b 3) Q0e) ⟨_,rfl,rfl⟩) Q0e) (.inr (.inl ⟨q,n,sc,t,b,u,c,ps,ws,badN (cc % 11),rfl,hB,(badN_no cc).2,(badN_no cc).1,hX0⟩))))
  ·have hX0 := hX []
   rw [List.append_nil] at hX0
   iterate 2 (refine Q0g (Q1i (EvT.cast (k' := false) (Q0n (Q0b 1) Q0d Q0v) (by decide)) (λ hk => by cases hk) (λ _ => ?_)))
   refine Q0g (Q1i (EvT.cast (k' := true) (Q0n (Q0b 1) Q0d Q0v) (by decide)) (λ _ => ?_) (λ hk => by cases hk))
   exact Q0g (Q0s (Q0E M_Book_say (hr.mono (by decide)) (Q0b 0) hB.q (Q1b _ _ _ _ _ _ (by decide +kernel)) (Q0a (ev_fz (ks := [.inr (bad5 (cc % 5))]) (xs := [.int num]) rfl (Q2N (k := .inr (bad5 (cc % 5))) (Q0w (Q0Q (Q0a Q0k (Q0a Q0k (Q0a Q0k (Q0a Q0k (Q0a Q0k Q0e)))))) (by first | exact Or.inl rfl | exact Or.inr (Or.inl rfl) | exact Or.inr (Or.inr ⟨_,rfl,by first | assumption | rfl⟩)) (Q0j (Q0b 3) Q0d (Q1p (by first | decide | omega))) (bad5_at cc)) (Q0b 5) ⟨rfl,rfl⟩)) Q0e) (.inr ⟨q,n,sc,t,b,u,c,ps,[(bad5 (cc % 5))],ws,[.i num],rfl,hB,(by show 1 <= 60; decide),rfl,(λ y hy => by rw [List.mem_singleton.mp hy]; exact (bad5_no cc).2),.inl ⟨bad5_spk cc [],hX0⟩⟩)))
  ·have hX0 := hX []
   rw [List.append_nil] at hX0
   iterate 3 (refine Q0g (Q1i (EvT.cast (k' := false) (Q0n (Q0b 1) Q0d Q0v) (by decide)) (λ hk => by cases hk) (λ _ => ?_)))
   refine Q0g (Q1i (EvT.cast (k' := true) (Q0n (Q0b 1) Q0d Q0v) (by decide)) (λ _ => ?_) (λ hk => by cases hk))
   exact Q0g (Q0s (Q0E M_Book_hear (hr.mono (by decide)) (Q0b 0) hB.q (Q1b _ _ _ _ _ _ (by decide +kernel)) (Q0a (ev_fz (ks := [.inr (bad5 (cc % 5))]) (xs := [.int num]) rfl (Q2N (k := .inr (bad5 (cc % 5))) (Q0w (Q0Q (Q0a Q0k (Q0a Q0k (Q0a Q0k (Q0a Q0k (Q0a Q0k Q0e)))))) (by first | exact Or.inl rfl | exact Or.inr (Or.inl rfl) | exact Or.inr (Or.inr ⟨_,rfl,by first | assumption | rfl⟩)) (Q0j (Q0b 3) Q0d (Q1p (by first | decide | omega))) (bad5_at cc)) (Q0b 5) ⟨rfl,rfl⟩)) (Q0a (Q0b 5) Q0e)) (.inr (.inl ⟨q,n,sc,t,b,u,c,ps,[(bad5 (cc % 5))],ws,[.i num],.i num,rfl,hB,(by show 1 <= 60; decide),rfl,(λ y hy => by rw [List.mem_singleton.mp hy]; exact (bad5_no cc).2),.inl ⟨bad5_spk cc [],hX0⟩⟩))))
  ·have hX0 := hX []
   rw [List.append_nil] at hX0
   iterate 4 (refine Q0g (Q1i (EvT.cast (k' := false) (Q0n (Q0b 1) Q0d Q0v) (by decide)) (λ hk => by cases hk) (λ _ => ?_)))
   refine Q0g (Q1i (EvT.cast (k' := true) (Q0n (Q0b 1) Q0d Q0v) (by decide)) (λ _ => ?_) (λ hk => by cases hk))
   exact Q0g (Q0s (Q0E M_Book_come (hr.mono (by decide)) (Q0b 0) hB.q (Q1b _ _ _ _ _ _ (by decide +kernel)) (Q0a (Q0w (Q0b 2) (by first | exact Or.inl rfl | exact Or.inr (Or.inl rfl) | exact Or.inr (Or.inr ⟨_,rfl,by first | assumption | rfl⟩)) Q0d h0) Q0e) (.inr (.inr ⟨q,n,sc,t,b,u,c,ps,ws,x0,rfl,hB,hx0,hin,hX0⟩))))
  ·have hX0 := hX []
   rw [List.append_nil] at hX0
   iterate 5 (refine Q0g (Q1i (EvT.cast (k' := false) (Q0n (Q0b 1) Q0d Q0v) (by decide)) (λ hk => by cases hk) (λ _ => ?_)))
   refine Q0g (Q1i (EvT.cast (k' := true) (Q0n (Q0b 1) Q0d Q0v) (by decide)) (λ _ => ?_) (λ hk => by cases hk))
   exact Q0g (Q0s (Q0E M_Book_go (hr.mono (by decide)) (Q0b 0) hB.q (Q1b _ _ _ _ _ _ (by decide +kernel)) (Q0a (Q0w (Q0b 2) (by first | exact Or.inl rfl | exact Or.inr (Or.inl rfl) | exact Or.inr (Or.inr ⟨_,rfl,by first | assumption | rfl⟩)) Q0d h1) Q0e) (.inr (.inr ⟨q,n,sc,t,b,u,c,ps,ws,x1,rfl,hB,hx1,hnot,hX0⟩))))
  ·have hX0 := hX []
   rw [List.append_nil] at hX0
   iterate 6 (refine Q0g (Q1i (EvT.cast (k' := false) (Q0n (Q0b 1) Q0d Q0v) (by decide)) (λ hk => by cases hk) (λ _ => ?_)))
   refine Q0g (Q1i (EvT.cast (k' := true) (Q0n (Q0b 1) Q0d Q0v) (by decide)) (λ _ => ?_) (λ hk => by cases hk))
   exact Q0g (Q0s (Q0E M_Book_say (hr.mono (by decide)) (Q0b 0) hB.q (Q1b _ _ _ _ _ _ (by decide +kernel)) (Q0a (ev_fz (ks := [.inr x1,.inr x0]) (xs := [.int num,ov (badM sc (cc % 8))]) (by show (npD (ov (badM sc (cc % 8))) && true) = true; rw [badM_np]; rfl) (ev_disp2 (k := .inr x1) (k2 := .inr x0) (λ z => hne (Sum.inr.inj z).symm) (Q0w (Q0b 2) (by first | exact Or.inl rfl | exact Or.inr (Or.inl rfl) | exact Or.inr (Or.inr ⟨_,rfl,by first | assumption | rfl⟩)) Q0d h1) (Q0b 5) (Q0w (Q0b 2) (by first | exact Or.inl rfl | exact Or.inr (Or.inl rfl) | exact Or.inr (Or.inr ⟨_,rfl,by first | assumption | rfl⟩)) Q0d h0) (Q0p F_l_bad_number (hr.mono (by decide)) (Q0a (Q0b 3) (Q0a (Q0b 4) Q0e)) ⟨_,_,rfl,rfl⟩) ⟨rfl,rfl⟩)) Q0e) (.inr ⟨q,n,sc,t,b,u,c,ps,[x1,x0],ws,[.i num,(badM sc (cc % 8))],rfl,hB,(by show 2 <= 60; decide),rfl,(len_sm (λ y hy => by rcases List.mem_cons.mp hy with rfl | hy; exact hx1; rw [List.mem_singleton.mp hy]; exact hx0)),.inl ⟨(λ z => hnot (z x1 (by simp)).2),hX0⟩⟩)))
  ·have hX0 := hX []
   rw [List.append_nil] at hX0
   iterate 7 (refine Q0g (Q1i (EvT.cast (k' := false) (Q0n (Q0b 1) Q0d Q0v) (by decide)) (λ hk => by cases hk) (λ _ => ?_)))
   refine Q0g (Q1i (EvT.cast (k' := true) (Q0n (Q0b 1) Q0d Q0v) (by decide)) (λ _ => ?_) (λ hk => by cases hk))
   exact Q0g (Q0s (Q0E M_Book_hear (hr.mono (by decide)) (Q0b 0) hB.q (Q1b _ _ _ _ _ _ (by decide +kernel)) (Q0a (ev_fz (ks := [.inr x0,.inr x1]) (xs := [.int num,.int num]) rfl (ev_disp2 (k := .inr x0) (k2 := .inr x1) (λ z => hne (Sum.inr.inj z)) (Q0w (Q0b 2) (by first | exact Or.inl rfl | exact Or.inr (Or.inl rfl) | exact Or.inr (Or.inr ⟨_,rfl,by first | assumption | rfl⟩)) Q0d h0) (Q0b 5) (Q0w (Q0b 2) (by first | exact Or.inl rfl | exact Or.inr (Or.inl rfl) | exact Or.inr (Or.inr ⟨_,rfl,by first | assumption | rfl⟩)) Q0d h1) (Q0b 5) ⟨rfl,rfl⟩)) (Q0a (Q0p F_l_bad_number (hr.mono (by decide)) (Q0a (Q0b 3) (Q0a (Q0b 4) Q0e)) ⟨_,_,rfl,rfl⟩) Q0e)) (.inr (.inl ⟨q,n,sc,t,b,u,c,ps,[x0,x1],ws,[.i num,.i num],(badM sc (cc % 8)),rfl,hB,(by show 2 <= 60; decide),rfl,(len_sm (λ y hy => by rcases List.mem_cons.mp hy with rfl | hy; exact hx0; rw [List.mem_singleton.mp hy]; exact hx1)),.inl ⟨(λ z => hnot (z x1 (by simp)).2),hX0⟩⟩))))
  ·have hX0 := hX []
   rw [List.append_nil] at hX0
   iterate 8 (refine Q0g (Q1i (EvT.cast (k' := false) (Q0n (Q0b 1) Q0d Q0v) (by decide)) (λ hk => by cases hk) (λ _ => ?_)))
   refine Q0g (Q1i (EvT.cast (k' := true) (Q0n (Q0b 1) Q0d Q0v) (by decide)) (λ _ => ?_) (λ hk => by cases hk))
   exact Q0g (Q0s (Q0E M_Book_say (hr.mono (by decide)) (Q0b 0) hB.q (Q1b _ _ _ _ _ _ (by decide +kernel)) (Q0a (ev_fz (ks := [.inr x0]) (xs := [ov (badM sc (cc % 8))]) (by show (npD (ov (badM sc (cc % 8))) && true) = true; rw [badM_np]; rfl) (Q2N (k := .inr x0) (Q0w (Q0b 2) (by first | exact Or.inl rfl | exact Or.inr (Or.inl rfl) | exact Or.inr (Or.inr ⟨_,rfl,by first | assumption | rfl⟩)) Q0d h0) (Q0p F_l_bad_number (hr.mono (by decide)) (Q0a (Q0b 3) (Q0a (Q0b 4) Q0e)) ⟨_,_,rfl,rfl⟩) ⟨rfl,rfl⟩)) Q0e) (.inr ⟨q,n,sc,t,b,u,c,ps,[x0],ws,[(badM sc (cc % 8))],rfl,hB,(by show 1 <= 60; decide),rfl,(len_sm (λ y hy => by rw [List.mem_singleton.mp hy]; exact hx0)),.inr ⟨spk_one hx0 hin,off_one (badM_no sc cc),hX0⟩⟩)))
  ·have hX0 := hX []
   rw [List.append_nil] at hX0
   iterate 9 (refine Q0g (Q1i (EvT.cast (k' := false) (Q0n (Q0b 1) Q0d Q0v) (by decide)) (λ hk => by cases hk) (λ _ => ?_)))
   refine Q0g (Q1i (EvT.cast (k' := true) (Q0n (Q0b 1) Q0d Q0v) (by decide)) (λ _ => ?_) (λ hk => by cases hk))
   exact Q0g (Q0s (Q0E M_Book_hear (hr.mono (by decide)) (Q0b 0) hB.q (Q1b _ _ _ _ _ _ (by decide +kernel)) (Q0a (ev_fz (ks := [.inr x0]) (xs := [ov (badM sc (cc % 8))]) (by show (npD (ov (badM sc (cc % 8))) && true) = true; rw [badM_np]; rfl) (Q2N (k := .inr x0) (Q0w (Q0b 2) (by first | exact Or.inl rfl | exact Or.inr (Or.inl rfl) | exact Or.inr (Or.inr ⟨_,rfl,by first | assumption | rfl⟩)) Q0d h0) (Q0p F_l_bad_number (hr.mono (by decide)) (Q0a (Q0b 3) (Q0a (Q0b 4) Q0e)) ⟨_,_,rfl,rfl⟩) ⟨rfl,rfl⟩)) (Q0a (Q0b 5) Q0e)) (.inr (.inl ⟨q,n,sc,t,b,u,c,ps,[x0],ws,[(badM sc (cc % 8))],.i num,rfl,hB,(by show 1 <= 60; decide),rfl,(len_sm (λ y hy => by rw [List.mem_singleton.mp hy]; exact hx0)),.inr ⟨spk_one hx0 hin,off_one (badM_no sc cc),hX0⟩⟩))))
  ·have hX0 := hX []
   rw [List.append_nil] at hX0
   iterate 10 (refine Q0g (Q1i (EvT.cast (k' := false) (Q0n (Q0b 1) Q0d Q0v) (by decide)) (λ hk => by cases hk) (λ _ => ?_)))
   refine Q0g (Q1i (EvT.cast (k' := true) (Q0n (Q0b 1) Q0d Q0v) (by decide)) (λ _ => ?_) (λ hk => by cases hk))
   exact Q0g (Q0s (Q0E M_Book_hear (hr.mono (by decide)) (Q0b 0) hB.q (Q1b _ _ _ _ _ _ (by decide +kernel)) (Q0a (ev_fz (ks := [.inr x0]) (xs := [.int num]) rfl (Q2N (k := .inr x0) (Q0w (Q0b 2) (by first | exact Or.inl rfl | exact Or.inr (Or.inl rfl) | exact Or.inr (Or.inr ⟨_,rfl,by first | assumption | rfl⟩)) Q0d h0) (Q0b 5) ⟨rfl,rfl⟩)) (Q0a (Q0p F_l_bad_number (hr.mono (by decide)) (Q0a (Q0b 3) (Q0a (Q0b 4) Q0e)) ⟨_,_,rfl,rfl⟩) Q0e)) (.inr (.inr ⟨q,n,sc,t,b,u,c,ps,[x0],ws,[num],(badM sc (cc % 8)),rfl,hB,hw,⟨rfl,by simp,(λ y hy => by rw [List.mem_singleton.mp hy]; exact hin),(λ y hy => by rw [List.mem_singleton.mp hy]; exact hnum),(λ y hy => by rw [List.mem_singleton.mp hy]; exact hx0),(by show 1 <= 60; decide)⟩,badM_no sc cc,hX0⟩))))
  ·have hX0 := hX []
   rw [List.append_nil] at hX0
   iterate 11 (refine Q0g (Q1i (EvT.cast (k' := false) (Q0n (Q0b 1) Q0d Q0v) (by decide)) (λ hk => by cases hk) (λ _ => ?_)))
   refine Q0g (Q1i (EvT.cast (k' := true) (Q0n (Q0b 1) Q0d Q0v) (by decide)) (λ _ => ?_) (λ hk => by cases hk))
   exact Q0g (Q0s (Q0E M_Book_hear (hr.mono (by decide)) (Q0b 0) hB.q (Q1b _ _ _ _ _ _ (by decide +kernel)) (Q0a (ev_fz (ks := []) (xs := []) rfl (ev_dctM ⟨rfl,rfl⟩)) (Q0a (Q0p F_l_bad_number (hr.mono (by decide)) (Q0a (Q0b 3) (Q0a (Q0b 4) Q0e)) ⟨_,_,rfl,rfl⟩) Q0e)) (.inr (.inr ⟨q,n,sc,t,b,u,c,ps,[],ws,[],(badM sc (cc % 8)),rfl,hB,hw,⟨rfl,List.nodup_nil,(λ y hy => by cases hy),(λ y hy => by cases hy),(λ y hy => by cases hy),(by decide)⟩,badM_no sc cc,hX0⟩))))
  ·iterate 12 (refine Q0g (Q1i (EvT.cast (k' := false) (Q0n (Q0b 1) Q0d Q0v) (by decide)) (λ hk => by cases hk) (λ _ => ?_)))
   refine Q0g (Q1i (EvT.cast (k' := true) (Q0n (Q0b 1) Q0d Q0v) (by decide)) (λ _ => ?_) (λ hk => by cases hk))
   exact Q0g (Q0s (evX_make K_Book (hr.mono (by decide)) (Q0a (Q0w (Q0Q (Q0a Q0d (Q0a Q0d (Q0a (ev_neg Q0d) (Q0a Q2a (Q0a Q2a (Q0a (Q0j Q0d Q0d (o_pow ⟨(by first | decide | omega),(by first | decide | omega),by decide⟩)) Q0e))))))) (by first | exact Or.inl rfl | exact Or.inr (Or.inl rfl) | exact Or.inr (Or.inr ⟨_,rfl,by first | assumption | rfl⟩)) (Q0j (Q0b 3) Q0d (Q1p (by first | decide | omega))) (badS_at cc)) (Q0a Q0d (Q0a Q0d Q0e))) ⟨O.length,badS (cc % 6),.i 0,.i 1,rfl,st0,λ s' t' b' es et eb hf => by (exfalso; have z := badS_no cc; rw [es] at z; have z : (decide (1 <= s') && decide (s' <= 10)) = false := z; rw [decide_eq_true hf.s1,decide_eq_true hf.s2] at z; cases z),λ _ => hX _⟩))
  ·iterate 13 (refine Q0g (Q1i (EvT.cast (k' := false) (Q0n (Q0b 1) Q0d Q0v) (by decide)) (λ hk => by cases hk) (λ _ => ?_)))
   refine Q0g (Ex.x_ (x_asgE (EvP.ev (Q0w (Q0Q (Q0a (Q1Z (Q0a Q0d (Q0a Q0d Q0e))) (Q0a (Q1Z (Q0a (ev_neg Q0d) (Q0a Q0d Q0e))) (Q0a (Q1Z (Q0a Q0d (Q0a Q0d Q0e))) (Q0a (Q1Z (Q0a Q0d (Q0a Q0d Q0e))) (Q0a (Q1Z (Q0a Q2a (Q0a Q0d Q0e))) (Q0a (Q1Z (Q0a Q0d (Q0a Q0d Q0e))) (Q0a (Q1Z (Q0a Q0d (Q0a (ev_neg Q0d) Q0e))) (Q0a (Q1Z (Q0a Q0d (Q0a Q2a Q0e))) Q0e))))))))) (by first | exact Or.inl rfl | exact Or.inr (Or.inl rfl) | exact Or.inr (Or.inr ⟨_,rfl,by first | assumption | rfl⟩)) (Q0j (Q0b 3) Q0d (Q1p (by first | decide | omega))) (badF_at cc)) ?_)))
   refine ⟨_,tg_tup (Q1A (Q0A 6 Q3f.nd) (Q1A (Q0A 7 Q3f.nd) tgs_nil)),?_⟩
   exact Q0g (Q0s (evX_make K_Book (hr.mono (by decide)) (Q0a (Q0j Q0d (Q0j (Q0j (Q0b 3) Q0d (Q3U ⟨(by first | decide | omega),(by first | decide | omega)⟩)) Q0d (Q1p (by first | decide | omega))) Q1Y) (Q0a (Q0b 6) (Q0a (Q0b 7) Q0e))) ⟨O.length,.i (1 + cc / 8 % 10),(badF (cc % 8)).1,(badF (cc % 8)).2,rfl,st0,λ s' t' b' es et eb hf => by (exfalso; have z := badF_no cc; rw [et,eb] at z; have z2 := frO_ii t' b'; rw [decide_eq_true hf.t0,decide_eq_true hf.tb,decide_eq_true hf.b2] at z2; rw [<- z2] at z; cases z),λ _ => hX _⟩))
theorem ok_l_told {f : Addr} {fd : FuncData} (T : Txt K mg CK0 CK1 CK5 CK4 CK2 CK7 CK3 CK6) (Fn : Fun K "_law_told" "_law_told" Q2F f fd) (hm : mg "_law_told" = some (.ref f)) (hb : Q0F K fd ["_law_book","_law_way","_law_names_here","_law_cell","_law_scale"] []) (F_l_deed : DefX P w K mg base 12 "_law_deed" (spDeedX CK0 CK2 CK7 CK5 CK4)) : Q0t P w K mg base 14 "_law_told" (spToldB CK0) := by
 refine okD (k := 13) Fn Q0Z hm hb (λ ds O R h => ?_) (λ cdv A outer s H E ds O R hr h => ?_)
 ·obtain ⟨_,_,_,_,_,_,_,_,_,_,_,_,_,_,rfl,_⟩ := h; rfl
 ·obtain ⟨q,n,w,sc,t,b,u,c,cc,ps,nm,ws,x0,x1,rfl,hw14,hB,hw,hsc,g0,g1,hx0,hx1,hne,hin,hnot,hR⟩ := h
  refine Q3u ?_
  refine Q0c (Q0H 5 (EvP.ev (Q0Q Q0e) ?_) Q0Z.nd)
  refine Q0c (x_try 6 Q0Z.nd T.m_HeedError (RX := λ C fs ρ O' => wayC CK2 CK7 CK5 CK4 w = (C,fs) /\ ρ = [some (.ptr q),some (.int (w : Nat)),some (.lst (nm.map D.str)),some (.int cc),some (.int sc),some (.lst []),none] /\ ∃ Y,O' = O ++ Y) (λ pn E => ?_) (λ v C fs ρ' O' hx => ?_))
  ·exact Q0g (Q0s (Q0z F_l_deed (hr.mono (by decide)) (Q0a (Q0b 0) (Q0a (Q0b 1) (Q0a (Q0b 2) (Q0a (Q0b 3) (Q0a (Q0b 4) Q0e))))) ⟨q,n,w,sc,t,b,u,c,cc,ps,nm,ws,x0,x1,rfl,hw14,hB,hw,hsc,g0,g1,hx0,hx1,hne,hin,hnot,λ Y => ⟨rfl,rfl,Y,rfl⟩⟩))
  ·obtain ⟨hC,rfl,Y,rfl⟩ := hx
   rcases way_cs (cA := CK2) (cB := CK7) (cC := CK5) (cD := CK4) hw14 with ⟨ec,ed⟩ | ⟨ec,ed⟩ | ⟨ec,ed⟩ | ⟨ec,ed⟩ <;> rw [ec] at hC <;> cases hC
   ·refine ⟨T.x_Twice_HeedError,?_⟩
    refine Q0c (Q0H 5 (EvP.ev (Q0Q (Q0a (Q0Y T.b_isinstance (Q0b 6) st0 T.t_Twice T.m_NoName T.i_Twice_NoName) (Q0a (Q0Y T.b_isinstance (Q0b 6) st0 T.t_Twice T.m_Twice T.i_Twice_Twice) (Q0a (Q0Y T.b_isinstance (Q0b 6) st0 T.t_Twice T.m_NoTurn T.i_Twice_NoTurn) (Q0a (Q0Y T.b_isinstance (Q0b 6) st0 T.t_Twice T.m_NoRule T.i_Twice_NoRule) Q0e))))) ?_) Q0Z.nd)
    refine Q0c (Q0H 5 (EvP.ev (Q0j (Q0b 5) (Q0Q (Q0a (Q0Y T.b_isinstance (Q0b 6) st0 T.t_Twice T.m_NoRow T.i_Twice_NoRow) (Q0a (Q0Y T.b_isinstance (Q0b 6) st0 T.t_Twice T.m_NoWay T.i_Twice_NoWay) Q0e))) (o_cat (Nat.le_of_ble_eq_true rfl))) ?_) Q0Z.nd)
    refine Q0c (x_if (EvW.t (ew_and (k := false) (l := false) (Q2V (Q0w (Q0b 5) (by first | exact Or.inl rfl | exact Or.inr (Or.inl rfl) | exact Or.inr (Or.inr ⟨_,rfl,by first | assumption | rfl⟩)) Q0d rfl)) (λ hbb => by cases hbb))) (λ hk => by cases hk) (λ hk => Q0m (Q0m ?_)))
    refine Q0c (x_if (EvT.cast (k' := false) (Q0n (Q3q (bs := [false,true,false,false,false,false]) (Q0b 5) (Or.inl rfl) Q2a) Q0d cmp_neI) rfl) (λ hk => by cases hk) (λ _ => Q0m ?_))
    refine Q0c (Q0N (EvP.ev (Q0w (Q0Q (Q0a Q0k (Q0a Q0k (Q0a Q0k (Q0a Q0k (Q0a Q0k (Q0a Q0k Q0e))))))) (Or.inl rfl) (ev_idxB (bs := [false,true,false,false,false,false]) (Q0b 5) (Or.inl rfl) Q2a (by decide)) rfl) ?_))
    rw [ed] at hR
    exact ⟨⟨_,List.append_assoc ..⟩,rfl,hR⟩
   ·refine ⟨T.x_NoName_HeedError,?_⟩
    refine Q0c (Q0H 5 (EvP.ev (Q0Q (Q0a (Q0Y T.b_isinstance (Q0b 6) st0 T.t_NoName T.m_NoName T.i_NoName_NoName) (Q0a (Q0Y T.b_isinstance (Q0b 6) st0 T.t_NoName T.m_Twice T.i_NoName_Twice) (Q0a (Q0Y T.b_isinstance (Q0b 6) st0 T.t_NoName T.m_NoTurn T.i_NoName_NoTurn) (Q0a (Q0Y T.b_isinstance (Q0b 6) st0 T.t_NoName T.m_NoRule T.i_NoName_NoRule) Q0e))))) ?_) Q0Z.nd)
    refine Q0c (Q0H 5 (EvP.ev (Q0j (Q0b 5) (Q0Q (Q0a (Q0Y T.b_isinstance (Q0b 6) st0 T.t_NoName T.m_NoRow T.i_NoName_NoRow) (Q0a (Q0Y T.b_isinstance (Q0b 6) st0 T.t_NoName T.m_NoWay T.i_NoName_NoWay) Q0e))) (o_cat (Nat.le_of_ble_eq_true rfl))) ?_) Q0Z.nd)
    refine Q0c (x_if (EvW.t (ew_and (k := false) (l := false) (Q2V (Q0w (Q0b 5) (by first | exact Or.inl rfl | exact Or.inr (Or.inl rfl) | exact Or.inr (Or.inr ⟨_,rfl,by first | assumption | rfl⟩)) Q0d rfl)) (λ hbb => by cases hbb))) (λ hk => by cases hk) (λ hk => Q0m (Q0m ?_)))
    refine Q0c (x_if (EvT.cast (k' := false) (Q0n (Q3q (bs := [true,false,false,false,false,false]) (Q0b 5) (Or.inl rfl) Q2a) Q0d cmp_neI) rfl) (λ hk => by cases hk) (λ _ => Q0m ?_))
    refine Q0c (Q0N (EvP.ev (Q0w (Q0Q (Q0a Q0k (Q0a Q0k (Q0a Q0k (Q0a Q0k (Q0a Q0k (Q0a Q0k Q0e))))))) (Or.inl rfl) (ev_idxB (bs := [true,false,false,false,false,false]) (Q0b 5) (Or.inl rfl) Q2a (by decide)) rfl) ?_))
    rw [ed] at hR
    exact ⟨⟨_,List.append_assoc ..⟩,rfl,hR⟩
   ·refine ⟨T.x_NoTurn_HeedError,?_⟩
    refine Q0c (Q0H 5 (EvP.ev (Q0Q (Q0a (Q0Y T.b_isinstance (Q0b 6) st0 T.t_NoTurn T.m_NoName T.i_NoTurn_NoName) (Q0a (Q0Y T.b_isinstance (Q0b 6) st0 T.t_NoTurn T.m_Twice T.i_NoTurn_Twice) (Q0a (Q0Y T.b_isinstance (Q0b 6) st0 T.t_NoTurn T.m_NoTurn T.i_NoTurn_NoTurn) (Q0a (Q0Y T.b_isinstance (Q0b 6) st0 T.t_NoTurn T.m_NoRule T.i_NoTurn_NoRule) Q0e))))) ?_) Q0Z.nd)
    refine Q0c (Q0H 5 (EvP.ev (Q0j (Q0b 5) (Q0Q (Q0a (Q0Y T.b_isinstance (Q0b 6) st0 T.t_NoTurn T.m_NoRow T.i_NoTurn_NoRow) (Q0a (Q0Y T.b_isinstance (Q0b 6) st0 T.t_NoTurn T.m_NoWay T.i_NoTurn_NoWay) Q0e))) (o_cat (Nat.le_of_ble_eq_true rfl))) ?_) Q0Z.nd)
    refine Q0c (x_if (EvW.t (ew_and (Q2V (Q0w (Q0b 5) (by first | exact Or.inl rfl | exact Or.inr (Or.inl rfl) | exact Or.inr (Or.inr ⟨_,rfl,by first | assumption | rfl⟩)) Q0d rfl)) (λ _ => ew_and1 (EvW.t (ew_or (Q0n (ev_fldX (Q0b 6) st0 T.t_NoTurn T.n_NoTurn_number rfl) Q0d cmp_neI) (λ _ => ew_or1 (Q2V (Q0K T.b_isinstance (Q0a (ev_fldX (Q0b 6) st0 T.t_NoTurn T.n_NoTurn_number rfl) (Q0a (Q2i T.b_bool) Q0e)) (c_isi_bool rfl))))))))) (λ hk => by cases hk) (λ hk => Q0m (Q0m ?_)))
    refine Q0c (x_if (EvT.cast (k' := false) (Q0n (Q3q (bs := [false,false,true,false,false,false]) (Q0b 5) (Or.inl rfl) Q2a) Q0d cmp_neI) rfl) (λ hk => by cases hk) (λ _ => Q0m ?_))
    refine Q0c (Q0N (EvP.ev (Q0w (Q0Q (Q0a Q0k (Q0a Q0k (Q0a Q0k (Q0a Q0k (Q0a Q0k (Q0a Q0k Q0e))))))) (Or.inl rfl) (ev_idxB (bs := [false,false,true,false,false,false]) (Q0b 5) (Or.inl rfl) Q2a (by decide)) rfl) ?_))
    rw [ed] at hR
    exact ⟨⟨_,List.append_assoc ..⟩,rfl,hR⟩
   ·refine ⟨T.x_NoRule_HeedError,?_⟩
    refine Q0c (Q0H 5 (EvP.ev (Q0Q (Q0a (Q0Y T.b_isinstance (Q0b 6) st0 T.t_NoRule T.m_NoName T.i_NoRule_NoName) (Q0a (Q0Y T.b_isinstance (Q0b 6) st0 T.t_NoRule T.m_Twice T.i_NoRule_Twice) (Q0a (Q0Y T.b_isinstance (Q0b 6) st0 T.t_NoRule T.m_NoTurn T.i_NoRule_NoTurn) (Q0a (Q0Y T.b_isinstance (Q0b 6) st0 T.t_NoRule T.m_NoRule T.i_NoRule_NoRule) Q0e))))) ?_) Q0Z.nd)
    refine Q0c (Q0H 5 (EvP.ev (Q0j (Q0b 5) (Q0Q (Q0a (Q0Y T.b_isinstance (Q0b 6) st0 T.t_NoRule T.m_NoRow T.i_NoRule_NoRow) (Q0a (Q0Y T.b_isinstance (Q0b 6) st0 T.t_NoRule T.m_NoWay T.i_NoRule_NoWay) Q0e))) (o_cat (Nat.le_of_ble_eq_true rfl))) ?_) Q0Z.nd)
    refine Q0c (x_if (EvW.t (ew_and (k := false) (l := false) (Q2V (Q0w (Q0b 5) (by first | exact Or.inl rfl | exact Or.inr (Or.inl rfl) | exact Or.inr (Or.inr ⟨_,rfl,by first | assumption | rfl⟩)) Q0d rfl)) (λ hbb => by cases hbb))) (λ hk => by cases hk) (λ hk => Q0m (Q0m ?_)))
    refine Q0c (x_if (EvT.cast (k' := false) (Q0n (Q3q (bs := [false,false,false,true,false,false]) (Q0b 5) (Or.inl rfl) Q2a) Q0d cmp_neI) rfl) (λ hk => by cases hk) (λ _ => Q0m ?_))
    refine Q0c (Q0N (EvP.ev (Q0w (Q0Q (Q0a Q0k (Q0a Q0k (Q0a Q0k (Q0a Q0k (Q0a Q0k (Q0a Q0k Q0e))))))) (Or.inl rfl) (ev_idxB (bs := [false,false,false,true,false,false]) (Q0b 5) (Or.inl rfl) Q2a (by decide)) rfl) ?_))
    rw [ed] at hR
    exact ⟨⟨_,List.append_assoc ..⟩,rfl,hR⟩
theorem ok_l_stream {f : Addr} {fd : FuncData} (T : Txt K mg CK0 CK1 CK5 CK4 CK2 CK7 CK3 CK6) (Fn : Fun K "_law_stream" "_law_stream" Q1C f fd) (hm : mg "_law_stream" = some (.ref f)) (hb : Q0F K fd ["_law_cell","_law_many"] []) : Q0t P w K mg base 1 "_law_stream" (Q0x Q4a) := by
 refine okD (k := 0) Fn Q1G hm hb (λ ds O R h => ?_) (λ cdv A outer s H E ds O R hr h => ?_)
 ·obtain ⟨_,⟨_,_,rfl,_⟩,_⟩ := h; rfl
 ·obtain ⟨d,⟨c,n,rfl,hn,rfl⟩,hR⟩ := h
  refine Q3u ?_
  refine Q0c (Q0H 2 (ev_lstM Q0e ?_) Q1G.nd)
  refine Q0c (Q0H 3 (EvP.ev (Q0j (Q0b 0) Q0d (Q1p (by first | decide | omega))) ?_) Q1G.nd)
  unfold strm at hR
  have hx0 : 0 <= c % 2305843009213693951 /\ c % 2305843009213693951 < 2305843009213693951 := by omega
  generalize c % 2305843009213693951 = x0 at hR hx0
  refine Q0c (x_for (Q2x (Q0j (Q0b 1) Q0d Q1Y) T.b_range (by first | decide | omega) (by first | decide | omega)) (λ i ρ O' => ∃ (L : List Int) (y : Int) (u : Option D),ρ = [some (.int c),some (.int (n : Nat)),some (.ptr O.length),some (.int y),u] /\ O' = O ++ [some (.lst (L.map D.int))] /\ L.length = i /\ (0 <= y /\ y < 2305843009213693951) /\ run 0 x0 (n + 1) = L ++ run i y (n + 1 - i)) ⟨[],x0,_,rfl,rfl,rfl,hx0,rfl⟩ ?_ ?_)
  ·rintro i x ρ O' hx ⟨L,y,u,rfl,rfl,hL,hy,hrun⟩
   obtain ⟨hi,rfl⟩ := Q3i hx
   have hi' : i < n + 1 := by omega
   refine ⟨_,Q0A 4 Q1G.nd,?_⟩
   have b61 : (2305843009213693951 : Int) < 2 ^ 70 := by decide
   have m1 : IntMulOk y y := mulP (m := 70) (n := 70) hy.1 (by omega) hy.1 (by omega)
   have m2 : IntMulOk 48271 y := mulP (m := 20) (n := 70) (by decide) (by decide) hy.1 (by omega)
   have m3 : IntMulOk 7 (0 + (i : Nat)) := mulP (m := 20) (n := 70) (by decide) (by decide) (by omega) (by omega)
   refine Q0c (Q0H 3 (EvP.ev (Q0j (Q0j (Q0j (Q0j (Q0j (Q0b 3) (Q0b 3) (Q3m m1)) (Q0j Q0d (Q0b 3) (Q3m m2)) Q1Y) (Q0j Q0d (Q0b 4) (Q3m m3)) Q1Y) Q0d Q1Y) Q0d (Q1p (by first | decide | omega))) ?_) Q1G.nd)
   have hst : (y * y + 48271 * y + 7 * (0 + ((i : Nat) : Int)) + 3) % 2305843009213693951 = stp y i := by unfold stp; rw [Int.zero_add]
   have hb : 0 <= stp y i /\ stp y i < 2305843009213693951 := by unfold stp; omega
   rw [hst]
   refine Q0c (Q2X (Q0b 2) st0 (Q0b 3) (by rw [sizeLine_eq,List.length_map]; omega) ?_)
   rw [ss0]
   refine Q0m ⟨L ++ [stp y i],_,_,rfl,by rw [List.map_append]; rfl,by rw [List.length_append,hL]; rfl,hb,?_⟩
   rw [hrun,show n + 1 - i = (n + 1 - (i + 1)) + 1 by omega,List.append_assoc]
   rfl
  ·rintro ρ O' ⟨L,y,u,rfl,rfl,hL,hy,hrun⟩
   rw [Q1h] at hrun
   have q0 : (O ++ [some (MO.lst (L.map D.int))])[O.length]? = some (some (.lst (L.map D.int))) := st0
   refine Q0c (Q0N (EvP.ev (ev_slLA (Q0b 2) (by first | exact Or.inl rfl | exact Or.inr (Or.inl rfl) | exact Or.inr (Or.inr ⟨_,rfl,by first | assumption | rfl⟩)) (eo_some Q0d) eo_none) ?_))
   rw [show n + 1 - ((n : Int) + 1).toNat = 0 by omega] at hrun
   have e : run 0 x0 (n + 1) = L := by rw [hrun]; exact List.append_nil _
   have e2 : cutA L (some 1) none = L.drop 1 := cutA_drop L 1
   rw [e] at hR
   rw [e2]
   exact ⟨⟨_,rfl⟩,npDs_ints _,hR⟩
theorem ok_l_rule {f : Addr} {fd : FuncData} (T : Txt K mg CK0 CK1 CK5 CK4 CK2 CK7 CK3 CK6) (Fn : Fun K "_law_rule" "_law_rule" Q2H f fd) (hm : mg "_law_rule" = some (.ref f)) (hb : Q0F K fd ["_law_script"] []) (F_l_cell_at : Q0t P w K mg base 1 "_law_cell_at" (Q0x spCell)) : Q0t P w K mg base 2 "_law_rule" (relSp preScr relRule) := by
 refine okD (k := 1) Fn Q2s hm hb (λ ds O R h => ?_) (λ cdv A outer s H E ds O R hr h => ?_)
 ·obtain ⟨⟨_,rfl⟩,_⟩ := h; rfl
 ·obtain ⟨⟨ns,rfl⟩,hR⟩ := h
  refine Q0c (Q0H 1 (EvP.ev Q0d ?_) Q2s.nd)
  refine xs_seq (λ ρ O' => O' = O /\ ∃ sc : Int,ρ = [some (.scr (ns.map D.int)),some (.int sc),none] /\ 1 <= sc /\ sc <= 10) (x_if (Q0n (Q0j (Q0p F_l_cell_at (hr.mono (by decide)) (Q0a (Q0b 0) (Q0a Q0d Q0e)) ⟨_,_,rfl,by first | decide | omega,rfl⟩) Q0d (Q1p (by first | decide | omega))) Q0d Q0v) (λ _ => ?_) (λ _ => Q0m ⟨rfl,1,rfl,by decide,by decide⟩)) ?_
  ·refine Q0c (Q0H 1 (EvP.ev (Q0j Q0d (Q0j (Q0j (Q0p F_l_cell_at (hr.mono (by decide)) (Q0a (Q0b 0) (Q0a Q0d Q0e)) ⟨_,_,rfl,by first | decide | omega,rfl⟩) Q0d (Q3U ⟨(by first | decide | omega),(by first | decide | omega)⟩)) Q0d (Q1p (by first | decide | omega))) Q1Y) ?_) Q2s.nd)
   exact Q0m ⟨rfl,_,rfl,by omega,by omega⟩
  rintro ρ O' ⟨hO,sc,rfl,h1,h2⟩
  subst hO
  refine Q0c (Q0H 2 (EvP.ev (Q0j Q0d (Q0j (Q0p F_l_cell_at (hr.mono (by decide)) (Q0a (Q0b 0) (Q0a Q0d Q0e)) ⟨_,_,rfl,by first | decide | omega,rfl⟩) Q0d (Q1p (by first | decide | omega))) Q1Y) ?_) Q2s.nd)
  refine xs_seq (λ ρ O2 => O2 = O' /\ ∃ b : Int,ρ = [some (.scr (ns.map D.int)),some (.int sc),some (.int b)] /\ 1 <= b /\ b <= 100) (x_if (Q0n (Q0j (Q0j (Q0p F_l_cell_at (hr.mono (by decide)) (Q0a (Q0b 0) (Q0a Q0d Q0e)) ⟨_,_,rfl,by first | decide | omega,rfl⟩) Q0d (Q3U ⟨(by first | decide | omega),(by first | decide | omega)⟩)) Q0d (Q1p (by first | decide | omega))) Q0d Q0v) (λ _ => ?_) (λ _ => Q0m ⟨rfl,_,rfl,by omega,by omega⟩)) ?_
  ·refine Q0c (Q0H 2 (EvP.ev (Q0j Q0d (Q0j (Q0j (Q0p F_l_cell_at (hr.mono (by decide)) (Q0a (Q0b 0) (Q0a Q0d Q0e)) ⟨_,_,rfl,by first | decide | omega,rfl⟩) Q0d (Q3U ⟨(by first | decide | omega),(by first | decide | omega)⟩)) Q0d (Q1p (by first | decide | omega))) Q1Y) ?_) Q2s.nd)
   exact Q0m ⟨rfl,_,rfl,by omega,by omega⟩
  rintro ρ O2 ⟨hO,b,rfl,h3,h4⟩
  subst hO
  refine Q0c (Q0N (EvP.ev (Q1Z (Q0a (Q0b 1) (Q0a (Q0j (Q0j (Q0p F_l_cell_at (hr.mono (by decide)) (Q0a (Q0b 0) (Q0a Q0d Q0e)) ⟨_,_,rfl,by first | decide | omega,rfl⟩) Q0d (Q3U ⟨(by first | decide | omega),(by first | decide | omega)⟩)) (Q0b 2) (Q1p (by omega))) (Q0a (Q0b 2) Q0e)))) (hR _ ⟨sc,_,b,rfl,h1,h2,Int.emod_nonneg _ (by omega),Int.emod_lt_of_pos _ (by omega),h4⟩)))
theorem ok_l_names {f : Addr} {fd : FuncData} (T : Txt K mg CK0 CK1 CK5 CK4 CK2 CK7 CK3 CK6) (Fn : Fun K "_law_names" "_law_names" Q1S f fd) (hm : mg "_law_names" = some (.ref f)) (hb : Q0F K fd ["_law_cell","_law_many"] []) : Q0t P w K mg base 1 "_law_names" (relSp preNm relNm2) := by
 refine okD (k := 0) Fn Q0R hm hb (λ ds O R h => ?_) (λ cdv A outer s H E ds O R hr h => ?_)
 ·obtain ⟨⟨_,_,rfl,_⟩,_⟩ := h; rfl
 ·obtain ⟨⟨c,m,rfl,hm⟩,hR⟩ := h
  refine Q3u ?_
  refine Q0c (Q0H 2 (EvP.ev Q0k ?_) Q0R.nd)
  refine Q0c (Q0H 3 (EvP.ev (Q0j Q0d (Q0j (Q0b 0) Q0d (Q1p (by first | decide | omega))) Q1Y) ?_) Q0R.nd)
  have hz : ∃ z : Nat,1 + c % 8 = (z : Nat) /\ 1 <= z /\ z <= 8 := ⟨(1 + c % 8).toNat,by omega,by omega,by omega⟩
  obtain ⟨z,ez,hz1,hz2⟩ := hz
  rw [ez]
  refine Q0c (Q0H 4 (EvP.ev (Q0j (Q0j (Q0b 0) Q0d (Q3U ⟨(by first | decide | omega),(by first | decide | omega)⟩)) (Q0b 3) (Q1p (by omega))) ?_) Q0R.nd)
  have hat0 : ∃ a0 : Nat,c / 8 % ((z : Nat) : Int) = (a0 : Nat) /\ a0 < z := by
   have h1 := Int.emod_nonneg (c / 8) (show ((z : Nat) : Int) ≠ 0 by omega)
   have h2 := Int.emod_lt_of_pos (c / 8) (show (0 : Int) < ((z : Nat) : Int) by omega)
   exact ⟨(c / 8 % ((z : Nat) : Int)).toNat,by omega,by omega⟩
  obtain ⟨a0,ea0,ha0⟩ := hat0
  rw [ea0]
  refine Q0c (Q0H 5 (ev_lstM Q0e ?_) Q0R.nd)
  refine Q0c (x_for (Q2x (Q0b 1) T.b_range (by first | decide | omega) (by first | decide | omega)) (λ i ρ O' => ∃ (nm : List Str) (v6 v7 v8 v9 : Option D),ρ = [some (.int c),some (.int (m : Nat)),some (.str "abcdefghijklmnopqrstuvwxyz"),some (.int (z : Nat)),some (.int (a0 : Nat)),some (.ptr O.length),v6,v7,v8,v9] /\ O' = O ++ [some (.lst (nm.map D.str))] /\ nm.length = i /\ (∀ x ∈ nm,Q0M x) /\ ∀ (k : Nat) (x : Str),nm[k]? = some x -> x.cps[a0]? = letA ((c / (64 + 7 * ((a0 : Nat) : Int) * (a0 : Nat)) + (k : Nat)) % 26)) ⟨[],_,_,_,_,rfl,rfl,rfl,(λ x hx => by cases hx),λ k x hx => by cases hx⟩ ?_ ?_)
  ·rintro i y ρ O' hy ⟨nm,v6,v7,v8,v9,rfl,rfl,hnl,hnm,hnd⟩
   obtain ⟨hi,rfl⟩ := Q3i hy
   have hi : i < m := by omega
   refine ⟨_,Q0A 6 Q0R.nd,?_⟩
   refine Q0c (Q0H 7 (EvP.ev Q0k ?_) Q0R.nd)
   refine Q0c (x_for (Q2x (Q0b 3) T.b_range (by first | decide | omega) (by first | decide | omega)) (λ j ρ O2 => ∃ (x : Str) (v8 v9 : Option D),ρ = [some (.int c),some (.int (m : Nat)),some (.str "abcdefghijklmnopqrstuvwxyz"),some (.int (z : Nat)),some (.int (a0 : Nat)),some (.ptr O.length),some (.int (0 + (i : Nat))),some (.str x),v8,v9] /\ O2 = O ++ [some (.lst (nm.map D.str))] /\ x.length = j /\ (∀ ch ∈ x.cps.toList,ch ∈ Q2u) /\ (a0 < j -> x.cps[a0]? = letA ((c / (64 + 7 * ((a0 : Nat) : Int) * (a0 : Nat)) + (i : Nat)) % 26))) ⟨"",_,_,rfl,rfl,by decide +kernel,by decide +kernel,λ h => absurd h (Nat.not_lt_zero _)⟩ ?_ ?_)
   ·rintro j y ρ O2 hy ⟨x,v8,v9,rfl,rfl,hxl,hxs,hxd⟩
    obtain ⟨hj,rfl⟩ := Q3i hy
    have hj : j < z := by omega
    have m1 : IntMulOk 7 (0 + (j : Nat)) := mulP (m := 20) (n := 20) (by decide) (by decide) (by omega) (by omega)
    have m2 : IntMulOk (7 * (0 + (j : Nat))) (0 + (j : Nat)) := mulP (m := 20) (n := 20) (by omega) (by omega) (by omega) (by omega)
    have hp : 0 <= 7 * (0 + ((j : Nat) : Int)) * (0 + (j : Nat)) := Int.mul_nonneg (by omega) (by omega)
    have hp2 : 7 * (0 + ((j : Nat) : Int)) * (0 + (j : Nat)) <= 49 * 7 := by
     refine Int.le_trans (Int.mul_le_mul_of_nonneg_right (show 7 * (0 + ((j : Nat) : Int)) <= 49 by omega) (by omega)) (Int.mul_le_mul_of_nonneg_left (by omega) (by decide))
    refine ⟨_,Q0A 8 Q0R.nd,?_⟩
    refine Q0c (Q0H 9 (EvP.ev (Q0j (Q0j (Q0b 0) (Q0j Q0d (Q0j (Q0j Q0d (Q0b 8) (Q3m m1)) (Q0b 8) (Q3m m2)) Q1Y) (Q3U ⟨by omega,by omega⟩)) (Q0j (Q0b 6) (Q3r T.b_int (Q0a (ev_cmp (Q0b 8) (Q0b 4) Q0v) Q0e) c_intB) (Q3m (CMul.ok (Or.inl ⟨by omega,by omega⟩)))) Q1Y) ?_) Q0R.nd)
    generalize hst : c / (64 + 7 * (0 + ((j : Nat) : Int)) * (0 + (j : Nat))) + (0 + ((i : Nat) : Int)) * (if decide (0 + ((j : Nat) : Int) = ((a0 : Nat) : Int)) = true then 1 else 0) = st
    have hK : ∃ k : Nat,st % 26 = (k : Nat) /\ k < 26 := ⟨(st % 26).toNat,by omega,by omega⟩
    obtain ⟨k,ek,hk⟩ := hK
    obtain ⟨ch,hc1,hc2⟩ := let_at k hk
    refine Q0c (Q0H 7 (EvP.ev (Q0j (Q0b 7) (EvP.cast (d' := .str ⟨#[ch]⟩) (ev_ixS (i := k) (Q0b 2) (EvP.cast (Q0j (Q0b 9) Q0d (Q1p (by first | decide | omega))) (congrArg D.int ek)) hc1 (by rw [sizeLine_eq]; decide +kernel)) rfl) (o_addS (by rw [sizeLine_eq,hxl]; show j + 1 <= _; omega))) ?_) Q0R.nd)
    refine Q0m ⟨_,_,_,rfl,rfl,?_,λ d hd => ?_,λ hlt => ?_⟩
    ·show (x.cps ++ #[ch]).size = _
     rw [Array.size_append]
     show x.length + 1 = j + 1
     rw [hxl]
    ·have hd : d ∈ (x.cps ++ #[ch]).toList := hd
     rw [Array.toList_append,List.mem_append] at hd
     rcases hd with hd | hd
     ·exact hxs d hd
     ·cases List.mem_singleton.mp hd; exact hc2
    ·show (x.cps ++ #[ch])[a0]? = _
     have hsz : x.cps.size = j := hxl
     by_cases h : a0 < j
     ·rw [Array.getElem?_append_left (by omega)]
      exact hxd h
     ·have e : a0 = j := by omega
      subst e
      rw [Array.getElem?_append_right (by omega),hsz,Nat.sub_self]
      rw [Int.zero_add,decide_eq_true rfl,if_pos rfl,Int.mul_one,Int.zero_add] at hst
      rw [hst,ek]
      show some ch = abc.cps[((k : Nat) : Int).toNat]?
      rw [Int.toNat_natCast]
      exact hc1.symm
   ·rintro ρ O2 ⟨x,v8,v9,rfl,rfl,hxl,hxs,hxd⟩
    rw [Q1h,Int.toNat_natCast] at hxl hxd
    have hN : Q0M x := ⟨by omega,by omega,hxs⟩
    refine Q0c (Q2X (Q0b 5) st0 (Q0b 7) (by rw [sizeLine_eq,List.length_map]; omega) ?_)
    rw [ss0]
    refine Q0m ⟨nm ++ [_],_,_,_,_,rfl,by rw [List.map_append]; rfl,by rw [List.length_append,hnl]; rfl,λ y hy => ?_,λ k y hy2 => ?_⟩
    ·rcases List.mem_append.mp hy with hy | hy
     ·exact hnm y hy
     ·cases List.mem_singleton.mp hy; exact hN
    ·by_cases h : k < nm.length
     ·rw [List.getElem?_append_left h] at hy2
      exact hnd k y hy2
     ·rw [List.getElem?_append_right (by omega)] at hy2
      have e : k = i := by
       have := (List.getElem?_eq_some_iff.mp hy2).1
       have : k - nm.length < 1 := this
       omega
      subst e
      rw [hnl,Nat.sub_self] at hy2
      cases hy2
      exact hxd (by omega)
  ·rintro ρ O' ⟨nm,v6,v7,v8,v9,rfl,rfl,hnl,hnm,hnd⟩
   rw [Q1h,Int.toNat_natCast] at hnl
   refine Q0c (Q0N (ev_frz (Q0b 5) st0 ?_))
   rw [ss0]
   have hdf : ∀ x0 x1,nm[0]? = some x0 -> nm[1]? = some x1 -> x0 ≠ x1 := λ x0 x1 h0 h1 e => by
    subst e
    have e0 := hnd 0 _ h0
    have e1 := hnd 1 _ h1
    rw [e0] at e1
    exact letA_ne _ (by rw [show c / (64 + 7 * ((a0 : Nat) : Int) * (a0 : Nat)) + ((0 : Nat) : Int) = c / (64 + 7 * ((a0 : Nat) : Int) * (a0 : Nat)) from Int.add_zero _] at e1; exact e1)
   refine ⟨⟨_,rfl⟩,npDs_map (λ _ => rfl) _,hR _ ⟨nm,rfl,λ c' m' e => ?_,hnm,hdf⟩⟩
   injection e with _ e; injection e with e _; injection e with e
   omega
theorem ok_l_cells {f : Addr} {fd : FuncData} (T : Txt K mg CK0 CK1 CK5 CK4 CK2 CK7 CK3 CK6) (Fn : Fun K "_law_cells" "_law_cells" Q1U f fd) (hm : mg "_law_cells" = some (.ref f)) (hb : Q0F K fd ["_law_script","_law_first"] []) (F_l_cell_at : Q0t P w K mg base 1 "_law_cell_at" (Q0x spCell)) (F_l_stream : Q0t P w K mg base 1 "_law_stream" (Q0x Q4a)) : Q0t P w K mg base 2 "_law_cells" (relSp preCells relCells) := by
 refine okD (k := 1) Fn sc_l_cells hm hb (λ ds O R h => ?_) (λ cdv A outer s H E ds O R hr h => ?_)
 ·obtain ⟨⟨_,_,rfl,_⟩,_⟩ := h; rfl
 ·obtain ⟨⟨ns,f,rfl,hf,hl⟩,hR⟩ := h
  refine Q0c (Q0H 2 (EvP.ev (Q0p F_l_cell_at (hr.mono (by decide)) (Q0a (Q0b 0) (Q0a Q0d Q0e)) ⟨_,_,rfl,by first | decide | omega,rfl⟩) ?_) sc_l_cells.nd)
  refine Q0c (x_if (Q0n (Q0j (Q0j (Q0b 2) Q0d (Q3U ⟨(by first | decide | omega),(by first | decide | omega)⟩)) Q0d (Q1p (by first | decide | omega))) Q0d Q0v) (λ hk => ?_) (λ hk => Q0m ?_))
  ·exact Q0c (Q0N (EvP.ev (Q0p F_l_stream (hr.mono (by decide)) (Q0a (Q0j (Q0b 2) Q0d (Q3U ⟨(by first | decide | omega),(by first | decide | omega)⟩)) (Q0a Q0d Q0e)) ⟨_,58,rfl,by decide,rfl⟩) (hR _ ⟨_,rfl,by rw [strm_len]; decide⟩)))
  ·exact Q0c (Q0N (EvP.ev (ev_slLA (Q0b 0) (by first | exact Or.inl rfl | exact Or.inr (Or.inl rfl) | exact Or.inr (Or.inr ⟨_,rfl,by first | assumption | rfl⟩)) (eo_some (Q0b 1)) (eo_some Q0d)) (hR _ ⟨_,rfl,Nat.le_trans (cutA_le _ _ _) hl⟩)))
theorem ok_l_said {f : Addr} {fd : FuncData} (T : Txt K mg CK0 CK1 CK5 CK4 CK2 CK7 CK3 CK6) (Fn : Fun K "_law_said" "_law_said" Q2G f fd) (hm : mg "_law_said" = some (.ref f)) (hb : Q0F K fd ["_law_there","_law_numbers","_law_scale"] []) : Q0t P w K mg base 3 "_law_said" spSaidL := by
 refine okD (k := 2) Fn sc_l_said hm hb (λ ds O R h => ?_) (λ cdv A outer s H E ds O R hr h => ?_)
 ·obtain ⟨_,_,_,_,rfl,_⟩ := h; rfl
 ·obtain ⟨ths,nsL,sc,da,rfl,hL,hnd,hl,h60,hs1,hR⟩ := h
  have hlen : (ths.map D.str).length = ths.length := List.length_map ..
  refine Q3u ?_
  refine Q0c (Q0H 3 (ev_dctM ?_) sc_l_said.nd)
  refine Q0c (x_for (Q2x (Q0K T.b_len (Q0a (Q0b 0) Q0e) (c_len (Or.inl (lv_app hL)))) T.b_range (by rw [hlen]; omega) (by rw [hlen]; omega)) (λ i ρ O' => ∃ (qs : List Str) (ys : List Int) (v4 : Option D),ρ = [some da,some (.lst (nsL.map D.int)),some (.int sc),some (.ptr O.length),v4] /\ O' = O ++ [some (.dct (qs.map Sum.inr) (ys.map D.int))] /\ Dict1 sc (ths.take i) qs ys /\ qs.length <= i) ⟨[],[],_,rfl,rfl,⟨rfl,List.nodup_nil,(λ x hx => by cases hx),(λ y hy => by cases hy)⟩,Nat.le_refl _⟩ ?_ ?_)
  ·rintro i z ρ O' hz ⟨qs,ys,v4,rfl,rfl,hd,hql⟩
   obtain ⟨hi,rfl⟩ := Q3i hz
   have hi : i < ths.length := by rw [hlen,Int.toNat_natCast] at hi; exact hi
   have a1 : atI (nsL.map D.int) (0 + (i : Nat)) = some (.int (nsL.getD i 0)) := by rw [Int.zero_add]; exact at_ws (by omega)
   have a2 : atI (ths.map D.str) (0 + (i : Nat)) = some (.str ths[i]) := by rw [Int.zero_add]; exact Q2z (by rw [List.getElem?_map,List.getElem?_eq_getElem hi]; rfl)
   have hnot : ths[i] ∉ ths.take i := λ hm => by
    obtain ⟨j,hj,e⟩ := List.mem_iff_getElem.mp hm
    rw [List.getElem_take] at e
    rw [List.length_take] at hj
    have := (List.getElem?_inj (show j < ths.length by omega) hnd).mp (show ths[j]? = ths[i]? by rw [List.getElem?_eq_getElem (by omega),List.getElem?_eq_getElem hi,e])
    omega
   have htk : ths.take (i + 1) = ths.take i ++ [ths[i]] := by rw [List.take_succ,List.getElem?_eq_getElem hi]; rfl
   refine ⟨_,Q0A 4 sc_l_said.nd,?_⟩
   generalize nsL.getD i 0 = nn at a1
   refine Q0c (x_if (Q0n (Q0j (Q0w (Q0b 1) (by first | exact Or.inl rfl | exact Or.inr (Or.inl rfl) | exact Or.inr (Or.inr ⟨_,rfl,by first | assumption | rfl⟩)) (Q0b 4) a1) Q0d (Q1p (by first | decide | omega))) Q0d cmp_gt) (λ hk => ?_) (λ hk => Q0m (Q0m ⟨qs,ys,_,rfl,rfl,⟨hd.l,hd.nd,(λ x hx => by rw [htk]; exact List.mem_append_left _ (hd.sub x hx)),hd.on⟩,by omega⟩)))
   have hon : 0 <= nn / 4 % (sc + 1) /\ nn / 4 % (sc + 1) <= sc := ⟨Int.emod_nonneg _ (by omega),by have := Int.emod_lt_of_pos (nn / 4) (show 0 < sc + 1 by omega); omega⟩
   generalize ths[i] = x at a2 hnot htk
   refine Q0c (x_dput (k := .inr x) hr (Q0j (Q0j (Q0w (Q0b 1) (by first | exact Or.inl rfl | exact Or.inr (Or.inl rfl) | exact Or.inr (Or.inr ⟨_,rfl,by first | assumption | rfl⟩)) (Q0b 4) a1) Q0d (Q3U ⟨(by first | decide | omega),(by first | decide | omega)⟩)) (Q0j (Q0b 2) Q0d Q1Y) (Q1p (by omega))) (Q0b 3) st0 (Q0w (Q0b 0) (lv_app hL) (Q0b 4) a2) (by rw [sizeLine_eq,List.length_map]; omega) ?_)
   have hq : x ∉ qs := λ h => hnot (hd.sub x h)
   obtain ⟨p1,p2⟩ := put_newS (ws := ys.map D.int) (w := D.int (nn / 4 % (sc + 1))) hq
   rw [p1,p2,ss0]
   refine Q0m (Q0m ⟨qs ++ [x],ys ++ [nn / 4 % (sc + 1)],_,rfl,by rw [List.map_append (l₁ := ys)]; rfl,⟨by rw [List.length_append,List.length_append,hd.l]; rfl,?_,λ y hy => ?_,λ y hy => ?_⟩,by rw [List.length_append]; show qs.length + 1 <= i + 1; omega⟩)
   ·exact List.nodup_append.mpr ⟨hd.nd,List.nodup_cons.mpr ⟨List.not_mem_nil,List.nodup_nil⟩,λ a ha b hb => by rw [List.mem_singleton] at hb; subst hb; rintro rfl; exact hq ha⟩
   ·rw [htk]
    rcases List.mem_append.mp hy with hy | hy
    ·exact List.mem_append_left _ (hd.sub y hy)
    ·exact List.mem_append_right _ hy
   ·rcases List.mem_append.mp hy with hy | hy
    ·exact hd.on y hy
    ·cases List.mem_singleton.mp hy; exact hon
  ·rintro ρ O' ⟨qs,ys,v4,rfl,rfl,hd,hql⟩
   rw [Q1h,hlen,Int.toNat_natCast,List.take_length] at hd
   refine xs_frzD 3 rfl st0 ?_
   rw [ss0]
   refine Q0c (Q0N (EvP.ev (EvP.cast (d' := .dct (qs.map Sum.inr) (ys.map D.int)) (Q0b 3) (if_pos rfl)) ?_))
   exact ⟨⟨_,rfl⟩,npDs_ints ys,hR qs ys hd⟩
theorem ok_l_deeds {f : Addr} {fd : FuncData} (T : Txt K mg CK0 CK1 CK5 CK4 CK2 CK7 CK3 CK6) (Fn : Fun K "_law_deeds" "_law_deeds" Q1T f fd) (hm : mg "_law_deeds" = some (.ref f)) (hb : Q0F K fd ["_law_cells_here","_law_names_here","_law_scale"] []) (F_l_stream : Q0t P w K mg base 1 "_law_stream" (Q0x Q4a)) (F_l_said : Q0t P w K mg base 3 "_law_said" spSaidL) : Q0t P w K mg base 4 "_law_deeds" spDeeds := by
 refine okD (k := 3) Fn Q1j hm hb (λ ds O R h => ?_) (λ cdv A outer s H E ds O R hr h => ?_)
 ·obtain ⟨_,_,_,rfl,_⟩ := h; rfl
 ·obtain ⟨cs,nm,sc,rfl,hcl,hn6,hnm,hs1,hR⟩ := h
  refine Q3u ?_
  refine Q0c (Q0H 3 (ev_lstM Q0e ?_) Q1j.nd)
  refine Q0c (Q0H 4 (ev_lstM Q0e ?_) Q1j.nd)
  refine Q0c (Q0H 5 (EvP.ev Q0d ?_) Q1j.nd)
  rw [sl1,List.append_assoc]
  refine Q0c (x_for (ei_LF (Q0b 0) (by first | exact Or.inl rfl | exact Or.inr (Or.inl rfl) | exact Or.inr (Or.inr rfl) | assumption)) (λ i ρ O' => ∃ (L : List Deed) (v6 v7 v8 : Option D),ρ = [some (.lst (cs.map D.int)),some (.lst (nm.map D.str)),some (.int sc),some (.ptr O.length),some (.ptr (O.length + 1)),some (.int (((stA L).2 : Nat) : Int)),v6,v7,v8] /\ O' = O ++ [some (.lst (L.map dD)),some (.lst ((stA L).1.map D.str))] /\ L.length <= i /\ DsOk sc L /\ StOk (stA L) /\ ∀ y ∈ (stA L).1,y ∈ nm) ⟨[],_,_,_,rfl,rfl,Nat.le_refl _,(λ i d h => by cases h),⟨List.nodup_nil,(λ x hx => by cases hx),Nat.le_refl _,by decide⟩,(λ y hy => by cases hy)⟩ ?_ ?_)
  ·rintro i z ρ O' hz ⟨L,v6,v7,v8,rfl,rfl,hLl,hds,hst,hsub⟩
   have hi : i < 63 := by have := (List.getElem?_eq_some_iff.mp hz).1; rw [List.length_map] at this; omega
   obtain ⟨c,_,rfl⟩ := List.mem_map.mp (List.mem_of_getElem? hz)
   refine ⟨_,Q0A 6 Q1j.nd,?_⟩
   refine Q0c (Q0H 7 (EvP.ev (Q0p F_l_stream (hr.mono (by decide)) (Q0a (Q0b 6) (Q0a Q0d Q0e)) ⟨c,9,rfl,by decide,rfl⟩) ?_) Q1j.nd)
   have hnl := strm_len c 9
   generalize strm c 9 = nn at hnl
   have a0 : atI (nn.map D.int) 0 = some (.int (nn.getD 0 0)) := at_ws (k := 0) (by omega)
   have a1 : atI (nn.map D.int) 1 = some (.int (nn.getD 1 0)) := at_ws (k := 1) (by omega)
   have a8 : atI (nn.map D.int) 8 = some (.int (nn.getD 8 0)) := at_ws (k := 8) (by omega)
   generalize nn.getD 0 0 = n0 at a0
   generalize nn.getD 1 0 = n1 at a1
   generalize nn.getD 8 0 = n8 at a8
   have hx : ∃ x,atI (nm.map D.str) (n1 % 6) = some (.str x) /\ Q0M x /\ x ∈ nm := by
    have hk : ∃ k : Nat,n1 % 6 = (k : Nat) /\ k < 6 := ⟨(n1 % 6).toNat,by omega,by omega⟩
    obtain ⟨k,ek,hk⟩ := hk
    rw [ek]
    exact ⟨nm[k],Q2z (by rw [List.getElem?_map,List.getElem?_eq_getElem (by omega)]; rfl),hnm _ (List.getElem_mem _),List.getElem_mem _⟩
   obtain ⟨x,hx,hxn,hxm⟩ := hx
   refine Q0c (Q0H 8 (EvP.ev (Q0w (Q0b 1) (by first | exact Or.inl rfl | exact Or.inr (Or.inl rfl) | exact Or.inr (Or.inr ⟨_,rfl,by first | assumption | rfl⟩)) (Q0j (Q0w (Q0b 7) (by first | exact Or.inl rfl | exact Or.inr (Or.inl rfl) | exact Or.inr (Or.inr ⟨_,rfl,by first | assumption | rfl⟩)) Q0d a1) Q0d (Q1p (by first | decide | omega))) hx) ?_) Q1j.nd)
   have q1 : (O ++ [some (MO.lst (L.map dD)),some (.lst ((stA L).1.map D.str))])[O.length + 1]? = some (some (.lst ((stA L).1.map D.str))) := st1
   have hle := hst.le
   have hl20 := hst.l20
   refine Q0c (x_if (EvW.t (ew_and (Q0n (Q0j (Q0w (Q0b 7) (by first | exact Or.inl rfl | exact Or.inr (Or.inl rfl) | exact Or.inr (Or.inr ⟨_,rfl,by first | assumption | rfl⟩)) Q0d a0) Q0d (Q1p (by first | decide | omega))) Q0d cmp_lt) (λ hbb => (ew_and (Q0n (Q0b 8) (Q0b 4) (cmp_niD hr (Or.inl rfl) (show plD (.str x) = true from Q2T hxn) (pl_strs hst.nm) (Nat.le_trans (Nat.min_le_left _ _) (Nat.le_trans (Q2y _) (by decide))) (Or.inr ⟨_,_,rfl,q1,rfl⟩))) (λ hbb => (ew_and1 (Q0n (Q0b 5) Q0d cmp_lt))))))) (λ hk => ?_) (λ hk => ?_))
   ·have hk : (decide (n0 % 8 < 3) && (!(((stA L).1.map D.str).any λ y => eqD y (.str x)) && decide ((((stA L).2 : Nat) : Int) < 20))) = true := hk
    rw [any_eqS,Bool.and_eq_true,Bool.and_eq_true,Bool.not_eq_true',decide_eq_false_iff_not,decide_eq_true_eq,decide_eq_true_eq] at hk
    have hd : DOk sc (stA L) (.come x) := ⟨hxn,hk.2.1,by omega⟩
    refine Q0c (Q2X (Q0b 3) st0 (Q1Z (Q0a Q0k (Q0a (Q0b 8) Q0e))) (by rw [sizeLine_eq,List.length_map]; omega) ?_)
    rw [ss0]
    refine Q0c (Q2X (Q0b 4) st1 (Q0b 8) (by rw [sizeLine_eq,List.length_map]; omega) ?_)
    refine Q0c (Q0H 5 (EvP.ev (Q0j (Q0b 5) Q0d Q1Y) ?_) Q1j.nd)
    refine Q0m (Q0m ⟨L ++ [.come x],_,_,_,by rw [Q0W]; rfl,?_,by rw [List.length_append]; show L.length + 1 <= i + 1; omega,hds.snoc hd,by rw [Q0W]; exact hst.step hd,λ y hy => by
     rw [Q0W] at hy
     rcases List.mem_append.mp hy with hy | hy
     ·exact hsub y hy
     ·cases List.mem_singleton.mp hy; exact hxm⟩)
    rw [ss1,Q0W,List.map_append]
    show _ = O ++ [_,some (.lst (((stA L).1 ++ [x]).map D.str))]
    rw [List.map_append]
    rfl
   ·refine Q0c (x_if (EvW.t (ew_and (Q0n (Q0j (Q0w (Q0b 7) (by first | exact Or.inl rfl | exact Or.inr (Or.inl rfl) | exact Or.inr (Or.inr ⟨_,rfl,by first | assumption | rfl⟩)) Q0d a0) Q0d (Q1p (by first | decide | omega))) Q0d Q0v) (λ hbb => (ew_and1 (Q0n (Q0b 8) (Q0b 4) (cmp_inD hr (Or.inl rfl) (show plD (.str x) = true from Q2T hxn) (pl_strs hst.nm) (Nat.le_trans (Nat.min_le_left _ _) (Nat.le_trans (Q2y _) (by decide))) (Or.inr ⟨_,_,rfl,q1,rfl⟩))))))) (λ hk2 => ?_) (λ hk2 => ?_))
    ·have hk2 : (decide (n0 % 8 = 3) && (((stA L).1.map D.str).any λ y => eqD y (.str x))) = true := hk2
     rw [any_eqS,Bool.and_eq_true,decide_eq_true_eq,decide_eq_true_eq] at hk2
     have hd : DOk sc (stA L) (.go x) := ⟨hxn,hk2.2⟩
     refine Q0c (Q2X (Q0b 3) st0 (Q1Z (Q0a Q0k (Q0a (Q0b 8) Q0e))) (by rw [sizeLine_eq,List.length_map]; omega) ?_)
     rw [ss0]
     refine Q0c (x_remS (Q0b 4) st1 (Q0b 8) hk2.2 ?_)
     refine Q0m (Q0m (Q0m ⟨L ++ [.go x],_,_,_,by rw [Q0W]; rfl,?_,by rw [List.length_append]; show L.length + 1 <= i + 1; omega,hds.snoc hd,by rw [Q0W]; exact hst.step hd,λ y hy => by
      rw [Q0W] at hy
      exact hsub y (List.mem_of_mem_eraseIdx hy)⟩))
     rw [ss1,Q0W,List.map_append]
     rfl
    ·have h6 : (stA L).1.length <= 6 := by rw [<- hn6]; exact len_sub hst.nd hsub
     have q0 : (O ++ [some (MO.lst (L.map dD)),some (.lst ((stA L).1.map D.str))])[O.length]? = some (some (.lst (L.map dD))) := st0
     have h7 : (cutA nn (some 2) none).length = 7 := by rw [show (2 : Int) = ((2 : Nat) : Int) from rfl,cutA_drop,List.length_drop]; omega
     refine Q0c (x_appendE (Q0b 3) (ev_tupA (Q1y (EvP.ev Q0k (Q1y (Q1Q F_l_said (hr.mono (by decide)) (Q0a (Q0b 4) (Q0a (ev_slLA (Q0b 7) (by first | exact Or.inl rfl | exact Or.inr (Or.inl rfl) | exact Or.inr (Or.inr ⟨_,rfl,by first | assumption | rfl⟩)) (eo_some Q0d) eo_none) (Q0a (Q0b 2) Q0e))) ⟨(stA L).1,_,sc,_,rfl,Or.inr (Or.inr ⟨_,rfl,q1⟩),hst.nd,by omega,by omega,hs1,λ qs ys hq => EvPs.as (Q0a (Q0j (Q0w (Q0b 7) (by first | exact Or.inl rfl | exact Or.inr (Or.inl rfl) | exact Or.inr (Or.inr ⟨_,rfl,by first | assumption | rfl⟩)) Q0d a8) (Q0j (Q0b 2) Q0d Q1Y) (Q1p (by omega))) Q0e) ⟨by rw [sizeLine_eq]; show 3 <= 16777216; decide,q0,?_⟩⟩))))) q0 (by rw [sizeLine_eq,List.length_map]; omega))
     have hd : DOk sc (stA L) (.turn qs ys (n8 % (sc + 1))) := ⟨hq,Int.emod_nonneg _ (by omega),by have := Int.emod_lt_of_pos n8 (show 0 < sc + 1 by omega); omega⟩
     rw [ss0]
     refine Q0m (Q0m (Q0m ⟨L ++ [.turn qs ys (n8 % (sc + 1))],_,_,_,by rw [Q0W]; rfl,?_,by rw [List.length_append]; show L.length + 1 <= i + 1; omega,hds.snoc hd,by rw [Q0W]; exact hst.step hd,λ y hy => by rw [Q0W] at hy; exact hsub y hy⟩))
     rw [Q0W,List.map_append]
     rfl
  ·rintro ρ O' ⟨L,v6,v7,v8,rfl,rfl,hLl,hds,hst,hsub⟩
   rw [List.length_map] at hLl
   refine Q0c (Q0N (ev_frz (Q0b 3) st0 ?_))
   rw [ss0]
   exact ⟨⟨_,rfl⟩,npDs_map dD_np _,hR L hds (by omega)⟩
theorem ok_law {f : Addr} {fd : FuncData} (T : Txt K mg CK0 CK1 CK5 CK4 CK2 CK7 CK3 CK6) (Fn : Fun K "law" "law" s_law f fd)  (F_l_cell_at : Q0t P w K mg base 1 "_law_cell_at" (Q0x spCell)) (F_l_rule : Q0t P w K mg base 2 "_law_rule" (relSp preScr relRule)) (F_l_names : Q0t P w K mg base 1 "_law_names" (relSp preNm relNm2)) (F_l_cells : Q0t P w K mg base 2 "_law_cells" (relSp preCells relCells)) (F_l_deeds : Q0t P w K mg base 4 "_law_deeds" spDeeds) (F_l_told : Q0t P w K mg base 14 "_law_told" (spToldB CK0)) (K_Book : MakeX P w K mg base CK0 5 "Book" (Q3a CK0 CK4)) (M_Book_come : Q2A P w K mg base CK0 4 "come" (Q3c CK0 CK2 CK7)) (M_Book_go : Q2A P w K mg base CK0 4 "go" (spGoBX CK0 CK2)) (M_Book_there : Q3t P w K mg base CK0 1 "there" (Q3Z CK0)) (M_Book_ever : Q3t P w K mg base CK0 1 "ever" (spEverB CK0)) (M_Book_weights : Q3t P w K mg base CK0 1 "weights" (Q2B CK0)) (M_Book_hear : Q2A P w K mg base CK0 9 "hear" (Q3b CK0 CK2 CK5)) : FnOk P w K mg base CX0 19 f fd ["_law_script"] (toSp K spLaw) := by
 refine okF (k := 18) Fn Q2k (λ ds O R h => ?_) (λ cdv A outer s H E ds O R hr h => ?_)
 ·obtain ⟨_,rfl,_⟩ := h; rfl
 ·obtain ⟨ns,rfl,hl,hR⟩ := h
  refine Q3u ?_
  refine Q0c (x_asgE (Q1Q F_l_rule (hr.mono (by decide)) (Q0a (Q0b 0) Q0e) ⟨⟨ns,rfl⟩,λ d hd => ?_⟩))
  obtain ⟨sc,t,b,rfl,hf⟩ := hd
  have hs1 := hf.s1; have hs2 := hf.s2
  refine ⟨_,tg_tup (Q1A (Q0A 1 Q2k.nd) (Q1A (Q0A 2 Q2k.nd) (Q1A (Q0A 3 Q2k.nd) tgs_nil))),?_⟩
  refine Q0c (Q0H 4 (ev_make K_Book.ok (hr.mono (by decide)) (Q0a (Q0b 1) (Q0a (Q0b 2) (Q0a (Q0b 3) Q0e))) ⟨O.length,.i sc,.i t,.i b,rfl,st0,λ s' t' b' e1 e2 e3 _ => ?_,λ z => ?_⟩) Q2k.nd)
  rotate_left
  ·have z2 := frO_ii t b
   rw [decide_eq_true hf.t0,decide_eq_true hf.tb,decide_eq_true hf.b2] at z2
   rw [<- z2] at z
   have z : ((decide (1 <= sc) && decide (sc <= 10)) && true) = false := z
   rw [decide_eq_true hf.s1,decide_eq_true hf.s2] at z
   cases z
  injection e1 with e1; injection e2 with e2; injection e3 with e3
  subst e1; subst e2; subst e3
  refine ⟨rfl,?_⟩
  rw [sl1,List.append_assoc,show ([some (MO.ins CK0 [])] ++ [some (MO.dct [] [])] : Sto) = [some (MO.ins CK0 []),some (MO.dct [] [])] from rfl,ss0]
  have hS0 : BSt CK0 O (O ++ [some (MO.ins CK0 (Q1w sc t b (O.length + 1) 1 0)),some (MO.dct [] [])]) O.length (O.length + 1) sc t b ([],0) [] 1 0 := ⟨⟨_,rfl⟩,⟨st0,st1,rfl,List.nodup_nil⟩,by omega,⟨(λ x hx => by cases hx),by decide,by decide +kernel⟩⟩
  generalize O ++ [some (MO.ins CK0 (Q1w sc t b (O.length + 1) 1 0)),some (MO.dct [] [])] = O1 at hS0
  refine Q0c (x_asgE (Q1Q F_l_names (hr.mono (by decide)) (Q0a (Q0p F_l_cell_at (hr.mono (by decide)) (Q0a (Q0b 0) (Q0a Q0d Q0e)) ⟨_,_,rfl,by first | decide | omega,rfl⟩) (Q0a Q0d Q0e)) ⟨⟨_,6,rfl,by decide⟩,λ d hd => ?_⟩))
  obtain ⟨nm,rfl,hl6,hnm,hdf⟩ := hd
  have hl6 := hl6 _ 6 rfl
  obtain ⟨x0,g0⟩ : ∃ x,nm[0]? = some x := ⟨_,List.getElem?_eq_getElem (by omega)⟩
  obtain ⟨x1,g1⟩ : ∃ x,nm[1]? = some x := ⟨_,List.getElem?_eq_getElem (by omega)⟩
  have hne := hdf x0 x1 g0 g1
  have hx0 := hnm x0 (List.mem_of_getElem? g0)
  have hx1 := hnm x1 (List.mem_of_getElem? g1)
  have h0 : atI (nm.map D.str) 0 = some (.str x0) := Q2z (j := 0) (by rw [List.getElem?_map,g0]; rfl)
  have h1 : atI (nm.map D.str) 1 = some (.str x1) := Q2z (j := 1) (by rw [List.getElem?_map,g1]; rfl)
  refine ⟨_,Q0A 5 Q2k.nd,?_⟩
  refine Q0c (x_forE (ev_callA F_l_deeds (hr.mono (by decide)) (Q1y (Q1Q F_l_cells (hr.mono (by decide)) (Q0a (Q0b 0) (Q0a Q0d Q0e)) ⟨⟨ns,5,rfl,by decide,hl⟩,λ d hd => ?_⟩))))
  obtain ⟨cs,rfl,hcl⟩ := hd
  refine EvPs.as (Q0a (Q0b 5) (Q0a (Q0b 1) Q0e)) ⟨cs,nm,sc,rfl,hcl,hl6,hnm,hf.s1,λ L hL hLl => ?_⟩
  refine ⟨L.map dD,λ i ρ O' => ∃ (n : Nat) (ws : List Int) (u : Int) (v6 : Option D),ρ = [some (.scr (ns.map D.int)),some (.int sc),some (.int t),some (.int b),some (.ptr O.length),some (.lst (nm.map D.str)),v6,none,none,none,none] /\ BSt CK0 O O' O.length n sc t b (stA (L.take i)) ws u i /\ 1 <= u,rfl,⟨_,_,_,_,rfl,hS0,by decide⟩,?_,?_⟩
  ·rintro i z ρ O' hz ⟨n,ws,u,v6,rfl,hS,hu⟩
   rw [List.getElem?_map] at hz
   obtain ⟨d,hd,rfl⟩ := Option.map_eq_some_iff.mp hz
   have hok := hL i d hd
   have hst := dsOk_st hL i
   have htk : stA (L.take (i + 1)) = stD (stA (L.take i)) d := by rw [List.take_succ,hd]; exact Q0W _ _
   have hi : i < 63 := by have := (List.getElem?_eq_some_iff.mp hd).1; omega
   dsimp only
   rw [htk]
   clear htk hL hd hz
   generalize stA (L.take i) = st at *
   have hl20 := hst.l20
   have hle := hst.le
   refine ⟨_,Q0A 6 Q2k.nd,?_⟩
   cases d with
   | turn qs ys so =>
    obtain ⟨hD,hso⟩ := hok
    have hs : SaidB sc st.1 qs ys := ⟨hD.l,hD.nd,hD.sub,hD.on,λ x hx => hst.nm x (hD.sub x hx),by have := len_sub hD.nd hD.sub; omega⟩
    have hw0 : Wok ws := λ w hw => (hS.w.w w hw).1
    have hdd := ab_ok (mid_on (ws := ws) hs (by omega) hS.B.l hw0) hso
    refine Q0c (x_if (EvT.cast (k' := false) (Q0n (Q2Q (Q0b 6) Q0d rfl) Q0k cmp_eqS) (by decide +kernel)) (λ hk => by cases hk) (λ _ => ?_))
    refine Q0c (x_if (EvT.cast (k' := false) (Q0n (Q2Q (Q0b 6) Q0d rfl) Q0k cmp_eqS) (by decide +kernel)) (λ hk => by cases hk) (λ _ => ?_))
    refine Q0c (x_expr (Q3F M_Book_hear.ok (hr.mono (by decide)) (Q0b 4) hS.B.q (Q1b _ _ _ _ _ _ (by decide +kernel)) (Q0a (Q2Q (Q0b 6) Q0d rfl) (Q0a (Q2Q (Q0b 6) Q0d rfl) Q0e)) (.inl ⟨O.length,n,i,sc,t,b,u,_,so,st.1,qs,ws,ys,rfl,hS.B,hf,by omega,hS.w,hs,hso,by omega,?_⟩)))
    exact Q0m (Q0m (Q0m ⟨_,_,_,_,rfl,hS.hear (Nat.le_refl _) hf hs hso hdd,(u_more hu (tS_ge hf).1).1⟩))
   | come x =>
    obtain ⟨hx,hnot,hc⟩ := hok
    refine Q0c (x_if (EvT.cast (k' := true) (Q0n (Q2Q (Q0b 6) Q0d rfl) Q0k cmp_eqS) (by decide +kernel)) (λ _ => ?_) (λ hk => by cases hk))
    refine Q0c (x_expr (Q3F M_Book_come.ok (hr.mono (by decide)) (Q0b 4) hS.B.q (Q1b _ _ _ _ _ _ (by decide +kernel)) (Q0a (Q2Q (Q0b 6) Q0d rfl) Q0e) (.inl ⟨O.length,n,sc,t,b,u,_,st.1,ws,x,rfl,hS.B,hx,hnot,by omega,?_⟩)))
    exact Q0m (Q0m ⟨_,_,_,_,rfl,hS.come (Nat.le_refl _) hnot,hu⟩)
   | go x =>
    obtain ⟨hx,hin⟩ := hok
    refine Q0c (x_if (EvT.cast (k' := false) (Q0n (Q2Q (Q0b 6) Q0d rfl) Q0k cmp_eqS) (by decide +kernel)) (λ hk => by cases hk) (λ _ => ?_))
    refine Q0c (x_if (EvT.cast (k' := true) (Q0n (Q2Q (Q0b 6) Q0d rfl) Q0k cmp_eqS) (by decide +kernel)) (λ _ => ?_) (λ hk => by cases hk))
    refine Q0c (x_expr (Q3F M_Book_go.ok (hr.mono (by decide)) (Q0b 4) hS.B.q (Q1b _ _ _ _ _ _ (by decide +kernel)) (Q0a (Q2Q (Q0b 6) Q0d rfl) Q0e) (.inl ⟨O.length,n,sc,t,b,u,_,st.1,ws,x,rfl,hS.B,hx,hin,?_⟩)))
    exact Q0m (Q0m (Q0m ⟨_,_,_,_,rfl,hS.go hin,hu⟩))
  ·rintro ρ O' ⟨n,ws,u,v6,rfl,hS,hu⟩
   have hst := dsOk_st hL (L.map dD).length
   have hk : (L.map dD).length <= 63 := by rw [List.length_map]; exact hLl
   generalize (L.map dD).length = k at *
   generalize stA (L.take k) = st at *
   have hl20 := hst.l20
   have hle := hst.le
   have hK : LOk CK0 O O' O.length n sc t b st ws u k := ⟨hS,hu,hst.nm,by omega,by omega⟩
   refine xs_seq (λ ρ O2 => ∃ (n : Nat) (ws : List Int) (u : Int) (st : List Str × Nat) (k : Nat),ρ = [some (.scr (ns.map D.int)),some (.int sc),some (.int t),some (.int b),some (.ptr O.length),some (.lst (nm.map D.str)),v6,none,none,none,none] /\ LOk CK0 O O2 O.length n sc t b st ws u k /\ x0 ∈ st.1 /\ k <= 64) ?_ ?_
   ·by_cases hin : x0 ∈ st.1
    ·exact x_if (EvT.cast (k' := false) (Q0n (Q0w (Q0b 5) (by first | exact Or.inl rfl | exact Or.inr (Or.inl rfl) | exact Or.inr (Or.inr ⟨_,rfl,by first | assumption | rfl⟩)) Q0d h0) (Ev.evp (Q1o M_Book_there (hr.mono (by decide)) (Q0b 4) hK.S.B.q (Q1b _ _ _ _ _ _ (by decide +kernel)) ⟨O.length,n,sc,t,b,u,_,st.1,ws,rfl,hK.S.B,(by have := hK.l; omega),rfl,rfl⟩)) (cmp_niDT hr (Or.inl rfl) (Q2T hx0) (srt_nm hK.nm) (Nat.le_trans (Nat.min_le_left _ _) (Nat.le_trans (Q2y _) (by decide))))) (by rw [srt_any,decide_eq_true hin]; rfl)) (λ hk => by cases hk) (λ _ => Q0m ⟨_,_,_,_,_,rfl,hK,hin,by omega⟩)
    ·refine x_if (EvT.cast (k' := true) (Q0n (Q0w (Q0b 5) (by first | exact Or.inl rfl | exact Or.inr (Or.inl rfl) | exact Or.inr (Or.inr ⟨_,rfl,by first | assumption | rfl⟩)) Q0d h0) (Ev.evp (Q1o M_Book_there (hr.mono (by decide)) (Q0b 4) hK.S.B.q (Q1b _ _ _ _ _ _ (by decide +kernel)) ⟨O.length,n,sc,t,b,u,_,st.1,ws,rfl,hK.S.B,(by have := hK.l; omega),rfl,rfl⟩)) (cmp_niDT hr (Or.inl rfl) (Q2T hx0) (srt_nm hK.nm) (Nat.le_trans (Nat.min_le_left _ _) (Nat.le_trans (Q2y _) (by decide))))) (by rw [srt_any,decide_eq_false hin]; rfl)) (λ _ => ?_) (λ hk => by cases hk)
     refine Q0c (x_expr (Q3F M_Book_come.ok (hr.mono (by decide)) (Q0b 4) hS.B.q (Q1b _ _ _ _ _ _ (by decide +kernel)) (Q0a (Q0w (Q0b 5) (by first | exact Or.inl rfl | exact Or.inr (Or.inl rfl) | exact Or.inr (Or.inr ⟨_,rfl,by first | assumption | rfl⟩)) Q0d h0) Q0e) (.inl ⟨O.length,n,sc,t,b,u,_,st.1,ws,x0,rfl,hS.B,hx0,hin,by omega,?_⟩)))
     refine Q0m ⟨_,_,_,_,_,rfl,⟨hS.come (Nat.le_refl _) hin,hu,λ y hy => ?_,?_,by omega⟩,?_,Nat.succ_le_succ hk⟩
     ·rcases List.mem_append.mp hy with h | h
      ·exact hst.nm y h
      ·rw [List.mem_singleton.mp h]; exact hx0
     ·show (st.1 ++ [x0]).length <= 21
      rw [List.length_append]; show st.1.length + 1 <= 21; omega
     ·exact List.mem_append_right _ (List.mem_singleton.mpr rfl)
   clear hK hS hst hl20 hle hk hu hL
   rintro ρ O2 ⟨n,ws,u,st,k,rfl,hK,hin,hk⟩
   refine xs_seq (λ ρ O2 => ∃ (n : Nat) (ws : List Int) (u : Int) (st : List Str × Nat) (k : Nat),ρ = [some (.scr (ns.map D.int)),some (.int sc),some (.int t),some (.int b),some (.ptr O.length),some (.lst (nm.map D.str)),v6,none,none,none,none] /\ LOk CK0 O O2 O.length n sc t b st ws u k /\ x0 ∈ st.1 /\ x1 ∉ st.1) ?_ ?_
   ·by_cases hi1 : x1 ∈ st.1
    ·refine x_if (EvT.cast (k' := true) (Q0n (Q0w (Q0b 5) (by first | exact Or.inl rfl | exact Or.inr (Or.inl rfl) | exact Or.inr (Or.inr ⟨_,rfl,by first | assumption | rfl⟩)) Q0d h1) (Ev.evp (Q1o M_Book_there (hr.mono (by decide)) (Q0b 4) hK.S.B.q (Q1b _ _ _ _ _ _ (by decide +kernel)) ⟨O.length,n,sc,t,b,u,_,st.1,ws,rfl,hK.S.B,(by have := hK.l; omega),rfl,rfl⟩)) (cmp_inDT hr (Or.inl rfl) (Q2T hx1) (srt_nm hK.nm) (Nat.le_trans (Nat.min_le_left _ _) (Nat.le_trans (Q2y _) (by decide))))) (by rw [srt_any,decide_eq_true hi1])) (λ _ => ?_) (λ hk => by cases hk)
     refine Q0c (x_expr (Q3F M_Book_go.ok (hr.mono (by decide)) (Q0b 4) hK.S.B.q (Q1b _ _ _ _ _ _ (by decide +kernel)) (Q0a (Q0w (Q0b 5) (by first | exact Or.inl rfl | exact Or.inr (Or.inl rfl) | exact Or.inr (Or.inr ⟨_,rfl,by first | assumption | rfl⟩)) Q0d h1) Q0e) (.inl ⟨O.length,n,sc,t,b,u,_,st.1,ws,x1,rfl,hK.S.B,hx1,hi1,?_⟩)))
     exact Q0m ⟨_,_,_,_,_,rfl,⟨hK.S.go hi1,hK.u1,(λ y hy => hK.nm y (List.mem_of_mem_eraseIdx hy)),Nat.le_trans (List.length_eraseIdx_le ..) hK.l,by omega⟩,mem_gone hin hne,idx_gone hK.S.B.nd⟩
    ·exact x_if (EvT.cast (k' := false) (Q0n (Q0w (Q0b 5) (by first | exact Or.inl rfl | exact Or.inr (Or.inl rfl) | exact Or.inr (Or.inr ⟨_,rfl,by first | assumption | rfl⟩)) Q0d h1) (Ev.evp (Q1o M_Book_there (hr.mono (by decide)) (Q0b 4) hK.S.B.q (Q1b _ _ _ _ _ _ (by decide +kernel)) ⟨O.length,n,sc,t,b,u,_,st.1,ws,rfl,hK.S.B,(by have := hK.l; omega),rfl,rfl⟩)) (cmp_inDT hr (Or.inl rfl) (Q2T hx1) (srt_nm hK.nm) (Nat.le_trans (Nat.min_le_left _ _) (Nat.le_trans (Q2y _) (by decide))))) (by rw [srt_any,decide_eq_false hi1])) (λ hk => by cases hk) (λ _ => Q0m ⟨_,_,_,_,_,rfl,hK,hin,hi1⟩)
   clear hK hin hk
   rintro ρ O2 ⟨n,ws,u,st,k,rfl,hK,hin,hnot⟩
   refine Q0c (Q0H 7 (ev_lstA (Q1y (EvP.ev (Ev.evp (Q1o M_Book_there (hr.mono (by decide)) (Q0b 4) hK.S.B.q (Q1b _ _ _ _ _ _ (by decide +kernel)) ⟨O.length,n,sc,t,b,u,_,st.1,ws,rfl,hK.S.B,(by have := hK.l; omega),rfl,rfl⟩)) (Q1y (EvP.ev (Ev.evp (Q1o M_Book_ever (hr.mono (by decide)) (Q0b 4) hK.S.B.q (Q1b _ _ _ _ _ _ (by decide +kernel)) ⟨O.length,n,sc,t,b,u,_,st.1,ws,rfl,hK.S.B,rfl,rfl⟩)) (Q1y (Q1o M_Book_weights (hr.mono (by decide)) (Q0b 4) hK.S.B.q (Q1b _ _ _ _ _ _ (by decide +kernel)) ⟨O.length,n,sc,t,b,u,_,st.1,ws,rfl,hK.S.B,EvPs.as Q0e ⟨(by rw [sizeLine_eq]; show 3 <= 16777216; decide),?_⟩⟩))))))) Q2k.nd)
   have hA : (O2 ++ [some (MO.dct (st.1.map Sum.inr) (ws.map D.int))])[O2.length]? = some (some (MO.dct (st.1.map Sum.inr) (ws.map D.int))) := st0
   have hnA : n ≠ O2.length := by have := at_lt hK.S.B.n; omega
   have hqA : O.length ≠ O2.length := by have := at_lt hK.S.B.q; omega
   have hK : LOk CK0 O (O2 ++ [some (MO.dct (st.1.map Sum.inr) (ws.map D.int))]) O.length n sc t b st ws u k := ⟨hK.S.app _,hK.u1,hK.nm,hK.l,hK.k⟩
   generalize O2 ++ [some (MO.dct (st.1.map Sum.inr) (ws.map D.int))] = O3 at hA hK
   generalize O2.length = A at hA hnA hqA
   have hndk : (st.1.map (Sum.inr : Str -> Key)).Nodup := List.Pairwise.map _ (λ a b h z => h (Sum.inr.inj z)) hK.S.B.nd
   refine Q0c (x_for (ei_LF (Q0Q (Q0a Q0d (Q0a Q0d (Q0a Q0d Q0e)))) (by first | exact Or.inl rfl | exact Or.inr (Or.inl rfl) | exact Or.inr (Or.inr rfl) | assumption)) (λ i ρ O' => ∃ (v8 v9 v10 : Option D),ρ = [some (.scr (ns.map D.int)),some (.int sc),some (.int t),some (.int b),some (.ptr O.length),some (.lst (nm.map D.str)),v6,some (.lst [.tup ((srt ltS st.1).map D.str),.int ((st.2 : Nat) : Int),.tup [.ptr A,.int u]]),v8,v9,v10] /\ LOk CK0 O O' O.length n sc t b st ws u k /\ O'[A]? = some (some (MO.dct (st.1.map Sum.inr) (ws.map D.int)))) ⟨_,_,_,rfl,hK,hA⟩ ?_ ?_)
   ·clear hK hA
    rintro i z ρ O' hz ⟨v8,v9,v10,rfl,hK,hA⟩
    obtain ⟨j,rfl,hj⟩ : ∃ j : Int,z = .int j /\ 0 <= j := by
     have := List.mem_of_getElem? hz
     rcases List.mem_cons.mp this with rfl | h
     ·exact ⟨3,rfl,by decide⟩
     rcases List.mem_cons.mp h with rfl | h
     ·exact ⟨4,rfl,by decide⟩
     exact ⟨3,List.mem_singleton.mp h,by decide⟩
    refine ⟨_,Q0A 8 Q2k.nd,?_⟩
    refine Q0c (Q0H 9 (EvP.ev (Q0j (Q0p F_l_cell_at (hr.mono (by decide)) (Q0a (Q0b 0) (Q0a (Q0b 8) Q0e)) ⟨ns,j,rfl,hj,rfl⟩) Q0d (Q1p (by first | decide | omega))) ?_) Q2k.nd)
    obtain ⟨w,ew,hw14⟩ : ∃ w : Nat,cellAt ns j % 14 = (w : Nat) /\ w < 14 := ⟨(cellAt ns j % 14).toNat,by omega,by omega⟩
    rw [ew]
    obtain ⟨dz,hdz,hd8⟩ := due_8 hw14
    refine Q0c (Q0H 10 (EvP.ev (Q0w (Q0Q (Q0a Q0k (Q0a Q0k (Q0a Q0k (Q0a Q0k (Q0a Q0k (Q0a Q0k (Q0a Q0k (Q0a Q0k Q0e))))))))) (by first | exact Or.inl rfl | exact Or.inr (Or.inl rfl) | exact Or.inr (Or.inr ⟨_,rfl,by first | assumption | rfl⟩)) (Q0j (Q0b 9) Q0d (Q1p (by first | decide | omega))) hdz) ?_) Q2k.nd)
    refine xs_seq (λ ρ O2 => O2 = O' /\ ρ = [some (.scr (ns.map D.int)),some (.int sc),some (.int t),some (.int b),some (.ptr O.length),some (.lst (nm.map D.str)),v6,some (.lst [.tup ((srt ltS st.1).map D.str),.int ((st.2 : Nat) : Int),.tup [.ptr A,.int u]]),some (.int j),some (.int (w : Nat)),some (.str (dueS w))]) ?_ ?_
    ·by_cases hw8 : w < 8
     ·rw [hd8 hw8]
      exact x_if (EvT.cast (k' := false) (Q0n (Q0b 9) Q0d cmp_gt) (decide_eq_false (by omega))) (λ hk => by cases hk) (λ _ => Q0m ⟨rfl,rfl⟩)
     ·refine x_if (EvT.cast (k' := true) (Q0n (Q0b 9) Q0d cmp_gt) (decide_eq_true (by omega))) (λ _ => ?_) (λ hk => by cases hk)
      refine Q0c (Q0H 10 (EvP.ev (Q0w (Q0Q (Q0a Q0k (Q0a Q0k (Q0a Q0k (Q0a Q0k (Q0a Q0k (Q0a Q0k Q0e))))))) (by first | exact Or.inl rfl | exact Or.inr (Or.inl rfl) | exact Or.inr (Or.inr ⟨_,rfl,by first | assumption | rfl⟩)) (Q0j (Q0b 9) Q0d o_sub) (due_14 hw14 (by omega))) ?_) Q2k.nd)
      exact Q0m ⟨rfl,rfl⟩
    rintro ρ O2 ⟨hO,rfl⟩
    subst hO
    have hw0 : Wok ws := λ w hw => (hK.S.w.w w hw).1
    refine Q0c (x_if (EvT.cast (k' := false) (Q0n (Ev.evp (Q1Q F_l_told (hr.mono (by decide)) (Q0a (Q0b 4) (Q0a (Q0b 9) (Q0a (Q0b 5) (Q0a (Q0j (Q0p F_l_cell_at (hr.mono (by decide)) (Q0a (Q0b 0) (Q0a (Q0b 8) Q0e)) ⟨ns,j,rfl,hj,rfl⟩) Q0d (Q3U ⟨(by first | decide | omega),(by first | decide | omega)⟩)) (Q0a (Q0b 1) Q0e))))) ⟨O.length,n,w,sc,t,b,u,_,_,st.1,nm,ws,x0,x1,rfl,hw14,hK.S.B,hw0,⟨hs1,hs2⟩,g0,g1,hx0,hx1,hne,hin,hnot,rfl,rfl⟩)) (Q0b 10) cmp_neS) (by simp)) (λ hk => by cases hk) (λ _ => Q0m ?_))
    refine Q0c (x_ifE (R := λ k O4 => k = false /\ O4 = O2 ++ [some (MO.dct (st.1.map Sum.inr) (ws.map D.int))]) (et_cmpEE (Ra := λ d O4 => d = .lst [.tup ((srt ltS st.1).map D.str),.int ((st.2 : Nat) : Int),.tup [.ptr O2.length,.int u]] /\ O4 = O2 ++ [some (MO.dct (st.1.map Sum.inr) (ws.map D.int))]) (ev_lstA (Q1y (EvP.ev (Ev.evp (Q1o M_Book_there (hr.mono (by decide)) (Q0b 4) hK.S.B.q (Q1b _ _ _ _ _ _ (by decide +kernel)) ⟨O.length,n,sc,t,b,u,_,st.1,ws,rfl,hK.S.B,(by have := hK.l; omega),rfl,rfl⟩)) (Q1y (EvP.ev (Ev.evp (Q1o M_Book_ever (hr.mono (by decide)) (Q0b 4) hK.S.B.q (Q1b _ _ _ _ _ _ (by decide +kernel)) ⟨O.length,n,sc,t,b,u,_,st.1,ws,rfl,hK.S.B,rfl,rfl⟩)) (Q1y (Q1o M_Book_weights (hr.mono (by decide)) (Q0b 4) hK.S.B.q (Q1b _ _ _ _ _ _ (by decide +kernel)) ⟨O.length,n,sc,t,b,u,_,st.1,ws,rfl,hK.S.B,EvPs.as Q0e ⟨(by rw [sizeLine_eq]; show 3 <= 16777216; decide),rfl,rfl⟩⟩))))))) (λ da O4 h => EvP.ev (Q0b 7) ⟨false,by
     obtain ⟨rfl,rfl⟩ := h
     exact cmp_neLK hr (srt_nm hK.nm) (by show dpDs _ + 1 <= 50; have := Q2y (srt ltS st.1); omega) (eq_tup _) (.inl (Or.inr ⟨_,rfl,st0⟩)) (.inl (Or.inr ⟨_,rfl,Q1z hA⟩)) hndk,rfl,h.2⟩)) (λ k O4 h => ⟨λ hk => absurd (h.1.symm.trans hk) Bool.false_ne_true,λ _ => Q0m ?_⟩))
    obtain ⟨_,rfl⟩ := h
    exact Q0m ⟨_,_,_,rfl,⟨hK.S.app _,hK.u1,hK.nm,hK.l,hK.k⟩,Q1z hA⟩
   ·clear hK hA
    rintro ρ O' ⟨v8,v9,v10,rfl,hK,hA⟩
    have hs : SaidB sc st.1 [x0] [0] := ⟨rfl,by simp,(λ y hy => by rw [List.mem_singleton.mp hy]; exact hin),(λ y hy => by rw [List.mem_singleton.mp hy]; omega),(λ y hy => by rw [List.mem_singleton.mp hy]; exact hx0),by show 1 <= 60; decide⟩
    have hw0 : Wok ws := λ w hw => (hK.S.w.w w hw).1
    have hdd := ab_ok (mid_on (ws := ws) hs (by omega) hK.S.B.l hw0) (show 0 <= sc /\ sc <= sc by omega)
    refine Q0c (x_expr (Q3F M_Book_hear.ok (hr.mono (by decide)) (Q0b 4) hK.S.B.q (Q1b _ _ _ _ _ _ (by decide +kernel)) (Q0a (ev_fz (ks := [.inr x0]) (xs := [.int 0]) rfl (Q2N (k := .inr x0) (Q0w (Q0b 5) (by first | exact Or.inl rfl | exact Or.inr (Or.inl rfl) | exact Or.inr (Or.inr ⟨_,rfl,by first | assumption | rfl⟩)) Q0d h0) Q0d ⟨rfl,rfl⟩)) (Q0a (Q0b 1) Q0e)) (.inl ⟨O.length,n,k,sc,t,b,u,_,sc,st.1,[x0],ws,[0],rfl,hK.S.B,hf,by have := hK.k; omega,hK.S.w,hs,by omega,by have := hK.l; omega,?_⟩)))
    have hS4 := hK.S.hear (Nat.le_refl _) hf hs (show 0 <= sc /\ sc <= sc by omega) hdd
    have hT := tS_ge (dd := ab (midB st.1 ws [x0] [0] - sc)) hf
    have hu := u_more hK.u1 hT.1
    generalize (O'.set n none).set _ _ ++ _ = O4 at hS4 ⊢
    refine Q0c (Q0N (EvP.ev (EvP.cast (d' := .bl true) (ev_or (ev_cmp (Ev.keep (ev_ixE (Ra := λ d O5 => d = .tup [.ptr O4.length,.int (u * tS t b sc (ab (midB st.1 ws [x0] [0] - sc)))] /\ ∃ Y,O5 = O4 ++ Y) (Q1o M_Book_weights (hr.mono (by decide)) (Q0b 4) hS4.B.q (Q1b _ _ _ _ _ _ (by decide +kernel)) ⟨O.length,_,sc,t,b,_,_,_,_,rfl,hS4.B,rfl,_,rfl⟩) (λ da O5 h => ⟨_,1,_,h.1,Q0d,rfl,h.2,rfl,rfl⟩))) (Q2Q (Q0w (Q0b 7) (by first | exact Or.inl rfl | exact Or.inr (Or.inl rfl) | exact Or.inr (Or.inr ⟨_,rfl,by first | assumption | rfl⟩)) Q0d rfl) Q0d rfl) cmp_gt) (λ _ => ev_one (ev_cmp (Q0b 3) Q0d Q0v))) ?_) ⟨hS4.up,rfl,hR⟩))
    by_cases hb : b = 1
    ·rw [decide_eq_true hb,Bool.or_true]
    ·rw [decide_eq_true (show u < u * tS t b sc (ab (midB st.1 ws [x0] [0] - sc)) from hu.2 (hT.2 hb)),Bool.true_or]
end
theorem len1 {α : Type} {us : List α} (h : us.length = 1) : ∃ x0,us = [x0] := by
 match us,h with
 | [x0],_ => exact ⟨_,rfl⟩
theorem len2 {α : Type} {us : List α} (h : us.length = 2) : ∃ x0 x1,us = [x0,x1] := by
 match us,h with
 | [x0,x1],_ => exact ⟨_,_,rfl⟩
theorem len3 {α : Type} {us : List α} (h : us.length = 3) : ∃ x0 x1 x2,us = [x0,x1,x2] := by
 match us,h with
 | [x0,x1,x2],_ => exact ⟨_,_,_,rfl⟩
theorem len4 {α : Type} {us : List α} (h : us.length = 4) : ∃ x0 x1 x2 x3,us = [x0,x1,x2,x3] := by
 match us,h with
 | [x0,x1,x2,x3],_ => exact ⟨_,_,_,_,rfl⟩
theorem len5 {α : Type} {us : List α} (h : us.length = 5) : ∃ x0 x1 x2 x3 x4,us = [x0,x1,x2,x3,x4] := by
 match us,h with
 | [x0,x1,x2,x3,x4],_ => exact ⟨_,_,_,_,_,rfl⟩
theorem all_mk {l : PySem.W.OpenLaw} {w : World} {K : PySem.W.Frag} {h : Heap} {mg : Str -> Option Value} {fa : Addr} (X : K.In h) (G : h.Ns mainGlobals mg) (hfa : mg "law" = some (.ref fa)) {f0 : Addr} {od0 an0 : Option Addr} {sl0 : Array (Option Value)} {oc0 kV0 dc0 pm0 cd0 ct0 : Value} {f1 : Addr} {od1 an1 : Option Addr} {sl1 : Array (Option Value)} {oc1 kV1 dc1 pm1 cd1 ct1 : Value} {f2 : Addr} {od2 an2 : Option Addr} {sl2 : Array (Option Value)} {oc2 kV2 dc2 pm2 cd2 ct2 : Value} {f3 : Addr} {od3 an3 : Option Addr} {sl3 : Array (Option Value)} {oc3 kV3 dc3 pm3 cd3 ct3 : Value} {f4 : Addr} {od4 an4 : Option Addr} {sl4 : Array (Option Value)} {oc4 kV4 dc4 pm4 cd4 ct4 : Value} {f5 : Addr} {od5 an5 : Option Addr} {sl5 : Array (Option Value)} {oc5 kV5 dc5 pm5 cd5 ct5 : Value} {f6 : Addr} {od6 an6 : Option Addr} {sl6 : Array (Option Value)} {oc6 kV6 dc6 pm6 cd6 ct6 : Value} {f7 : Addr} {od7 an7 : Option Addr} {sl7 : Array (Option Value)} {oc7 kV7 dc7 pm7 cd7 ct7 : Value} {f8 : Addr} {od8 an8 : Option Addr} {sl8 : Array (Option Value)} {oc8 kV8 dc8 pm8 cd8 ct8 : Value} {f9 : Addr} {od9 an9 : Option Addr} {sl9 : Array (Option Value)} {oc9 kV9 dc9 pm9 cd9 ct9 : Value} {f10 : Addr} {od10 an10 : Option Addr} {sl10 : Array (Option Value)} {oc10 kV10 dc10 pm10 cd10 ct10 : Value} {f11 : Addr} {od11 an11 : Option Addr} {sl11 : Array (Option Value)} {oc11 kV11 dc11 pm11 cd11 ct11 : Value} {f12 : Addr} {od12 an12 : Option Addr} {sl12 : Array (Option Value)} {oc12 kV12 dc12 pm12 cd12 ct12 : Value} {f13 : Addr} {od13 an13 : Option Addr} {sl13 : Array (Option Value)} {oc13 kV13 dc13 pm13 cd13 ct13 : Value} {f14 : Addr} {od14 an14 : Option Addr} {sl14 : Array (Option Value)} {oc14 kV14 dc14 pm14 cd14 ct14 : Value} {f15 : Addr} {od15 an15 : Option Addr} {sl15 : Array (Option Value)} {oc15 kV15 dc15 pm15 cd15 ct15 : Value} {f16 : Addr} {od16 an16 : Option Addr} {sl16 : Array (Option Value)} {oc16 kV16 dc16 pm16 cd16 ct16 : Value} {f17 : Addr} {od17 an17 : Option Addr} {sl17 : Array (Option Value)} {oc17 kV17 dc17 pm17 cd17 ct17 : Value} {f18 : Addr} {od18 an18 : Option Addr} {sl18 : Array (Option Value)} {oc18 kV18 dc18 pm18 cd18 ct18 : Value} {f19 : Addr} {od19 an19 : Option Addr} {sl19 : Array (Option Value)} {oc19 kV19 dc19 pm19 cd19 ct19 : Value} {f20 : Addr} {od20 an20 : Option Addr} {sl20 : Array (Option Value)} {oc20 kV20 dc20 pm20 cd20 ct20 : Value} {f21 : Addr} {od21 an21 : Option Addr} {sl21 : Array (Option Value)} {oc21 kV21 dc21 pm21 cd21 ct21 : Value} {f22 : Addr} {od22 an22 : Option Addr} {sl22 : Array (Option Value)} {oc22 kV22 dc22 pm22 cd22 ct22 : Value} {f23 : Addr} {od23 an23 : Option Addr} {sl23 : Array (Option Value)} {oc23 kV23 dc23 pm23 cd23 ct23 : Value} {f24 : Addr} {od24 an24 : Option Addr} {sl24 : Array (Option Value)} {oc24 kV24 dc24 pm24 cd24 ct24 : Value} {f25 : Addr} {od25 an25 : Option Addr} {sl25 : Array (Option Value)} {oc25 kV25 dc25 pm25 cd25 ct25 : Value} {f26 : Addr} {od26 an26 : Option Addr} {sl26 : Array (Option Value)} {oc26 kV26 dc26 pm26 cd26 ct26 : Value} {f27 : Addr} {od27 an27 : Option Addr} {sl27 : Array (Option Value)} {oc27 kV27 dc27 pm27 cd27 ct27 : Value} {f28 : Addr} {od28 an28 : Option Addr} {sl28 : Array (Option Value)} {oc28 kV28 dc28 pm28 cd28 ct28 : Value} {f29 : Addr} {od29 an29 : Option Addr} {sl29 : Array (Option Value)} {oc29 kV29 dc29 pm29 cd29 ct29 : Value} {f30 : Addr} {od30 an30 : Option Addr} {sl30 : Array (Option Value)} {oc30 kV30 dc30 pm30 cd30 ct30 : Value} {f31 : Addr} {od31 an31 : Option Addr} {sl31 : Array (Option Value)} {oc31 kV31 dc31 pm31 cd31 ct31 : Value} {f32 : Addr} {od32 an32 : Option Addr} {sl32 : Array (Option Value)} {oc32 kV32 dc32 pm32 cd32 ct32 : Value} {f33 : Addr} {od33 an33 : Option Addr} {sl33 : Array (Option Value)} {oc33 kV33 dc33 pm33 cd33 ct33 : Value} {f34 : Addr} {od34 an34 : Option Addr} {sl34 : Array (Option Value)} {oc34 kV34 dc34 pm34 cd34 ct34 : Value} {f35 : Addr} {od35 an35 : Option Addr} {sl35 : Array (Option Value)} {oc35 kV35 dc35 pm35 cd35 ct35 : Value} {f36 : Addr} {od36 an36 : Option Addr} {sl36 : Array (Option Value)} {oc36 kV36 dc36 pm36 cd36 ct36 : Value} {f37 : Addr} {od37 an37 : Option Addr} {sl37 : Array (Option Value)} {oc37 kV37 dc37 pm37 cd37 ct37 : Value} {f38 : Addr} {od38 an38 : Option Addr} {sl38 : Array (Option Value)} {oc38 kV38 dc38 pm38 cd38 ct38 : Value} {CK0 CK1 CK5 CK4 CK2 CK7 CK3 CK6 : Addr} {tk0 : Tok} {tk1 : Tok} {tk2 : Tok} {tk3 : Tok} {nm_NoTurn qn_NoTurn : Str} {N_NoTurn : Addr} {bs_NoTurn sub_NoTurn : List Value} {sn_NoTurn : List Str} {ab_NoTurn : Bool} {col_NoTurn : Option Bool} {dd_NoTurn : Option Addr} {ka_NoTurn kb_NoTurn kc_NoTurn kd_NoTurn ke_NoTurn : Option Value}
  (aC0 : PySem.W.nsIn K mainGlobals "Book" = some (some (.ref CK0)))
  (aE_HeedError : PySem.W.nsIn K mainGlobals "HeedError" = some (some (.ref CK1)))
  (aE_NoTurn : PySem.W.nsIn K mainGlobals "NoTurn" = some (some (.ref CK5)))
  (aE_NoRule : PySem.W.nsIn K mainGlobals "NoRule" = some (some (.ref CK4)))
  (aE_NoName : PySem.W.nsIn K mainGlobals "NoName" = some (some (.ref CK2)))
  (aE_Twice : PySem.W.nsIn K mainGlobals "Twice" = some (some (.ref CK7)))
  (aE_NoRow : PySem.W.nsIn K mainGlobals "NoRow" = some (some (.ref CK3)))
  (aE_NoWay : PySem.W.nsIn K mainGlobals "NoWay" = some (some (.ref CK6)))
  (a0 : PySem.W.findIn K (.ref CK5) "__init__" = some (some (.ref f0)))
  (i0 : PySem.W.isFn K (.ref f0) = true)
  (l0 : K.lookup f0 = some ⟨oc0,od0,.func (PySem.W.fnOf "__init__" "NoTurn.__init__" (Q0q Q0C) (Q0l Q0C) (Q0f Q0C) .none kV0 dc0 pm0 an0 cd0 ct0),sl0⟩)
  (c0 : PySem.W.codeIn K cd0 "NoTurn.__init__" = true)
  (k0 : PySem.W.keepIn K (.ref f0) = true)
  (a1 : PySem.W.nsIn K mainGlobals "is_whole" = some (some (.ref f1)))
  (l1 : K.lookup f1 = some ⟨oc1,od1,.func (PySem.W.fnOf "is_whole" "is_whole" (Q0q Q1D) (Q0l Q1D) (Q0f Q1D) .none kV1 dc1 pm1 an1 cd1 ct1),sl1⟩)
  (c1 : PySem.W.codeIn K cd1 "is_whole" = true)
  (k1 : PySem.W.keepIn K (.ref f1) = true)
  (a2 : PySem.W.nsIn K mainGlobals "check_within" = some (some (.ref f2)))
  (l2 : K.lookup f2 = some ⟨oc2,od2,.func (PySem.W.fnOf "check_within" "check_within" (Q0q Q0U) (Q0l Q0U) (Q0f Q0U) .none kV2 dc2 pm2 an2 cd2 ct2),sl2⟩)
  (c2 : PySem.W.codeIn K cd2 "check_within" = true)
  (k2 : PySem.W.keepIn K (.ref f2) = true)
  (a3 : PySem.W.nsIn K mainGlobals "check_scale" = some (some (.ref f3)))
  (l3 : K.lookup f3 = some ⟨oc3,od3,.func (PySem.W.fnOf "check_scale" "check_scale" (Q0q Q1g) (Q0l Q1g) (Q0f Q1g) .none kV3 dc3 pm3 an3 cd3 ct3),sl3⟩)
  (c3 : PySem.W.codeIn K cd3 "check_scale" = true)
  (k3 : PySem.W.keepIn K (.ref f3) = true)
  (a4 : PySem.W.nsIn K mainGlobals "check_fraction" = some (some (.ref f4)))
  (l4 : K.lookup f4 = some ⟨oc4,od4,.func (PySem.W.fnOf "check_fraction" "check_fraction" (Q0q Q0J) (Q0l Q0J) (Q0f Q0J) .none kV4 dc4 pm4 an4 cd4 ct4),sl4⟩)
  (c4 : PySem.W.codeIn K cd4 "check_fraction" = true)
  (k4 : PySem.W.keepIn K (.ref f4) = true)
  (a5 : PySem.W.nsIn K mainGlobals "is_on_scale" = some (some (.ref f5)))
  (l5 : K.lookup f5 = some ⟨oc5,od5,.func (PySem.W.fnOf "is_on_scale" "is_on_scale" (Q0q Q1e) (Q0l Q1e) (Q0f Q1e) .none kV5 dc5 pm5 an5 cd5 ct5),sl5⟩)
  (c5 : PySem.W.codeIn K cd5 "is_on_scale" = true)
  (k5 : PySem.W.keepIn K (.ref f5) = true)
  (a6 : PySem.W.nsIn K mainGlobals "is_name" = some (some (.ref f6)))
  (l6 : K.lookup f6 = some ⟨oc6,od6,.func (PySem.W.fnOf "is_name" "is_name" (Q0q Q1V) (Q0l Q1V) (Q0f Q1V) .none kV6 dc6 pm6 an6 cd6 ct6),sl6⟩)
  (c6 : PySem.W.codeIn K cd6 "is_name" = true)
  (k6 : PySem.W.keepIn K (.ref f6) = true)
  (a7 : PySem.W.nsIn K mainGlobals "check_name" = some (some (.ref f7)))
  (l7 : K.lookup f7 = some ⟨oc7,od7,.func (PySem.W.fnOf "check_name" "check_name" (Q0q Q1l) (Q0l Q1l) (Q0f Q1l) .none kV7 dc7 pm7 an7 cd7 ct7),sl7⟩)
  (c7 : PySem.W.codeIn K cd7 "check_name" = true)
  (k7 : PySem.W.keepIn K (.ref f7) = true)
  (a8 : PySem.W.nsIn K mainGlobals "check_there" = some (some (.ref f8)))
  (l8 : K.lookup f8 = some ⟨oc8,od8,.func (PySem.W.fnOf "check_there" "check_there" (Q0q Q1f) (Q0l Q1f) (Q0f Q1f) .none kV8 dc8 pm8 an8 cd8 ct8),sl8⟩)
  (c8 : PySem.W.codeIn K cd8 "check_there" = true)
  (k8 : PySem.W.keepIn K (.ref f8) = true)
  (a9 : PySem.W.nsIn K mainGlobals "check_speakers" = some (some (.ref f9)))
  (l9 : K.lookup f9 = some ⟨oc9,od9,.func (PySem.W.fnOf "check_speakers" "check_speakers" (Q0q Q0I) (Q0l Q0I) (Q0f Q0I) .none kV9 dc9 pm9 an9 cd9 ct9),sl9⟩)
  (c9 : PySem.W.codeIn K cd9 "check_speakers" = true)
  (k9 : PySem.W.keepIn K (.ref f9) = true)
  (a10 : PySem.W.nsIn K mainGlobals "check_numbers" = some (some (.ref f10)))
  (l10 : K.lookup f10 = some ⟨oc10,od10,.func (PySem.W.fnOf "check_numbers" "check_numbers" (Q0q Q0O) (Q0l Q0O) (Q0f Q0O) .none kV10 dc10 pm10 an10 cd10 ct10),sl10⟩)
  (c10 : PySem.W.codeIn K cd10 "check_numbers" = true)
  (k10 : PySem.W.keepIn K (.ref f10) = true)
  (a11 : PySem.W.nsIn K mainGlobals "counted" = some (some (.ref f11)))
  (l11 : K.lookup f11 = some ⟨oc11,od11,.func (PySem.W.fnOf "counted" "counted" (Q0q Q1W) (Q0l Q1W) (Q0f Q1W) .none kV11 dc11 pm11 an11 cd11 ct11),sl11⟩)
  (c11 : PySem.W.codeIn K cd11 "counted" = true)
  (k11 : PySem.W.keepIn K (.ref f11) = true)
  (a12 : PySem.W.nsIn K mainGlobals "middle" = some (some (.ref f12)))
  (l12 : K.lookup f12 = some ⟨oc12,od12,.func (PySem.W.fnOf "middle" "middle" (Q0q Q2E) (Q0l Q2E) (Q0f Q2E) .none kV12 dc12 pm12 an12 cd12 ct12),sl12⟩)
  (c12 : PySem.W.codeIn K cd12 "middle" = true)
  (k12 : PySem.W.keepIn K (.ref f12) = true)
  (a13 : PySem.W.nsIn K mainGlobals "power" = some (some (.ref f13)))
  (l13 : K.lookup f13 = some ⟨oc13,od13,.func (PySem.W.fnOf "power" "power" (Q0q Q3x) (Q0l Q3x) (Q0f Q3x) .none kV13 dc13 pm13 an13 cd13 ct13),sl13⟩)
  (c13 : PySem.W.codeIn K cd13 "power" = true)
  (k13 : PySem.W.keepIn K (.ref f13) = true)
  (a14 : PySem.W.nsIn K mainGlobals "charge" = some (some (.ref f14)))
  (l14 : K.lookup f14 = some ⟨oc14,od14,.func (PySem.W.fnOf "charge" "charge" (Q0q Q2J) (Q0l Q2J) (Q0f Q2J) .none kV14 dc14 pm14 an14 cd14 ct14),sl14⟩)
  (c14 : PySem.W.codeIn K cd14 "charge" = true)
  (k14 : PySem.W.keepIn K (.ref f14) = true)
  (a15 : PySem.W.nsIn K mainGlobals "times_awake" = some (some (.ref f15)))
  (l15 : K.lookup f15 = some ⟨oc15,od15,.func (PySem.W.fnOf "times_awake" "times_awake" (Q0q Q1d) (Q0l Q1d) (Q0f Q1d) .none kV15 dc15 pm15 an15 cd15 ct15),sl15⟩)
  (c15 : PySem.W.codeIn K cd15 "times_awake" = true)
  (k15 : PySem.W.keepIn K (.ref f15) = true)
  (a16 : PySem.W.nsIn K mainGlobals "times_asleep" = some (some (.ref f16)))
  (l16 : K.lookup f16 = some ⟨oc16,od16,.func (PySem.W.fnOf "times_asleep" "times_asleep" (Q0q Q0S) (Q0l Q0S) (Q0f Q0S) .none kV16 dc16 pm16 an16 cd16 ct16),sl16⟩)
  (c16 : PySem.W.codeIn K cd16 "times_asleep" = true)
  (k16 : PySem.W.keepIn K (.ref f16) = true)
  (a17 : PySem.W.nsIn K mainGlobals "times" = some (some (.ref f17)))
  (l17 : K.lookup f17 = some ⟨oc17,od17,.func (PySem.W.fnOf "times" "times" (Q0q Q3w) (Q0l Q3w) (Q0f Q3w) .none kV17 dc17 pm17 an17 cd17 ct17),sl17⟩)
  (c17 : PySem.W.codeIn K cd17 "times" = true)
  (k17 : PySem.W.keepIn K (.ref f17) = true)
  (a18 : PySem.W.findIn K (.ref CK0) "__init__" = some (some (.ref f18)))
  (i18 : PySem.W.isFn K (.ref f18) = true)
  (l18 : K.lookup f18 = some ⟨oc18,od18,.func (PySem.W.fnOf "__init__" "Book.__init__" (Q0q Q0P) (Q0l Q0P) (Q0f Q0P) .none kV18 dc18 pm18 an18 cd18 ct18),sl18⟩)
  (c18 : PySem.W.codeIn K cd18 "Book.__init__" = true)
  (k18 : PySem.W.keepIn K (.ref f18) = true)
  (a19 : PySem.W.findIn K (.ref CK0) "come" = some (some (.ref f19)))
  (i19 : PySem.W.isFn K (.ref f19) = true)
  (l19 : K.lookup f19 = some ⟨oc19,od19,.func (PySem.W.fnOf "come" "Book.come" (Q0q Q1v) (Q0l Q1v) (Q0f Q1v) .none kV19 dc19 pm19 an19 cd19 ct19),sl19⟩)
  (c19 : PySem.W.codeIn K cd19 "Book.come" = true)
  (k19 : PySem.W.keepIn K (.ref f19) = true)
  (a20 : PySem.W.findIn K (.ref CK0) "go" = some (some (.ref f20)))
  (i20 : PySem.W.isFn K (.ref f20) = true)
  (l20 : K.lookup f20 = some ⟨oc20,od20,.func (PySem.W.fnOf "go" "Book.go" (Q0q Q1X) (Q0l Q1X) (Q0f Q1X) .none kV20 dc20 pm20 an20 cd20 ct20),sl20⟩)
  (c20 : PySem.W.codeIn K cd20 "Book.go" = true)
  (k20 : PySem.W.keepIn K (.ref f20) = true)
  (a21 : PySem.W.findIn K (.ref CK0) "there" = some (some (.ref f21)))
  (i21 : PySem.W.isFn K (.ref f21) = true)
  (l21 : K.lookup f21 = some ⟨oc21,od21,.func (PySem.W.fnOf "there" "Book.there" (Q0q Q1m) (Q0l Q1m) (Q0f Q1m) .none kV21 dc21 pm21 an21 cd21 ct21),sl21⟩)
  (c21 : PySem.W.codeIn K cd21 "Book.there" = true)
  (k21 : PySem.W.keepIn K (.ref f21) = true)
  (a22 : PySem.W.findIn K (.ref CK0) "ever" = some (some (.ref f22)))
  (i22 : PySem.W.isFn K (.ref f22) = true)
  (l22 : K.lookup f22 = some ⟨oc22,od22,.func (PySem.W.fnOf "ever" "Book.ever" (Q0q Q1u) (Q0l Q1u) (Q0f Q1u) .none kV22 dc22 pm22 an22 cd22 ct22),sl22⟩)
  (c22 : PySem.W.codeIn K cd22 "Book.ever" = true)
  (k22 : PySem.W.keepIn K (.ref f22) = true)
  (a23 : PySem.W.findIn K (.ref CK0) "weights" = some (some (.ref f23)))
  (i23 : PySem.W.isFn K (.ref f23) = true)
  (l23 : K.lookup f23 = some ⟨oc23,od23,.func (PySem.W.fnOf "weights" "Book.weights" (Q0q Q0V) (Q0l Q0V) (Q0f Q0V) .none kV23 dc23 pm23 an23 cd23 ct23),sl23⟩)
  (c23 : PySem.W.codeIn K cd23 "Book.weights" = true)
  (k23 : PySem.W.keepIn K (.ref f23) = true)
  (a24 : PySem.W.findIn K (.ref CK0) "say" = some (some (.ref f24)))
  (i24 : PySem.W.isFn K (.ref f24) = true)
  (l24 : K.lookup f24 = some ⟨oc24,od24,.func (PySem.W.fnOf "say" "Book.say" (Q0q Q1E) (Q0l Q1E) (Q0f Q1E) .none kV24 dc24 pm24 an24 cd24 ct24),sl24⟩)
  (c24 : PySem.W.codeIn K cd24 "Book.say" = true)
  (k24 : PySem.W.keepIn K (.ref f24) = true)
  (a25 : PySem.W.findIn K (.ref CK0) "charge_for" = some (some (.ref f25)))
  (i25 : PySem.W.isFn K (.ref f25) = true)
  (l25 : K.lookup f25 = some ⟨oc25,od25,.func (PySem.W.fnOf "charge_for" "Book.charge_for" (Q0q Q0D) (Q0l Q0D) (Q0f Q0D) .none kV25 dc25 pm25 an25 cd25 ct25),sl25⟩)
  (c25 : PySem.W.codeIn K cd25 "Book.charge_for" = true)
  (k25 : PySem.W.keepIn K (.ref f25) = true)
  (a26 : PySem.W.findIn K (.ref CK0) "hear" = some (some (.ref f26)))
  (i26 : PySem.W.isFn K (.ref f26) = true)
  (l26 : K.lookup f26 = some ⟨oc26,od26,.func (PySem.W.fnOf "hear" "Book.hear" (Q0q Q1t) (Q0l Q1t) (Q0f Q1t) .none kV26 dc26 pm26 an26 cd26 ct26),sl26⟩)
  (c26 : PySem.W.codeIn K cd26 "Book.hear" = true)
  (k26 : PySem.W.keepIn K (.ref f26) = true)
  (a27 : PySem.W.nsIn K mainGlobals "_law_cell_at" = some (some (.ref f27)))
  (l27 : K.lookup f27 = some ⟨oc27,od27,.func (PySem.W.fnOf "_law_cell_at" "_law_cell_at" (Q0q Q1s) (Q0l Q1s) (Q0f Q1s) .none kV27 dc27 pm27 an27 cd27 ct27),sl27⟩)
  (c27 : PySem.W.codeIn K cd27 "_law_cell_at" = true)
  (k27 : PySem.W.keepIn K (.ref f27) = true)
  (a28 : PySem.W.nsIn K mainGlobals "_law_bad_name" = some (some (.ref f28)))
  (l28 : K.lookup f28 = some ⟨oc28,od28,.func (PySem.W.fnOf "_law_bad_name" "_law_bad_name" (Q0q Q1k) (Q0l Q1k) (Q0f Q1k) .none kV28 dc28 pm28 an28 cd28 ct28),sl28⟩)
  (c28 : PySem.W.codeIn K cd28 "_law_bad_name" = true)
  (k28 : PySem.W.keepIn K (.ref f28) = true)
  (a29 : PySem.W.nsIn K mainGlobals "_law_bad_number" = some (some (.ref f29)))
  (l29 : K.lookup f29 = some ⟨oc29,od29,.func (PySem.W.fnOf "_law_bad_number" "_law_bad_number" (Q0q Q0T) (Q0l Q0T) (Q0f Q0T) .none kV29 dc29 pm29 an29 cd29 ct29),sl29⟩)
  (c29 : PySem.W.codeIn K cd29 "_law_bad_number" = true)
  (k29 : PySem.W.keepIn K (.ref f29) = true)
  (a30 : PySem.W.nsIn K mainGlobals "_law_deed" = some (some (.ref f30)))
  (l30 : K.lookup f30 = some ⟨oc30,od30,.func (PySem.W.fnOf "_law_deed" "_law_deed" (Q0q Q2I) (Q0l Q2I) (Q0f Q2I) .none kV30 dc30 pm30 an30 cd30 ct30),sl30⟩)
  (c30 : PySem.W.codeIn K cd30 "_law_deed" = true)
  (k30 : PySem.W.keepIn K (.ref f30) = true)
  (a31 : PySem.W.nsIn K mainGlobals "_law_told" = some (some (.ref f31)))
  (l31 : K.lookup f31 = some ⟨oc31,od31,.func (PySem.W.fnOf "_law_told" "_law_told" (Q0q Q2F) (Q0l Q2F) (Q0f Q2F) .none kV31 dc31 pm31 an31 cd31 ct31),sl31⟩)
  (c31 : PySem.W.codeIn K cd31 "_law_told" = true)
  (k31 : PySem.W.keepIn K (.ref f31) = true)
  (a32 : PySem.W.nsIn K mainGlobals "_law_stream" = some (some (.ref f32)))
  (l32 : K.lookup f32 = some ⟨oc32,od32,.func (PySem.W.fnOf "_law_stream" "_law_stream" (Q0q Q1C) (Q0l Q1C) (Q0f Q1C) .none kV32 dc32 pm32 an32 cd32 ct32),sl32⟩)
  (c32 : PySem.W.codeIn K cd32 "_law_stream" = true)
  (k32 : PySem.W.keepIn K (.ref f32) = true)
  (a33 : PySem.W.nsIn K mainGlobals "_law_rule" = some (some (.ref f33)))
  (l33 : K.lookup f33 = some ⟨oc33,od33,.func (PySem.W.fnOf "_law_rule" "_law_rule" (Q0q Q2H) (Q0l Q2H) (Q0f Q2H) .none kV33 dc33 pm33 an33 cd33 ct33),sl33⟩)
  (c33 : PySem.W.codeIn K cd33 "_law_rule" = true)
  (k33 : PySem.W.keepIn K (.ref f33) = true)
  (a34 : PySem.W.nsIn K mainGlobals "_law_names" = some (some (.ref f34)))
  (l34 : K.lookup f34 = some ⟨oc34,od34,.func (PySem.W.fnOf "_law_names" "_law_names" (Q0q Q1S) (Q0l Q1S) (Q0f Q1S) .none kV34 dc34 pm34 an34 cd34 ct34),sl34⟩)
  (c34 : PySem.W.codeIn K cd34 "_law_names" = true)
  (k34 : PySem.W.keepIn K (.ref f34) = true)
  (a35 : PySem.W.nsIn K mainGlobals "_law_cells" = some (some (.ref f35)))
  (l35 : K.lookup f35 = some ⟨oc35,od35,.func (PySem.W.fnOf "_law_cells" "_law_cells" (Q0q Q1U) (Q0l Q1U) (Q0f Q1U) .none kV35 dc35 pm35 an35 cd35 ct35),sl35⟩)
  (c35 : PySem.W.codeIn K cd35 "_law_cells" = true)
  (k35 : PySem.W.keepIn K (.ref f35) = true)
  (a36 : PySem.W.nsIn K mainGlobals "_law_said" = some (some (.ref f36)))
  (l36 : K.lookup f36 = some ⟨oc36,od36,.func (PySem.W.fnOf "_law_said" "_law_said" (Q0q Q2G) (Q0l Q2G) (Q0f Q2G) .none kV36 dc36 pm36 an36 cd36 ct36),sl36⟩)
  (c36 : PySem.W.codeIn K cd36 "_law_said" = true)
  (k36 : PySem.W.keepIn K (.ref f36) = true)
  (a37 : PySem.W.nsIn K mainGlobals "_law_deeds" = some (some (.ref f37)))
  (l37 : K.lookup f37 = some ⟨oc37,od37,.func (PySem.W.fnOf "_law_deeds" "_law_deeds" (Q0q Q1T) (Q0l Q1T) (Q0f Q1T) .none kV37 dc37 pm37 an37 cd37 ct37),sl37⟩)
  (c37 : PySem.W.codeIn K cd37 "_law_deeds" = true)
  (k37 : PySem.W.keepIn K (.ref f37) = true)
  (a38 : PySem.W.nsIn K mainGlobals "law" = some (some (.ref f38)))
  (l38 : K.lookup f38 = some ⟨oc38,od38,.func (PySem.W.fnOf "law" "law" (Q0q s_law) (Q0l s_law) (Q0f s_law) .none kV38 dc38 pm38 an38 cd38 ct38),sl38⟩)
  (c38 : PySem.W.codeIn K cd38 "law" = true)
  (k38 : PySem.W.keepIn K (.ref f38) = true)
  (pg0 : PySem.W.plainGet K CK0 Str.empty = true)
  (hd0 : PySem.W.hasDictIn K CK0 = true)
  (po0 : PySem.W.plainOver K CK0 = true)
  (sa0 : PySem.W.findIn K (.ref CK0) "__setattr__" = some (some (.builtin "object.__setattr__")))
  (ca0 : PySem.W.findIn K (.ref CK0) "__class__" = some (some (.builtin "object.__class__")))
  (cm0 : PySem.W.mroIn K CK0 (.type "object") = some true)
  (n0_scale : PySem.W.findIn K (.ref CK0) "scale" = some none)
  (n0_top : PySem.W.findIn K (.ref CK0) "top" = some none)
  (n0_bottom : PySem.W.findIn K (.ref CK0) "bottom" = some none)
  (n0_tops : PySem.W.findIn K (.ref CK0) "tops" = some none)
  (n0_under : PySem.W.findIn K (.ref CK0) "under" = some none)
  (n0_came : PySem.W.findIn K (.ref CK0) "came" = some none)
  (mk0 : PySem.W.makesIn K CK0 = true)
  (kc0 : PySem.W.keepIn K (.ref CK0) = true)
  (Tga_NoTurn : PySem.W.findIn K (.ref CK5) "__getattribute__" = some (some (.builtin "BaseException.__getattribute__")))
  (Thk_NoTurn : PySem.W.findIn K (.ref CK5) "__getattr__" = some none)
  (Tmb_NoTurn : PySem.W.mroIn K CK5 (.type "BaseException") = some true)
  (Tmo_NoTurn : PySem.W.mroIn K CK5 (.type "object") = some true)
  (Tca_NoTurn : PySem.W.findIn K (.ref CK5) "__class__" = some (some (.builtin "object.__class__")))
  (Thd_NoTurn : PySem.W.hasDictIn K CK5 = true)
  (Ll_NoTurn : K.lookup CK5 = some (excClassObj nm_NoTurn qn_NoTurn CK5 N_NoTurn bs_NoTurn (.ref CK1 :: bmV) true sn_NoTurn sub_NoTurn ab_NoTurn col_NoTurn dd_NoTurn ka_NoTurn kb_NoTurn kc_NoTurn kd_NoTurn ke_NoTurn "ValueError.__new__"))
  (Tsa_NoTurn : PySem.W.findIn K (.ref CK5) "__setattr__" = some (some (.builtin "object.__setattr__")))
  (Tkp_NoTurn : PySem.W.keepIn K (.ref CK5) = true)
  (Tga_NoRule : PySem.W.findIn K (.ref CK4) "__getattribute__" = some (some (.builtin "BaseException.__getattribute__")))
  (Thk_NoRule : PySem.W.findIn K (.ref CK4) "__getattr__" = some none)
  (Tmb_NoRule : PySem.W.mroIn K CK4 (.type "BaseException") = some true)
  (Tmo_NoRule : PySem.W.mroIn K CK4 (.type "object") = some true)
  (Tca_NoRule : PySem.W.findIn K (.ref CK4) "__class__" = some (some (.builtin "object.__class__")))
  (Thd_NoRule : PySem.W.hasDictIn K CK4 = true)
  (Tga_NoName : PySem.W.findIn K (.ref CK2) "__getattribute__" = some (some (.builtin "BaseException.__getattribute__")))
  (Thk_NoName : PySem.W.findIn K (.ref CK2) "__getattr__" = some none)
  (Tmb_NoName : PySem.W.mroIn K CK2 (.type "BaseException") = some true)
  (Tmo_NoName : PySem.W.mroIn K CK2 (.type "object") = some true)
  (Tca_NoName : PySem.W.findIn K (.ref CK2) "__class__" = some (some (.builtin "object.__class__")))
  (Thd_NoName : PySem.W.hasDictIn K CK2 = true)
  (Tga_Twice : PySem.W.findIn K (.ref CK7) "__getattribute__" = some (some (.builtin "BaseException.__getattribute__")))
  (Thk_Twice : PySem.W.findIn K (.ref CK7) "__getattr__" = some none)
  (Tmb_Twice : PySem.W.mroIn K CK7 (.type "BaseException") = some true)
  (Tmo_Twice : PySem.W.mroIn K CK7 (.type "object") = some true)
  (Tca_Twice : PySem.W.findIn K (.ref CK7) "__class__" = some (some (.builtin "object.__class__")))
  (Thd_Twice : PySem.W.hasDictIn K CK7 = true)
  (Ee_HeedError : PySem.W.excIn K CK1 bmV "ValueError.__new__" = true)
  (En_NoTurn_number : PySem.W.findIn K (.ref CK5) "number" = some none)
  (Ex_NoTurn_HeedError : PySem.W.exmOne K (.ref CK5) (.ref CK1) = some true)
  (Ei_NoTurn_NoTurn : PySem.W.kitOne K (.ref CK5) (.ref CK5) = some true)
  (Ei_NoTurn_NoRow : PySem.W.kitOne K (.ref CK5) (.ref CK3) = some false)
  (Ei_NoTurn_NoRule : PySem.W.kitOne K (.ref CK5) (.ref CK4) = some false)
  (Ei_NoTurn_NoWay : PySem.W.kitOne K (.ref CK5) (.ref CK6) = some false)
  (Ei_NoTurn_NoName : PySem.W.kitOne K (.ref CK5) (.ref CK2) = some false)
  (Ei_NoTurn_Twice : PySem.W.kitOne K (.ref CK5) (.ref CK7) = some false)
  (Ee_NoRule : PySem.W.excIn K CK4 bmV "ValueError.__new__" = true)
  (Ex_NoRule_HeedError : PySem.W.exmOne K (.ref CK4) (.ref CK1) = some true)
  (Ei_NoRule_NoTurn : PySem.W.kitOne K (.ref CK4) (.ref CK5) = some false)
  (Ei_NoRule_NoRow : PySem.W.kitOne K (.ref CK4) (.ref CK3) = some false)
  (Ei_NoRule_NoRule : PySem.W.kitOne K (.ref CK4) (.ref CK4) = some true)
  (Ei_NoRule_NoWay : PySem.W.kitOne K (.ref CK4) (.ref CK6) = some false)
  (Ei_NoRule_NoName : PySem.W.kitOne K (.ref CK4) (.ref CK2) = some false)
  (Ei_NoRule_Twice : PySem.W.kitOne K (.ref CK4) (.ref CK7) = some false)
  (Ee_NoName : PySem.W.excIn K CK2 bmV "ValueError.__new__" = true)
  (Ex_NoName_HeedError : PySem.W.exmOne K (.ref CK2) (.ref CK1) = some true)
  (Ei_NoName_NoTurn : PySem.W.kitOne K (.ref CK2) (.ref CK5) = some false)
  (Ei_NoName_NoRow : PySem.W.kitOne K (.ref CK2) (.ref CK3) = some false)
  (Ei_NoName_NoRule : PySem.W.kitOne K (.ref CK2) (.ref CK4) = some false)
  (Ei_NoName_NoWay : PySem.W.kitOne K (.ref CK2) (.ref CK6) = some false)
  (Ei_NoName_NoName : PySem.W.kitOne K (.ref CK2) (.ref CK2) = some true)
  (Ei_NoName_Twice : PySem.W.kitOne K (.ref CK2) (.ref CK7) = some false)
  (Ee_Twice : PySem.W.excIn K CK7 bmV "ValueError.__new__" = true)
  (Ex_Twice_HeedError : PySem.W.exmOne K (.ref CK7) (.ref CK1) = some true)
  (Ei_Twice_NoTurn : PySem.W.kitOne K (.ref CK7) (.ref CK5) = some false)
  (Ei_Twice_NoRow : PySem.W.kitOne K (.ref CK7) (.ref CK3) = some false)
  (Ei_Twice_NoRule : PySem.W.kitOne K (.ref CK7) (.ref CK4) = some false)
  (Ei_Twice_NoWay : PySem.W.kitOne K (.ref CK7) (.ref CK6) = some false)
  (Ei_Twice_NoName : PySem.W.kitOne K (.ref CK7) (.ref CK2) = some false)
  (Ei_Twice_Twice : PySem.W.kitOne K (.ref CK7) (.ref CK7) = some true)
  (gn : PySem.W.specialIn K (.builtin "object.__class__") "__get__" = some (some (.builtin "getset_descriptor.__get__")))
  (gt : PySem.W.takesIn K (.builtin "object.__class__") = some true)
  (z0 : PySem.W.nsIn K mainGlobals "len" = some none)
  (z1 : PySem.W.nsIn K mainGlobals "tuple" = some none)
  (z2 : PySem.W.nsIn K mainGlobals "list" = some none)
  (z3 : PySem.W.nsIn K mainGlobals "sum" = some none)
  (z4 : PySem.W.nsIn K mainGlobals "zip" = some none)
  (z5 : PySem.W.nsIn K mainGlobals "sorted" = some none)
  (z6 : PySem.W.nsIn K mainGlobals "range" = some none)
  (z7 : PySem.W.nsIn K mainGlobals "isinstance" = some none)
  (z8 : PySem.W.nsIn K mainGlobals "int" = some none)
  (z9 : PySem.W.nsIn K mainGlobals "bool" = some none)
  (z10 : PySem.W.nsIn K mainGlobals "str" = some none)
  (z11 : PySem.W.nsIn K mainGlobals "dict" = some none)
  (z12 : PySem.W.nsIn K mainGlobals "all" = some none)
  (z13 : PySem.W.nsIn K mainGlobals "abs" = some none)
  (z14 : PySem.W.nsIn K mainGlobals "ValueError" = some none)
  (y0 : PySem.W.nsIn K mainGlobals "MOST_SCALE" = some (some (.int 10 tk0)))
  (y1 : PySem.W.nsIn K mainGlobals "MOST_BOTTOM" = some (some (.int 100 tk1)))
  (y2 : PySem.W.nsIn K mainGlobals "LETTERS" = some (some (.str "abcdefghijklmnopqrstuvwxyz" tk2)))
  (y3 : PySem.W.nsIn K mainGlobals "MOST_LETTERS" = some (some (.int 8 tk3))) :
  ∃ fd : FuncData,(∀ (s : Shared) (v : Value),BindsTo s fd ⟨[v],[]⟩ [("_law_script",v)]) /\ ∀ base : Heap,K.In base -> base.Ns mainGlobals mg -> FnOk l.prog w K mg base CX0 19 fa fd ["_law_script"] (toSp K spLaw) := by
 have e := hfa.symm.trans (PySem.W.mg_of X G a38)
 cases e
 have T : Txt K mg CK0 CK1 CK5 CK4 CK2 CK7 CK3 CK6 := ⟨PySem.W.mg_none_of X G z0,PySem.W.mg_none_of X G z1,PySem.W.mg_none_of X G z2,PySem.W.mg_none_of X G z3,PySem.W.mg_none_of X G z4,PySem.W.mg_none_of X G z5,PySem.W.mg_none_of X G z6,PySem.W.mg_none_of X G z7,PySem.W.mg_none_of X G z8,PySem.W.mg_none_of X G z9,PySem.W.mg_none_of X G z10,PySem.W.mg_none_of X G z11,PySem.W.mg_none_of X G z12,PySem.W.mg_none_of X G z13,PySem.W.mg_none_of X G z14,⟨_,PySem.W.mg_of X G y0⟩,⟨_,PySem.W.mg_of X G y1⟩,⟨_,PySem.W.mg_of X G y2⟩,⟨_,PySem.W.mg_of X G y3⟩,⟨⟨pg0,hd0,po0,sa0⟩,ca0,gn,gt,cm0⟩,PySem.W.mg_of X G aC0,n0_scale,n0_top,n0_bottom,n0_tops,n0_under,n0_came,PySem.W.mg_of X G aE_HeedError,Ee_HeedError,PySem.W.mg_of X G aE_NoTurn,⟨Tga_NoTurn,Thk_NoTurn,Tmb_NoTurn,Tmo_NoTurn,Tca_NoTurn,gn,gt,Thd_NoTurn⟩,En_NoTurn_number,Ex_NoTurn_HeedError,Ei_NoTurn_NoTurn,Ei_NoTurn_NoRow,Ei_NoTurn_NoRule,Ei_NoTurn_NoWay,Ei_NoTurn_NoName,Ei_NoTurn_Twice,PySem.W.mg_of X G aE_NoRule,Ee_NoRule,⟨Tga_NoRule,Thk_NoRule,Tmb_NoRule,Tmo_NoRule,Tca_NoRule,gn,gt,Thd_NoRule⟩,Ex_NoRule_HeedError,Ei_NoRule_NoTurn,Ei_NoRule_NoRow,Ei_NoRule_NoRule,Ei_NoRule_NoWay,Ei_NoRule_NoName,Ei_NoRule_Twice,PySem.W.mg_of X G aE_NoName,Ee_NoName,⟨Tga_NoName,Thk_NoName,Tmb_NoName,Tmo_NoName,Tca_NoName,gn,gt,Thd_NoName⟩,Ex_NoName_HeedError,Ei_NoName_NoTurn,Ei_NoName_NoRow,Ei_NoName_NoRule,Ei_NoName_NoWay,Ei_NoName_NoName,Ei_NoName_Twice,PySem.W.mg_of X G aE_Twice,Ee_Twice,⟨Tga_Twice,Thk_Twice,Tmb_Twice,Tmo_Twice,Tca_Twice,gn,gt,Thd_Twice⟩,Ex_Twice_HeedError,Ei_Twice_NoTurn,Ei_Twice_NoRow,Ei_Twice_NoRule,Ei_Twice_NoWay,Ei_Twice_NoName,Ei_Twice_Twice,PySem.W.mg_of X G aE_NoRow,PySem.W.mg_of X G aE_NoWay⟩
 have E0 := Q0y (st := Q0C) l0 c0 k0
 have b0 := E0.binds (ps := ["self","number"]) λ _ _ _ _ _ _ us hl => by obtain ⟨_,_,rfl⟩ := len2 hl; rfl
 have E1 := Q0y (st := Q1D) l1 c1 k1
 have b1 := E1.binds (ps := ["value"]) λ _ _ _ _ _ _ us hl => by obtain ⟨_,rfl⟩ := len1 hl; rfl
 have E2 := Q0y (st := Q0U) l2 c2 k2
 have b2 := E2.binds (ps := ["what","value","least","most"]) λ _ _ _ _ _ _ us hl => by obtain ⟨_,_,_,_,rfl⟩ := len4 hl; rfl
 have E3 := Q0y (st := Q1g) l3 c3 k3
 have b3 := E3.binds (ps := ["scale"]) λ _ _ _ _ _ _ us hl => by obtain ⟨_,rfl⟩ := len1 hl; rfl
 have E4 := Q0y (st := Q0J) l4 c4 k4
 have b4 := E4.binds (ps := ["top","bottom"]) λ _ _ _ _ _ _ us hl => by obtain ⟨_,_,rfl⟩ := len2 hl; rfl
 have E5 := Q0y (st := Q1e) l5 c5 k5
 have b5 := E5.binds (ps := ["scale","value"]) λ _ _ _ _ _ _ us hl => by obtain ⟨_,_,rfl⟩ := len2 hl; rfl
 have E6 := Q0y (st := Q1V) l6 c6 k6
 have b6 := E6.binds (ps := ["name"]) λ _ _ _ _ _ _ us hl => by obtain ⟨_,rfl⟩ := len1 hl; rfl
 have E7 := Q0y (st := Q1l) l7 c7 k7
 have b7 := E7.binds (ps := ["name"]) λ _ _ _ _ _ _ us hl => by obtain ⟨_,rfl⟩ := len1 hl; rfl
 have E8 := Q0y (st := Q1f) l8 c8 k8
 have b8 := E8.binds (ps := ["tops","name"]) λ _ _ _ _ _ _ us hl => by obtain ⟨_,_,rfl⟩ := len2 hl; rfl
 have E9 := Q0y (st := Q0I) l9 c9 k9
 have b9 := E9.binds (ps := ["tops","said"]) λ _ _ _ _ _ _ us hl => by obtain ⟨_,_,rfl⟩ := len2 hl; rfl
 have E10 := Q0y (st := Q0O) l10 c10 k10
 have b10 := E10.binds (ps := ["scale","numbers"]) λ _ _ _ _ _ _ us hl => by obtain ⟨_,_,rfl⟩ := len2 hl; rfl
 have E11 := Q0y (st := Q1W) l11 c11 k11
 have b11 := E11.binds (ps := ["weights"]) λ _ _ _ _ _ _ us hl => by obtain ⟨_,rfl⟩ := len1 hl; rfl
 have E12 := Q0y (st := Q2E) l12 c12 k12
 have b12 := E12.binds (ps := ["numbers","weights"]) λ _ _ _ _ _ _ us hl => by obtain ⟨_,_,rfl⟩ := len2 hl; rfl
 have E13 := Q0y (st := Q3x) l13 c13 k13
 have b13 := E13.binds (ps := ["base","exponent"]) λ _ _ _ _ _ _ us hl => by obtain ⟨_,_,rfl⟩ := len2 hl; rfl
 have E14 := Q0y (st := Q2J) l14 c14 k14
 have b14 := E14.binds (ps := ["what","so"]) λ _ _ _ _ _ _ us hl => by obtain ⟨_,_,rfl⟩ := len2 hl; rfl
 have E15 := Q0y (st := Q1d) l15 c15 k15
 have b15 := E15.binds (ps := ["keeper","own","off"]) λ _ _ _ _ _ _ us hl => by obtain ⟨_,_,_,rfl⟩ := len3 hl; rfl
 have E16 := Q0y (st := Q0S) l16 c16 k16
 have b16 := E16.binds (ps := ["keeper","own"]) λ _ _ _ _ _ _ us hl => by obtain ⟨_,_,rfl⟩ := len2 hl; rfl
 have E17 := Q0y (st := Q3w) l17 c17 k17
 have b17 := E17.binds (ps := ["keeper","own","what","so"]) λ _ _ _ _ _ _ us hl => by obtain ⟨_,_,_,_,rfl⟩ := len4 hl; rfl
 have E18 := Q0y (st := Q0P) l18 c18 k18
 have b18 := E18.binds (ps := ["self","scale","top","bottom"]) λ _ _ _ _ _ _ us hl => by obtain ⟨_,_,_,_,rfl⟩ := len4 hl; rfl
 have E19 := Q0y (st := Q1v) l19 c19 k19
 have b19 := E19.binds (ps := ["self","name"]) λ _ _ _ _ _ _ us hl => by obtain ⟨_,_,rfl⟩ := len2 hl; rfl
 have E20 := Q0y (st := Q1X) l20 c20 k20
 have b20 := E20.binds (ps := ["self","name"]) λ _ _ _ _ _ _ us hl => by obtain ⟨_,_,rfl⟩ := len2 hl; rfl
 have E21 := Q0y (st := Q1m) l21 c21 k21
 have b21 := E21.binds (ps := ["self"]) λ _ _ _ _ _ _ us hl => by obtain ⟨_,rfl⟩ := len1 hl; rfl
 have E22 := Q0y (st := Q1u) l22 c22 k22
 have b22 := E22.binds (ps := ["self"]) λ _ _ _ _ _ _ us hl => by obtain ⟨_,rfl⟩ := len1 hl; rfl
 have E23 := Q0y (st := Q0V) l23 c23 k23
 have b23 := E23.binds (ps := ["self"]) λ _ _ _ _ _ _ us hl => by obtain ⟨_,rfl⟩ := len1 hl; rfl
 have E24 := Q0y (st := Q1E) l24 c24 k24
 have b24 := E24.binds (ps := ["self","said"]) λ _ _ _ _ _ _ us hl => by obtain ⟨_,_,rfl⟩ := len2 hl; rfl
 have E25 := Q0y (st := Q0D) l25 c25 k25
 have b25 := E25.binds (ps := ["self","said","so"]) λ _ _ _ _ _ _ us hl => by obtain ⟨_,_,_,rfl⟩ := len3 hl; rfl
 have E26 := Q0y (st := Q1t) l26 c26 k26
 have b26 := E26.binds (ps := ["self","said","so"]) λ _ _ _ _ _ _ us hl => by obtain ⟨_,_,_,rfl⟩ := len3 hl; rfl
 have E27 := Q0y (st := Q1s) l27 c27 k27
 have b27 := E27.binds (ps := ["_law_script","_law_k"]) λ _ _ _ _ _ _ us hl => by obtain ⟨_,_,rfl⟩ := len2 hl; rfl
 have E28 := Q0y (st := Q1k) l28 c28 k28
 have b28 := E28.binds (ps := ["_law_cell"]) λ _ _ _ _ _ _ us hl => by obtain ⟨_,rfl⟩ := len1 hl; rfl
 have E29 := Q0y (st := Q0T) l29 c29 k29
 have b29 := E29.binds (ps := ["_law_cell","_law_scale"]) λ _ _ _ _ _ _ us hl => by obtain ⟨_,_,rfl⟩ := len2 hl; rfl
 have E30 := Q0y (st := Q2I) l30 c30 k30
 have b30 := E30.binds (ps := ["_law_book","_law_way","_law_names_here","_law_cell","_law_scale"]) λ _ _ _ _ _ _ us hl => by obtain ⟨_,_,_,_,_,rfl⟩ := len5 hl; rfl
 have E31 := Q0y (st := Q2F) l31 c31 k31
 have b31 := E31.binds (ps := ["_law_book","_law_way","_law_names_here","_law_cell","_law_scale"]) λ _ _ _ _ _ _ us hl => by obtain ⟨_,_,_,_,_,rfl⟩ := len5 hl; rfl
 have E32 := Q0y (st := Q1C) l32 c32 k32
 have b32 := E32.binds (ps := ["_law_cell","_law_many"]) λ _ _ _ _ _ _ us hl => by obtain ⟨_,_,rfl⟩ := len2 hl; rfl
 have E33 := Q0y (st := Q2H) l33 c33 k33
 have b33 := E33.binds (ps := ["_law_script"]) λ _ _ _ _ _ _ us hl => by obtain ⟨_,rfl⟩ := len1 hl; rfl
 have E34 := Q0y (st := Q1S) l34 c34 k34
 have b34 := E34.binds (ps := ["_law_cell","_law_many"]) λ _ _ _ _ _ _ us hl => by obtain ⟨_,_,rfl⟩ := len2 hl; rfl
 have E35 := Q0y (st := Q1U) l35 c35 k35
 have b35 := E35.binds (ps := ["_law_script","_law_first"]) λ _ _ _ _ _ _ us hl => by obtain ⟨_,_,rfl⟩ := len2 hl; rfl
 have E36 := Q0y (st := Q2G) l36 c36 k36
 have b36 := E36.binds (ps := ["_law_there","_law_numbers","_law_scale"]) λ _ _ _ _ _ _ us hl => by obtain ⟨_,_,_,rfl⟩ := len3 hl; rfl
 have E37 := Q0y (st := Q1T) l37 c37 k37
 have b37 := E37.binds (ps := ["_law_cells_here","_law_names_here","_law_scale"]) λ _ _ _ _ _ _ us hl => by obtain ⟨_,_,_,rfl⟩ := len3 hl; rfl
 have E38 := Q0y (st := s_law) l38 c38 k38
 have b38 := E38.binds (ps := ["_law_script"]) λ _ _ _ _ _ _ us hl => by obtain ⟨_,rfl⟩ := len1 hl; rfl
 refine ⟨PySem.W.fnOf "law" "law" (Q0q s_law) (Q0l s_law) (Q0f s_law) .none kV38 dc38 pm38 an38 cd38 ct38,λ s v => .of_eq rfl,λ base _ _ => ?_⟩
 have Z_NoTurn : ExcI K CK5 f0 "number" := ⟨⟨_,_,_,_,_,_,_,_,_,_,_,_,_,_,_,Ll_NoTurn,λ h X => tail1 X Ee_HeedError⟩,a0,beq_iff_eq.mp i0,Tsa_NoTurn,En_NoTurn_number,Tkp_NoTurn⟩
 have W_NoTurn___init__ : FnOk l.prog w K mg base CX0 1 f0 _ ["self","number"] (spI CK5 "number") := Q3k T E0 Z_NoTurn
 have F_is_whole : Q0t l.prog w K mg base 1 "is_whole" (Q0x Q2C) := ok_is_whole T E1 (PySem.W.mg_of X G a1) b1
 have F_check_within : DefX l.prog w K mg base 2 "check_within" (Q2Z CK4) := ok_check_within T E2 (PySem.W.mg_of X G a2) b2 F_is_whole
 have F_check_scale : DefX l.prog w K mg base 3 "check_scale" (spScaleX CK4) := ok_check_scale T E3 (PySem.W.mg_of X G a3) b3 F_check_within
 have F_check_fraction : DefX l.prog w K mg base 3 "check_fraction" (Q2R CK4) := Q3B T E4 (PySem.W.mg_of X G a4) b4 F_check_within
 have F_is_on_scale : Q0t l.prog w K mg base 2 "is_on_scale" (Q0x spOnSO) := ok_is_on_scale T E5 (PySem.W.mg_of X G a5) b5 F_is_whole
 have F_is_name : Q0t l.prog w K mg base 1 "is_name" (Q0x spNameO) := ok_is_name T E6 (PySem.W.mg_of X G a6) b6
 have F_check_name : DefX l.prog w K mg base 2 "check_name" (Q3e CK2) := ok_check_name T E7 (PySem.W.mg_of X G a7) b7 F_is_name
 have F_check_there : DefX l.prog w K mg base 1 "check_there" (Q3d CK2) := ok_check_there T E8 (PySem.W.mg_of X G a8) b8
 have F_check_speakers : DefX l.prog w K mg base 3 "check_speakers" (spSpeakX CK2) := Q3A T E9 (PySem.W.mg_of X G a9) b9 F_check_name F_check_there
 have J_NoTurn : InitI l.prog w K mg base CK5 1 "NoTurn" "number" := ⟨⟨_,_,_,W_NoTurn___init__,Z_NoTurn,b0⟩,T.t_NoTurn,T.m_NoTurn⟩
 have F_check_numbers : DefX l.prog w K mg base 3 "check_numbers" (Q4c CK5) := Q3S T E10 (PySem.W.mg_of X G a10) b10 F_is_on_scale J_NoTurn
 have F_counted : Q0t l.prog w K mg base 1 "counted" (Q0x spCounted) := ok_counted T E11 (PySem.W.mg_of X G a11) b11
 have F_middle : Q0t l.prog w K mg base 2 "middle" (Q0x spMiddle) := ok_middle T E12 (PySem.W.mg_of X G a12) b12 F_counted
 have F_power : Q0t l.prog w K mg base 1 "power" (Q0x spPow) := ok_power T E13 (PySem.W.mg_of X G a13) b13
 have F_charge : Q0t l.prog w K mg base 1 "charge" (Q0x Q4b) := ok_charge T E14 (PySem.W.mg_of X G a14) b14
 have F_times_awake : Q0t l.prog w K mg base 2 "times_awake" (spTAB CK0) := ok_times_awake T E15 (PySem.W.mg_of X G a15) b15 F_power
 have F_times_asleep : Q0t l.prog w K mg base 2 "times_asleep" (spTSB CK0) := ok_times_asleep T E16 (PySem.W.mg_of X G a16) b16 F_power
 have F_times : Q0t l.prog w K mg base 3 "times" (spTFB CK0) := ok_times T E17 (PySem.W.mg_of X G a17) b17 F_charge F_times_asleep F_times_awake
 have W_Book___init__ : FnOk l.prog w K mg base (CX1 l.prog w) 5 f18 _ ["self","scale","top","bottom"] (Q2d K (Q3a CK0 CK4)) := Q3T T E18 F_check_scale F_check_fraction
 have W_Book_come : FnOk l.prog w K mg base (CX1 l.prog w) 4 f19 _ ["self","name"] (Q2d K (Q3c CK0 CK2 CK7)) := ok_Book_come T E19 F_check_name
 have W_Book_go : FnOk l.prog w K mg base (CX1 l.prog w) 4 f20 _ ["self","name"] (Q2d K (spGoBX CK0 CK2)) := ok_Book_go T E20 F_check_name F_check_there
 have W_Book_there : FnOk l.prog w K mg base CX0 1 f21 _ ["self"] (toSp K (Q3Z CK0)) := ok_Book_there T E21
 have W_Book_ever : FnOk l.prog w K mg base CX0 1 f22 _ ["self"] (toSp K (spEverB CK0)) := ok_Book_ever T E22
 have W_Book_weights : FnOk l.prog w K mg base CX0 1 f23 _ ["self"] (toSp K (Q2B CK0)) := ok_Book_weights T E23
 have W_Book_say : FnOk l.prog w K mg base (CX1 l.prog w) 5 f24 _ ["self","said"] (Q2d K (spSayBX CK0 CK2 CK5)) := ok_Book_say T E24 F_check_speakers F_check_numbers F_middle
 have M_Book_say : Q2A l.prog w K mg base CK0 5 "say" (spSayBX CK0 CK2 CK5) := ⟨⟨_,_,_,W_Book_say,⟨a24,i24,k24⟩,b24⟩,T.c_Book.cls⟩
 have W_Book_charge_for : FnOk l.prog w K mg base (CX1 l.prog w) 7 f25 _ ["self","said","so"] (Q2d K (Q2D CK0 CK2 CK5)) := Q3l T E25 F_charge F_check_numbers M_Book_say
 have M_Book_charge_for : Q2A l.prog w K mg base CK0 7 "charge_for" (Q2D CK0 CK2 CK5) := ⟨⟨_,_,_,W_Book_charge_for,⟨a25,i25,k25⟩,b25⟩,T.c_Book.cls⟩
 have W_Book_hear : FnOk l.prog w K mg base (CX1 l.prog w) 9 f26 _ ["self","said","so"] (Q2d K (Q3b CK0 CK2 CK5)) := ok_Book_hear T E26 F_times M_Book_charge_for
 have F_l_cell_at : Q0t l.prog w K mg base 1 "_law_cell_at" (Q0x spCell) := ok_l_cell_at T E27 (PySem.W.mg_of X G a27) b27
 have F_l_bad_name : Q0t l.prog w K mg base 1 "_law_bad_name" (Q0x spBadName) := ok_l_bad_name T E28 (PySem.W.mg_of X G a28) b28
 have F_l_bad_number : Q0t l.prog w K mg base 1 "_law_bad_number" (Q0x spBadNum) := ok_l_bad_number T E29 (PySem.W.mg_of X G a29) b29
 have M_Book_come : Q2A l.prog w K mg base CK0 4 "come" (Q3c CK0 CK2 CK7) := ⟨⟨_,_,_,W_Book_come,⟨a19,i19,k19⟩,b19⟩,T.c_Book.cls⟩
 have M_Book_go : Q2A l.prog w K mg base CK0 4 "go" (spGoBX CK0 CK2) := ⟨⟨_,_,_,W_Book_go,⟨a20,i20,k20⟩,b20⟩,T.c_Book.cls⟩
 have M_Book_hear : Q2A l.prog w K mg base CK0 9 "hear" (Q3b CK0 CK2 CK5) := ⟨⟨_,_,_,W_Book_hear,⟨a26,i26,k26⟩,b26⟩,T.c_Book.cls⟩
 have K_Book : MakeX l.prog w K mg base CK0 5 "Book" (Q3a CK0 CK4) := ⟨⟨_,_,_,W_Book___init__,⟨mk0,a18,i18,kc0⟩,b18⟩,T.m_Book⟩
 have F_l_deed : DefX l.prog w K mg base 12 "_law_deed" (spDeedX CK0 CK2 CK7 CK5 CK4) := ok_l_deed T E30 (PySem.W.mg_of X G a30) b30 F_l_bad_name F_l_bad_number M_Book_come M_Book_go M_Book_say M_Book_hear K_Book
 have F_l_told : Q0t l.prog w K mg base 14 "_law_told" (spToldB CK0) := ok_l_told T E31 (PySem.W.mg_of X G a31) b31 F_l_deed
 have F_l_stream : Q0t l.prog w K mg base 1 "_law_stream" (Q0x Q4a) := ok_l_stream T E32 (PySem.W.mg_of X G a32) b32
 have F_l_rule : Q0t l.prog w K mg base 2 "_law_rule" (relSp preScr relRule) := ok_l_rule T E33 (PySem.W.mg_of X G a33) b33 F_l_cell_at
 have F_l_names : Q0t l.prog w K mg base 1 "_law_names" (relSp preNm relNm2) := ok_l_names T E34 (PySem.W.mg_of X G a34) b34
 have F_l_cells : Q0t l.prog w K mg base 2 "_law_cells" (relSp preCells relCells) := ok_l_cells T E35 (PySem.W.mg_of X G a35) b35 F_l_cell_at F_l_stream
 have F_l_said : Q0t l.prog w K mg base 3 "_law_said" spSaidL := ok_l_said T E36 (PySem.W.mg_of X G a36) b36
 have F_l_deeds : Q0t l.prog w K mg base 4 "_law_deeds" spDeeds := ok_l_deeds T E37 (PySem.W.mg_of X G a37) b37 F_l_stream F_l_said
 have M_Book_there : Q3t l.prog w K mg base CK0 1 "there" (Q3Z CK0) := ⟨⟨_,_,_,W_Book_there,⟨a21,i21,k21⟩,b21⟩,T.c_Book.cls⟩
 have M_Book_ever : Q3t l.prog w K mg base CK0 1 "ever" (spEverB CK0) := ⟨⟨_,_,_,W_Book_ever,⟨a22,i22,k22⟩,b22⟩,T.c_Book.cls⟩
 have M_Book_weights : Q3t l.prog w K mg base CK0 1 "weights" (Q2B CK0) := ⟨⟨_,_,_,W_Book_weights,⟨a23,i23,k23⟩,b23⟩,T.c_Book.cls⟩
 exact ok_law T E38 F_l_cell_at F_l_rule F_l_names F_l_cells F_l_deeds F_l_told K_Book M_Book_come M_Book_go M_Book_there M_Book_ever M_Book_weights M_Book_hear
theorem walk {l : PySem.W.OpenLaw} {q : Program} {loose : List Str} {XP : (Str -> Option Value) -> Heap -> Prop} {YP : World -> Heap -> Prop} {d : DefRec} {K : Params -> PySem.W.Frag} (hn : l.most = some 63) (hdf : d.params.defaults = [])
  (hY : ∀ (w : World) (h : Heap),YP w h -> (K w.params).In h)
  (F : ∀ (w : World) (mg : Str -> Option Value) (fa : Addr) (h : Heap),(K w.params).In h -> h.Ns mainGlobals mg -> mg d.name = some (.ref fa) ->
   ∃ fd : FuncData,(∀ (s : Shared) (u : Value),BindsTo s fd ⟨[u],[]⟩ [("_law_script",u)]) /\ ∀ base : Heap,(K w.params).In base -> base.Ns mainGlobals mg -> FnOk l.prog w (K w.params) mg base CX0 19 fa fd ["_law_script"] (toSp (K w.params) spLaw)) :
  PySem.W.WalkO q loose XP YP l.row.toRowW d [] (λ f vs => PySem.call f vs) :=
 L2.walk_of (n := 63) (k := 19) (x := "_law_script") (CX := λ _ => CX0) (sp := λ w => toSp (K w.params) spLaw) hn (by decide) hdf ⟨rfl,by decide,by decide⟩ hY F (λ _ _ a ns hl _ hS => law_start hl hS) λ _ _ _ _ _ z => z
end My
open PySem PySem.W PyProof.Rows
theorem My.walkZ {q : Program} {loose : List Str} {XP : (Str -> Option Value) -> Heap -> Prop} {K : Params -> PySem.W.Frag} {as : List Addr} {n t : Nat} {r : RowW} {d : DefRec} {kwd : List (Str × Expr)} {run : Value -> List Value -> Sem Value} (e : ∀ P,as = (K P).map (·.1))
  (h : WalkO q loose XP (λ w h => (K w.params).In h) r d kwd run) : WalkX q loose XP (X.obsZ as) (X.valZ K n t) r d kwd run := λ w s₀ s₁ mg mb G y a o pm cd doc dV kV ho hd hcd hD hmg hg args vals as' L hpre hlay hrd hwl hlo =>
 h w s₀ s₁ mg mb G (λ b o' e' => L.keeps _ _ ((X.z_facts e y).2.1 b o' e')) a o pm cd doc dV kV ho hd hcd hD hmg hg args vals as' hpre hlay hrd hwl hlo
def PySem.W.Fast.tw8778055469769890386 : Nat := 0
def PySem.W.Fast.tw6884312960041843819 : Nat := 0
def PySem.W.Fast.tw15513928345152641432 : Nat := 0
def PySem.W.Fast.tw9474214734351748790 : Nat := 0
def PySem.W.Fast.tw2478183356255737123 : Nat := 0
def PySem.W.Fast.tw16331572195217049112 : Nat := 0
def PySem.W.Fast.tw953528409719135212 : Nat := 0
def PySem.W.Fast.tw13121199198238057871 : Nat := 0
def PySem.W.Fast.tw4130820774678399323 : Nat := 0
def PySem.W.Fast.tw17945042190277763209 : Nat := 0
def PySem.W.Fast.tw3518887465862590607 : Nat := 0
def PySem.W.Fast.tw10074823114467338842 : Nat := 0
def PySem.W.Fast.tw17669320014116159992 : Nat := 0
open PySem PySem.W PyProof.Rows
set_option maxRecDepth 100000 in
set_option maxHeartbeats 0 in
theorem PySem.Challenge.cw_heedwise_k83_what_a_book_refuses_holds : PySem.Challenge.rw_heedwise_k83_what_a_book_refuses.Holds := by
 w_on; o_law; z_head; (case hw => w_witness2)
 k_fill
 refine My.walkZ (λ P => rfl) ?_
 refine My.walk (l := PySem.Challenge.rw_heedwise_k83_what_a_book_refuses) rfl rfl (λ w h Y => Y) ?F
 case F =>
  intro w mg fa h KX G hmg
  refine' My.all_mk KX G hmg ?aC0 ?aE_HeedError ?aE_NoTurn ?aE_NoRule ?aE_NoName ?aE_Twice ?aE_NoRow ?aE_NoWay ?a0 ?i0 ?l0 ?c0 ?k0 ?a1 ?l1 ?c1 ?k1 ?a2 ?l2 ?c2 ?k2 ?a3 ?l3 ?c3 ?k3 ?a4 ?l4 ?c4 ?k4 ?a5 ?l5 ?c5 ?k5 ?a6 ?l6 ?c6 ?k6 ?a7 ?l7 ?c7 ?k7 ?a8 ?l8 ?c8 ?k8 ?a9 ?l9 ?c9 ?k9 ?a10 ?l10 ?c10 ?k10 ?a11 ?l11 ?c11 ?k11 ?a12 ?l12 ?c12 ?k12 ?a13 ?l13 ?c13 ?k13 ?a14 ?l14 ?c14 ?k14 ?a15 ?l15 ?c15 ?k15 ?a16 ?l16 ?c16 ?k16 ?a17 ?l17 ?c17 ?k17 ?a18 ?i18 ?l18 ?c18 ?k18 ?a19 ?i19 ?l19 ?c19 ?k19 ?a20 ?i20 ?l20 ?c20 ?k20 ?a21 ?i21 ?l21 ?c21 ?k21 ?a22 ?i22 ?l22 ?c22 ?k22 ?a23 ?i23 ?l23 ?c23 ?k23 ?a24 ?i24 ?l24 ?c24 ?k24 ?a25 ?i25 ?l25 ?c25 ?k25 ?a26 ?i26 ?l26 ?c26 ?k26 ?a27 ?l27 ?c27 ?k27 ?a28 ?l28 ?c28 ?k28 ?a29 ?l29 ?c29 ?k29 ?a30 ?l30 ?c30 ?k30 ?a31 ?l31 ?c31 ?k31 ?a32 ?l32 ?c32 ?k32 ?a33 ?l33 ?c33 ?k33 ?a34 ?l34 ?c34 ?k34 ?a35 ?l35 ?c35 ?k35 ?a36 ?l36 ?c36 ?k36 ?a37 ?l37 ?c37 ?k37 ?a38 ?l38 ?c38 ?k38 ?pg0 ?hd0 ?po0 ?sa0 ?ca0 ?cm0 ?n0_scale ?n0_top ?n0_bottom ?n0_tops ?n0_under ?n0_came ?mk0 ?kc0 ?Tga_NoTurn ?Thk_NoTurn ?Tmb_NoTurn ?Tmo_NoTurn ?Tca_NoTurn ?Thd_NoTurn ?Ll_NoTurn ?Tsa_NoTurn ?Tkp_NoTurn ?Tga_NoRule ?Thk_NoRule ?Tmb_NoRule ?Tmo_NoRule ?Tca_NoRule ?Thd_NoRule ?Tga_NoName ?Thk_NoName ?Tmb_NoName ?Tmo_NoName ?Tca_NoName ?Thd_NoName ?Tga_Twice ?Thk_Twice ?Tmb_Twice ?Tmo_Twice ?Tca_Twice ?Thd_Twice ?Ee_HeedError ?En_NoTurn_number ?Ex_NoTurn_HeedError ?Ei_NoTurn_NoTurn ?Ei_NoTurn_NoRow ?Ei_NoTurn_NoRule ?Ei_NoTurn_NoWay ?Ei_NoTurn_NoName ?Ei_NoTurn_Twice ?Ee_NoRule ?Ex_NoRule_HeedError ?Ei_NoRule_NoTurn ?Ei_NoRule_NoRow ?Ei_NoRule_NoRule ?Ei_NoRule_NoWay ?Ei_NoRule_NoName ?Ei_NoRule_Twice ?Ee_NoName ?Ex_NoName_HeedError ?Ei_NoName_NoTurn ?Ei_NoName_NoRow ?Ei_NoName_NoRule ?Ei_NoName_NoWay ?Ei_NoName_NoName ?Ei_NoName_Twice ?Ee_Twice ?Ex_Twice_HeedError ?Ei_Twice_NoTurn ?Ei_Twice_NoRow ?Ei_Twice_NoRule ?Ei_Twice_NoWay ?Ei_Twice_NoName ?Ei_Twice_Twice ?gn ?gt ?z0 ?z1 ?z2 ?z3 ?z4 ?z5 ?z6 ?z7 ?z8 ?z9 ?z10 ?z11 ?z12 ?z13 ?z14 ?y0 ?y1 ?y2 ?y3
  (case aC0 => k_is)
  (case aE_HeedError => k_is)
  (case aE_NoTurn => k_is)
  (case aE_NoRule => k_is)
  (case aE_NoName => k_is)
  (case aE_Twice => k_is)
  (case aE_NoRow => k_is)
  (case aE_NoWay => k_is)
  (case a0 => k_is)
  (case i0 => k_is)
  (case l0 => k_is)
  (case c0 => k_is)
  (case k0 => k_is)
  (case a1 => k_is)
  (case l1 => k_is)
  (case c1 => k_is)
  (case k1 => k_is)
  (case a2 => k_is)
  (case l2 => k_is)
  (case c2 => k_is)
  (case k2 => k_is)
  (case a3 => k_is)
  (case l3 => k_is)
  (case c3 => k_is)
  (case k3 => k_is)
  (case a4 => k_is)
  (case l4 => k_is)
  (case c4 => k_is)
  (case k4 => k_is)
  (case a5 => k_is)
  (case l5 => k_is)
  (case c5 => k_is)
  (case k5 => k_is)
  (case a6 => k_is)
  (case l6 => k_is)
  (case c6 => k_is)
  (case k6 => k_is)
  (case a7 => k_is)
  (case l7 => k_is)
  (case c7 => k_is)
  (case k7 => k_is)
  (case a8 => k_is)
  (case l8 => k_is)
  (case c8 => k_is)
  (case k8 => k_is)
  (case a9 => k_is)
  (case l9 => k_is)
  (case c9 => k_is)
  (case k9 => k_is)
  (case a10 => k_is)
  (case l10 => k_is)
  (case c10 => k_is)
  (case k10 => k_is)
  (case a11 => k_is)
  (case l11 => k_is)
  (case c11 => k_is)
  (case k11 => k_is)
  (case a12 => k_is)
  (case l12 => k_is)
  (case c12 => k_is)
  (case k12 => k_is)
  (case a13 => k_is)
  (case l13 => k_is)
  (case c13 => k_is)
  (case k13 => k_is)
  (case a14 => k_is)
  (case l14 => k_is)
  (case c14 => k_is)
  (case k14 => k_is)
  (case a15 => k_is)
  (case l15 => k_is)
  (case c15 => k_is)
  (case k15 => k_is)
  (case a16 => k_is)
  (case l16 => k_is)
  (case c16 => k_is)
  (case k16 => k_is)
  (case a17 => k_is)
  (case l17 => k_is)
  (case c17 => k_is)
  (case k17 => k_is)
  (case a18 => k_is)
  (case i18 => k_is)
  (case l18 => k_is)
  (case c18 => k_is)
  (case k18 => k_is)
  (case a19 => k_is)
  (case i19 => k_is)
  (case l19 => k_is)
  (case c19 => k_is)
  (case k19 => k_is)
  (case a20 => k_is)
  (case i20 => k_is)
  (case l20 => k_is)
  (case c20 => k_is)
  (case k20 => k_is)
  (case a21 => k_is)
  (case i21 => k_is)
  (case l21 => k_is)
  (case c21 => k_is)
  (case k21 => k_is)
  (case a22 => k_is)
  (case i22 => k_is)
  (case l22 => k_is)
  (case c22 => k_is)
  (case k22 => k_is)
  (case a23 => k_is)
  (case i23 => k_is)
  (case l23 => k_is)
  (case c23 => k_is)
  (case k23 => k_is)
  (case a24 => k_is)
  (case i24 => k_is)
  (case l24 => k_is)
  (case c24 => k_is)
  (case k24 => k_is)
  (case a25 => k_is)
  (case i25 => k_is)
  (case l25 => k_is)
  (case c25 => k_is)
  (case k25 => k_is)
  (case a26 => k_is)
  (case i26 => k_is)
  (case l26 => k_is)
  (case c26 => k_is)
  (case k26 => k_is)
  (case a27 => k_is)
  (case l27 => k_is)
  (case c27 => k_is)
  (case k27 => k_is)
  (case a28 => k_is)
  (case l28 => k_is)
  (case c28 => k_is)
  (case k28 => k_is)
  (case a29 => k_is)
  (case l29 => k_is)
  (case c29 => k_is)
  (case k29 => k_is)
  (case a30 => k_is)
  (case l30 => k_is)
  (case c30 => k_is)
  (case k30 => k_is)
  (case a31 => k_is)
  (case l31 => k_is)
  (case c31 => k_is)
  (case k31 => k_is)
  (case a32 => k_is)
  (case l32 => k_is)
  (case c32 => k_is)
  (case k32 => k_is)
  (case a33 => k_is)
  (case l33 => k_is)
  (case c33 => k_is)
  (case k33 => k_is)
  (case a34 => k_is)
  (case l34 => k_is)
  (case c34 => k_is)
  (case k34 => k_is)
  (case a35 => k_is)
  (case l35 => k_is)
  (case c35 => k_is)
  (case k35 => k_is)
  (case a36 => k_is)
  (case l36 => k_is)
  (case c36 => k_is)
  (case k36 => k_is)
  (case a37 => k_is)
  (case l37 => k_is)
  (case c37 => k_is)
  (case k37 => k_is)
  (case a38 => k_is)
  (case l38 => k_is)
  (case c38 => k_is)
  (case k38 => k_is)
  (case pg0 => k_is)
  (case hd0 => k_is)
  (case po0 => k_is)
  (case sa0 => k_is)
  (case ca0 => k_is)
  (case cm0 => k_is)
  (case n0_scale => k_is)
  (case n0_top => k_is)
  (case n0_bottom => k_is)
  (case n0_tops => k_is)
  (case n0_under => k_is)
  (case n0_came => k_is)
  (case mk0 => k_is)
  (case kc0 => k_is)
  (case Tga_NoTurn => k_is)
  (case Thk_NoTurn => k_is)
  (case Tmb_NoTurn => k_is)
  (case Tmo_NoTurn => k_is)
  (case Tca_NoTurn => k_is)
  (case Thd_NoTurn => k_is)
  (case Ll_NoTurn => k_is)
  (case Tsa_NoTurn => k_is)
  (case Tkp_NoTurn => k_is)
  (case Tga_NoRule => k_is)
  (case Thk_NoRule => k_is)
  (case Tmb_NoRule => k_is)
  (case Tmo_NoRule => k_is)
  (case Tca_NoRule => k_is)
  (case Thd_NoRule => k_is)
  (case Tga_NoName => k_is)
  (case Thk_NoName => k_is)
  (case Tmb_NoName => k_is)
  (case Tmo_NoName => k_is)
  (case Tca_NoName => k_is)
  (case Thd_NoName => k_is)
  (case Tga_Twice => k_is)
  (case Thk_Twice => k_is)
  (case Tmb_Twice => k_is)
  (case Tmo_Twice => k_is)
  (case Tca_Twice => k_is)
  (case Thd_Twice => k_is)
  (case Ee_HeedError => k_exc)
  (case En_NoTurn_number => k_is)
  (case Ex_NoTurn_HeedError => exact Eq.refl _)
  (case Ei_NoTurn_NoTurn => kit_is)
  (case Ei_NoTurn_NoRow => kit_is)
  (case Ei_NoTurn_NoRule => kit_is)
  (case Ei_NoTurn_NoWay => kit_is)
  (case Ei_NoTurn_NoName => kit_is)
  (case Ei_NoTurn_Twice => kit_is)
  (case Ee_NoRule => k_exc)
  (case Ex_NoRule_HeedError => exact Eq.refl _)
  (case Ei_NoRule_NoTurn => kit_is)
  (case Ei_NoRule_NoRow => kit_is)
  (case Ei_NoRule_NoRule => kit_is)
  (case Ei_NoRule_NoWay => kit_is)
  (case Ei_NoRule_NoName => kit_is)
  (case Ei_NoRule_Twice => kit_is)
  (case Ee_NoName => k_exc)
  (case Ex_NoName_HeedError => exact Eq.refl _)
  (case Ei_NoName_NoTurn => kit_is)
  (case Ei_NoName_NoRow => kit_is)
  (case Ei_NoName_NoRule => kit_is)
  (case Ei_NoName_NoWay => kit_is)
  (case Ei_NoName_NoName => kit_is)
  (case Ei_NoName_Twice => kit_is)
  (case Ee_Twice => k_exc)
  (case Ex_Twice_HeedError => exact Eq.refl _)
  (case Ei_Twice_NoTurn => kit_is)
  (case Ei_Twice_NoRow => kit_is)
  (case Ei_Twice_NoRule => kit_is)
  (case Ei_Twice_NoWay => kit_is)
  (case Ei_Twice_NoName => kit_is)
  (case Ei_Twice_Twice => kit_is)
  (case gn => k_is)
  (case gt => k_is)
  (case z0 => k_is)
  (case z1 => k_is)
  (case z2 => k_is)
  (case z3 => k_is)
  (case z4 => k_is)
  (case z5 => k_is)
  (case z6 => k_is)
  (case z7 => k_is)
  (case z8 => k_is)
  (case z9 => k_is)
  (case z10 => k_is)
  (case z11 => k_is)
  (case z12 => k_is)
  (case z13 => k_is)
  (case z14 => k_is)
  (case y0 => k_is)
  (case y1 => k_is)
  (case y2 => k_is)
  (case y3 => k_is)
