import PyProof.Rows.All
import Wide.All
import OpenK.AllK
import Wide.FinOn
import Lean
import PyProof.EqAt
import PyProof.EqKinds
import PyProof.TupleCall
import PyProof.NeData
import PyProof.WalkInts
import PyProof.ListRange
import KE.KIntText
import PyProof.DictWalks
import PyProof.DictItems
import KE.KDictList
import PyProof.Rows.SortKeyStr
import PyProof.NeKinds
import PySem.Challenge.RW_heedwise_k72_the_head_is_bound
set_option Elab.async false
set_option linter.all false
set_option maxRecDepth 100000
namespace L2
open PySem PySem.Spec PyProof.Rows
abbrev Key := Sum Int Str
def keyIs : Key -> Value -> Bool
 | .inl k,v => Value.isInt k v
 | .inr x,v => Value.isStrOf x v
def keyH (w : World) : Key -> Int
 | .inl k => hashInt k
 | .inr x => hashStr w x
theorem Q0Y : ∀ {k : Key} {v : Value},keyIs k v = true -> (∃ i t,k = Sum.inl i /\ v = Value.int i t) \/ (∃ x t,k = Sum.inr x /\ v = Value.str x t)
 | .inl i,v,h => by
  obtain ⟨t,e⟩ := Value.isInt_shape (k := i) (v := v) h
  exact .inl ⟨i,t,rfl,e⟩
 | .inr x,v,h => by
  obtain ⟨t,e⟩ := Value.isStrOf_shape (x := x) (v := v) h
  exact .inr ⟨x,t,rfl,e⟩
theorem key_ll (a b : Int) : decide ((Sum.inl a : Key) = Sum.inl b) = (a == b) := by
 by_cases e : a = b
 ·subst e; simp
 ·have h : ¬ (Sum.inl a : Key) = Sum.inl b := λ q => e (Sum.inl.inj q)
  rw [decide_eq_false h]
  exact (beq_eq_false_iff_ne.mpr e).symm
theorem key_rr (a b : Str) : decide ((Sum.inr a : Key) = Sum.inr b) = decide (a = b) := by
 by_cases e : a = b
 ·subst e; simp
 ·have h : ¬ (Sum.inr a : Key) = Sum.inr b := λ q => e (Sum.inr.inj q)
  rw [decide_eq_false h,decide_eq_false e]
theorem key_lr (a : Int) (b : Str) : decide ((Sum.inl a : Key) = Sum.inr b) = false := decide_eq_false (λ q => nomatch q)
theorem key_rl (a : Str) (b : Int) : decide ((Sum.inr a : Key) = Sum.inl b) = false := decide_eq_false (λ q => nomatch q)
def mixKind (prog : Program) (w : World) : PySem.KeyKind prog w Key where
 is := keyIs
 hash := keyH w
 inj := λ v a b ha hb => by
  rcases Q0Y ha with ⟨i,t,rfl,rfl⟩ | ⟨x,t,rfl,rfl⟩
  ·rcases Q0Y hb with ⟨j,u,rfl,e⟩ | ⟨y,u,rfl,e⟩
   ·injection e with e1 _; rw [e1]
   ·exact nomatch e
  ·rcases Q0Y hb with ⟨j,u,rfl,e⟩ | ⟨y,u,rfl,e⟩
   ·exact nomatch e
   ·injection e with e1 _; rw [e1]
 byValue := λ k v h => by
  rcases Q0Y h with ⟨i,t,rfl,rfl⟩ | ⟨x,t,rfl,rfl⟩ <;> rfl
 pyHash := λ hv h => by
  rcases Q0Y hv with ⟨i,t,rfl,rfl⟩ | ⟨x,t,rfl,rfl⟩
  ·exact wpAny_pyHash_int h
  ·exact wpAny_pyHash_str h
 eqBool := λ hu hv h => by
  rcases Q0Y hu with ⟨i,t,rfl,rfl⟩ | ⟨x,t,rfl,rfl⟩
  ·rcases Q0Y hv with ⟨j,u,rfl,rfl⟩ | ⟨y,u,rfl,rfl⟩
   ·rw [key_ll] at h; exact wpAny_eqBool_int h
   ·rw [key_lr] at h; exact SeqAt.EqAt.int_str i t y u _ _ _ _ h
  ·rcases Q0Y hv with ⟨j,u,rfl,rfl⟩ | ⟨y,u,rfl,rfl⟩
   ·rw [key_rl] at h; exact SeqAt.EqAt.str_int x t j u _ _ _ _ h
   ·rw [key_rr] at h; exact wpAny_eqBool_str h
 «strs» := λ k x t v h => by
  rcases Q0Y h with ⟨i,u,rfl,e⟩ | ⟨y,u,rfl,e⟩
  ·exact nomatch e
  ·injection e with e1 _
   subst e1
   cases v <;> rfl
end L2
namespace L2
open PySem PySem.Spec PyProof.Rows
inductive V where
 | non | bl (b : Bool) | int (i : Int) | str (x : Str) | byt (b : Array UInt8) | flt (b : UInt64) | ref (a : Addr) | ty (n : String)
 deriving DecidableEq
def RelV : V -> Value -> Prop
 | .non,u => u = Value.none
 | .bl b,u => u = Value.bool b
 | .int i,u => ∃ t,u = Value.int i t
 | .str x,u => ∃ t,u = Value.str x t
 | .byt b,u => ∃ t,u = Value.bytes b t
 | .flt b,u => ∃ t,u = Value.float b t
 | .ref a,u => u = Value.ref a
 | .ty n,u => u = Value.type n
abbrev Vals : List V -> List Value -> Prop := Paired RelV
theorem Vals.length {xs : List V} {us : List Value} (r : Vals xs us) : xs.length = us.length := Paired.length r
theorem Vals.get : ∀ {xs : List V} {us : List Value} {i : Nat} {x : V},Vals xs us -> xs[i]? = some x -> ∃ u,us[i]? = some u /\ RelV x u
 | _,_,_,_,.nil,e => by simp at e
 | _,_,0,_,.cons r _,e => by simp at e; subst e; exact ⟨_,rfl,r⟩
 | _,_,i + 1,x,.cons _ t,e => by
  obtain ⟨u,h1,h2⟩ := Vals.get (i := i) (x := x) t (by simpa using e)
  exact ⟨u,by simpa using h1,h2⟩
theorem Vals.append : ∀ {xs ys : List V} {us ws : List Value},Vals xs us -> Vals ys ws -> Vals (xs ++ ys) (us ++ ws)
 | _,_,_,_,.nil,s => s
 | _,_,_,_,.cons r t,s => .cons r (Vals.append t s)
def RelO : Option V -> Option Value -> Prop
 | some v,some u => RelV v u
 | none,none => True
 | _,_ => False
def KV {κ : Type} : List (κ × V) -> List (κ × Value) -> Prop := Paired λ (p : κ × V) (q : κ × Value) => p.1 = q.1 /\ RelV p.2 q.2
def kV : Key -> V
 | .inl i => .int i
 | .inr x => .str x
inductive HO where

 | lst (xs : List V)

 | tup (xs : List V)

 | dK (kvs : List (Key × V)) | dT (kvs : List (List Key × V))

 | set (S : Int -> Bool) (n : Nat)

 | ins (C dx : Addr) (fs : List (Str × V))

 | own (x : Addr)

 | xd (fs : List (Str × V))

 | met (f x : Addr)

 | rng (lo hi : Int)

 | frz (o : Obj) (u : HO)

 | tbl (ps : Array Value)

 | ext (φ : Heap -> Prop)
abbrev Hp := Addr -> Option HO
def upd (H : Hp) (a : Addr) (o : HO) : Hp := λ b => if b = a then some o else H b
theorem Q0z {H : Hp} {a : Addr} {o : HO} : upd H a o a = some o := by unfold upd; rw [if_pos rfl]
theorem Q0x {H : Hp} {a b : Addr} {o : HO} (h : b ≠ a) : upd H a o b = H b := by unfold upd; rw [if_neg h]
theorem Q1o {H : Hp} {a b : Addr} {o : HO} (h : H a = some o) (h' : H b = none) : a ≠ b := by
 intro e; subst e; rw [h] at h'; cases h'
def TupN (h : Heap) (a : Addr) (items : Array Value) : Prop := ∃ o,h.get? a = some o /\ o.dict = none /\ o.cls = .type "tuple" /\ ∃ n,o.data = .seq items n
theorem TupN.t {h : Heap} {a : Addr} {items : Array Value} (x : TupN h a items) : IsTup h a items := let ⟨o,e,_,r⟩ := x; ⟨o,e,r⟩
theorem TupN.new (h : Heap) (items : Array Value) : TupN (h.push { cls := .type "tuple",data := .seq items }) h.objs.size items := ⟨_,Heap.get?_push_size _ rfl,rfl,rfl,_,rfl⟩
section
variable (P : Program) (w : World)
def Q2A (H : Hp) (h : Heap) (a : Addr) : HO -> Prop
 | .lst xs => xs.length <= sizeLine /\ ∃ (its : List Value) (n : Nat),Vals xs its /\ h.get? a = some { cls := .type "list",data := .seq its.toArray n }
 | .tup xs => xs.length <= sizeLine /\ ∃ its : List Value,Vals xs its /\ TupN h a its.toArray
 | .dK kvs => kvs.length <= sizeLine /\ (a == sysModules) = false /\ ∃ vs,KV kvs vs /\ h.DictOf (mixKind P w) a vs
 | .dT kvs => kvs.length <= sizeLine /\ (a == sysModules) = false /\ ∃ xs : List (List Key × Addr × Value),
   Paired (λ (p : List Key × V) (q : List Key × Addr × Value) => p.1 = q.1 /\ H q.2.1 = some (.tup (p.1.map kV)) /\ RelV p.2 q.2.2) kvs xs /\
   ∃ o es ep,h.get? a = some o /\ o.ExactDict /\ o.data = .dict es ep /\ es.toList = xs.map (entryOfKey (tupleKind (mixKind P w))) /\ (xs.map (·.1)).Nodup
 | .set S n => h.SetOf (intKind P w) a S n
 | .ins C dx fs => H dx = some (.own a) /\ fs.length <= 1000 /\ dx ≠ a /\ h.get? a = some (PySem.W.instObj C dx) /\
   ∃ mA,h.Ns1 dx mA /\ (∀ f,RelO (fs.lookup f) (mA f)) /\ PySem.Within mA (fs.map (·.1))
 | .own _ => ∃ o,h.get? a = some o
 | .xd fs => ∃ mA,h.Ns1 a mA /\ ∀ f,RelO (fs.lookup f) (mA f)
 | .rng lo hi => ∃ t u v,h.get? a = some { cls := .type "range",data := .fields #[.int lo t,.int hi u,.int 1 v] }
 | .frz o u => h.get? a = some o /\ Q2A H h a u
 | .tbl ps => h.get? a = some { cls := .none,data := .fields ps }
 | .met f x => h.get? a = some (PySem.W.methodObj (.ref f) (.ref x))
 | .ext φ => φ h /\ (∃ o,h.get? a = some o) /\ ∀ h1 h2 : Heap,φ h1 -> (∀ o,h1.get? a = some o -> h2.get? a = some o) -> φ h2
def HOk (H : Hp) (h : Heap) : Prop := ∀ a o,H a = some o -> Q2A P w H h a o
end
section
variable {P : Program} {w : World} {H H' : Hp} {h h' : Heap} {a : Addr} {o : HO}
theorem Q2A.lt (x : Q2A P w H h a o) : a < h.objs.size := by
 cases o with
 | lst xs => obtain ⟨_,_,_,_,e⟩ := x; exact Heap.lt_size e
 | tup xs => obtain ⟨_,_,_,p⟩ := x; exact p.t.lt
 | dK kvs => obtain ⟨_,_,_,_,o,_,_,e,_⟩ := x; exact Heap.lt_size e
 | dT kvs => obtain ⟨_,_,_,_,o,_,_,e,_⟩ := x; exact Heap.lt_size e
 | set S n => obtain ⟨o,_,_,_,e,_⟩ := x; exact Heap.lt_size e
 | ins C dx fs => obtain ⟨_,_,_,e,_⟩ := x; exact Heap.lt_size e
 | own y => obtain ⟨_,e⟩ := x; exact Heap.lt_size e
 | xd fs => obtain ⟨_,⟨_,_,_,e,_⟩,_⟩ := x; exact Heap.lt_size e
 | rng lo hi => obtain ⟨_,_,_,e⟩ := x; exact Heap.lt_size e
 | frz ob u => obtain ⟨e,_⟩ := x; exact Heap.lt_size e
 | tbl ps => exact Heap.lt_size (show h.get? a = some _ from x)
 | met f y => exact Heap.lt_size (show h.get? a = some _ from x)
 | ext φ => obtain ⟨_,⟨_,e⟩,_⟩ := x; exact Heap.lt_size e
theorem Paired.mapP {α β : Type} {F G : α -> β -> Prop} : ∀ {l₁ : List α} {l₂ : List β},Paired F l₁ l₂ -> (∀ a b,F a b -> G a b) -> Paired G l₁ l₂
 | _,_,.nil,_ => .nil
 | _,_,.cons r t,f => .cons (f _ _ r) (Paired.mapP t f)
theorem Q2A.stay (x : Q2A P w H h a o) (k : ∀ b u,(b = a \/ H b = some (.own a)) -> h.get? b = some u -> h'.get? b = some u)
  (ho : ∀ b,H b = some (.own a) -> H' b = some (.own a)) (ht : ∀ b xs,H b = some (.tup xs) -> H' b = some (.tup xs)) : Q2A P w H' h' a o := by
 induction o with
 | lst xs => obtain ⟨z,its,n,r,e⟩ := x; exact ⟨z,its,n,r,k _ _ (.inl rfl) e⟩
 | tup xs => obtain ⟨z,its,r,ob,e,c⟩ := x; exact ⟨z,its,r,ob,k _ _ (.inl rfl) e,c⟩
 | dK kvs => obtain ⟨z,y,vs,r,ob,es,ep,e,c⟩ := x; exact ⟨z,y,vs,r,ob,es,ep,k _ _ (.inl rfl) e,c⟩
 | dT kvs =>
  obtain ⟨z,y,xs,r,ob,es,ep,e,c⟩ := x
  exact ⟨z,y,xs,Paired.mapP r λ p q z => ⟨z.1,ht _ _ z.2.1,z.2.2⟩,ob,es,ep,k _ _ (.inl rfl) e,c⟩
 | set S n => obtain ⟨ob,es,ep,t,e,c⟩ := x; exact ⟨ob,es,ep,t,k _ _ (.inl rfl) e,c⟩
 | ins C dx fs =>
  obtain ⟨d,z,ne,e,mA,⟨od,es,ep,e2,c⟩,r⟩ := x
  exact ⟨ho _ d,z,ne,k _ _ (.inl rfl) e,mA,⟨od,es,ep,k _ _ (.inr d) e2,c⟩,r⟩
 | own y => obtain ⟨ob,e⟩ := x; exact ⟨ob,k _ _ (.inl rfl) e⟩
 | xd fs => obtain ⟨mA,⟨od,es,ep,e,c⟩,r⟩ := x; exact ⟨mA,⟨od,es,ep,k _ _ (.inl rfl) e,c⟩,r⟩
 | rng lo hi => obtain ⟨t,u,v,e⟩ := x; exact ⟨t,u,v,k _ _ (.inl rfl) e⟩
 | frz ob u ih => obtain ⟨e,q⟩ := x; exact ⟨k _ _ (.inl rfl) e,ih q⟩
 | tbl ps =>
  have e : h.get? a = some { cls := .none,data := .fields ps } := x
  show h'.get? a = some { cls := .none,data := .fields ps }
  exact k a _ (.inl rfl) e
 | met f y =>
  have e : h.get? a = some (PySem.W.methodObj (.ref f) (.ref y)) := x
  show h'.get? a = some (PySem.W.methodObj (.ref f) (.ref y))
  exact k a _ (.inl rfl) e
 | ext φ => obtain ⟨p,⟨o,e⟩,st⟩ := x; exact ⟨st _ _ p λ o q => k _ _ (.inl rfl) q,⟨o,k _ _ (.inl rfl) e⟩,st⟩
theorem HOk.lt (x : HOk P w H h) (e : H a = some o) : a < h.objs.size := (x a o e).lt
theorem HOk.fresh (x : HOk P w H h) (e : h.objs.size <= a) : H a = none := by
 cases q : H a with
 | none => rfl
 | some u => exact absurd (Nat.lt_of_lt_of_le (x.lt q) e) (Nat.lt_irrefl _)
theorem HOk.kept (x : HOk P w H h) (k : ∀ b u,h.get? b = some u -> h'.get? b = some u) : HOk P w H h' := λ a o e =>
 (x a o e).stay (λ b u _ q => k b u q) (λ _ q => q) λ _ _ q => q
theorem HOk.laid (x : HOk P w H h) (k : ∀ b u,h.get? b = some u -> h'.get? b = some u) (hp : h.objs.size <= a) (new : Q2A P w (upd H a o) h' a o) : HOk P w (upd H a o) h' := λ b u e => by
 have hn := x.fresh hp
 by_cases hb : b = a
 ·subst hb; rw [Q0z] at e; cases e; exact new
 ·rw [Q0x hb] at e
  exact (x b u e).stay (λ c v _ q => k c v q) (λ c q => by rw [Q0x (Q1o q hn)]; exact q) λ c xs q => by rw [Q0x (Q1o q hn)]; exact q
end
def Rd (H : Hp) (a : Addr) (u : HO) : Prop := H a = some u \/ ∃ o,H a = some (.frz o u)
theorem Rd.ok {P : Program} {w : World} {H : Hp} {h : Heap} {a : Addr} {u : HO} (r : Rd H a u) (x : HOk P w H h) : Q2A P w H h a u := by
 rcases r with r | ⟨o,r⟩
 ·exact x a u r
 ·obtain ⟨_,q⟩ := x a _ r
  exact q
def Mut : Option HO -> Prop
 | some (.lst _) => True
 | some (.dK _) => True
 | some (.dT _) => True
 | some (.set _ _) => True
 | some (.ins _ _ _) => True
 | some (.ext _) => True
 | _ => False
section
variable {P : Program} {w : World} {H : Hp} {h h' : Heap} {x e : Addr} {o' : HO}
theorem HOk.write (ok : HOk P w H h) (mu : Mut (H x)) (he : e = x \/ H e = some (.own x)) (k : ∀ b u,b ≠ e -> h.get? b = some u -> h'.get? b = some u) (heo : ∃ u,h'.get? e = some u)
  (new : Q2A P w (upd H x o') h' x o') : HOk P w (upd H x o') h' := λ b u q => by
 have nown : ∀ c y,H c = some (.own y) -> c ≠ x := λ c y r z => by subst z; rw [r] at mu; exact mu
 have ntup : ∀ c xs,H c = some (.tup xs) -> c ≠ x := λ c xs r z => by subst z; rw [r] at mu; exact mu
 by_cases hb : b = x
 ·subst hb; rw [Q0z] at q; cases q; exact new
 ·rw [Q0x hb] at q
  by_cases hbe : b = e
  ·have q' : H b = some (.own x) := by
    rcases he with z | z
    ·exact absurd (hbe.trans z) hb
    ·rw [hbe]; exact z
   rw [q] at q'; cases q'
   obtain ⟨v,hv⟩ := heo
   exact ⟨v,by rw [hbe]; exact hv⟩
  ·refine (ok b u q).stay (λ c v hc r => k c v ?_ r) (λ c r => by rw [Q0x (nown c b r)]; exact r) λ c xs r => by rw [Q0x (ntup c xs r)]; exact r
   rcases hc with rfl | hc
   ·exact hbe
   ·rintro rfl
    rcases he with z | z
    ·exact nown c b hc z
    ·rw [hc] at z; cases z; exact hb rfl
end
structure Un (fs ex : List Addr) (H H' : Hp) (h h' : Heap) : Prop where
 keep : ∀ b o,h.get? b = some o -> H b = none -> b ∉ fs -> b ∉ ex -> h'.get? b = some o
 slot : ∀ b o,h.get? b = some o -> H b = none -> b ∈ fs -> b ∉ ex -> ∃ sl,h'.get? b = some { o with slots := sl }
 free : ∀ b o,h.get? b = some o -> H b = none -> b ∉ ex -> H' b = none
 there : ∀ b o,h.get? b = some o -> b ∉ ex -> ∃ o',h'.get? b = some o'
 tups : ∀ b xs,H b = some (.tup xs) -> H' b = some (.tup xs)
 frzs : ∀ b o u,H b = some (.frz o u) -> H' b = some (.frz o u)
 tbls : ∀ b ps,H b = some (.tbl ps) -> ∃ more,H' b = some (.tbl (ps ++ more))
section
variable {fs fs' ex ex' : List Addr} {H H1 H2 : Hp} {h h1 h2 h' : Heap} {a x e : Addr} {o : HO}
theorem Un.any (u : Un fs ex H H1 h h1) {b : Addr} {ob : Obj} (q : h.get? b = some ob) (n : H b = none) (hx : b ∉ ex) : ∃ sl,h1.get? b = some { ob with slots := sl } := by
 by_cases hb : b ∈ fs
 ·exact u.slot b ob q n hb hx
 ·exact ⟨ob.slots,u.keep b ob q n hb hx⟩
theorem Un.kept (k : ∀ b u,h.get? b = some u -> h'.get? b = some u) : Un fs ex H H h h' :=
 ⟨λ b ob q _ _ _ => k b ob q,λ b ob q _ _ _ => ⟨ob.slots,k b ob q⟩,λ _ _ _ n _ => n,λ b ob q _ => ⟨ob,k b ob q⟩,λ _ _ q => q,λ _ _ _ q => q,λ _ ps q => ⟨#[],by rw [q]; simp⟩⟩
theorem Un.refl : Un fs ex H H h h := Un.kept λ _ _ q => q
theorem Un.laid (k : ∀ b u,h.get? b = some u -> h'.get? b = some u) (hp : h.objs.size <= a) (hn : H a = none) : Un fs ex H (upd H a o) h h' where
 keep := λ b u q _ _ _ => k b u q
 slot := λ b u q _ _ _ => ⟨u.slots,k b u q⟩
 free := λ b u q n _ => by rw [Q0x (Nat.ne_of_lt (Nat.lt_of_lt_of_le (Heap.lt_size q) hp))]; exact n
 there := λ b u q _ => ⟨u,k b u q⟩
 tups := λ b xs q => by rw [Q0x (Q1o q hn)]; exact q
 frzs := λ b u xs q => by rw [Q0x (Q1o q hn)]; exact q
 tbls := λ b ps q => ⟨#[],by rw [Q0x (Q1o q hn),q]; simp⟩
theorem Un.write (mu : Mut (H x)) (he : e = x \/ H e = some (.own x)) (k : ∀ b u,b ≠ e -> h.get? b = some u -> h'.get? b = some u) (heo : ∃ u,h'.get? e = some u) : Un fs ex H (upd H x o) h h' := by
 have hx : ∀ b,H b = none -> b ≠ x := λ b n z => by subst z; rw [n] at mu; exact mu
 have hb : ∀ b,H b = none -> b ≠ e := λ b n z => by
  subst z
  rcases he with r | r
  ·exact hx b n r
  ·rw [n] at r; cases r
 have hm : ∀ b u,H b = some u -> ¬ Mut (some u) -> b ≠ x := λ b u q nm z => by subst z; rw [q] at mu; exact nm mu
 refine ⟨λ b u q n _ _ => k b u (hb b n) q,λ b u q n _ _ => ⟨u.slots,k b u (hb b n) q⟩,λ b u q n _ => by rw [Q0x (hx b n)]; exact n,λ b u q _ => ?_,
  λ b xs q => by rw [Q0x (hm b _ q λ z => z)]; exact q,λ b u xs q => by rw [Q0x (hm b _ q λ z => z)]; exact q,λ b ps q => ⟨#[],by rw [Q0x (hm b _ q λ z => z),q]; simp⟩⟩
 by_cases hbe : b = e
 ·subst hbe; exact heo
 ·exact ⟨u,k b u hbe q⟩
end
def trk (h : Heap) (H : Hp) : List Addr := (List.range h.objs.size).filter λ a => (H a).isSome
def hidT (h : Heap) (H : Hp) : Heap := PySem.W.hideAll h (trk h H)
theorem hidT_size (h : Heap) (H : Hp) : (hidT h H).objs.size = h.objs.size := PySem.W.hideAll_size _ _
theorem hidT_get {h : Heap} {H : Hp} {b : Addr} {o : Obj} (e : h.get? b = some o) (n : H b = none) : (hidT h H).get? b = some o :=
 PySem.W.hideAll_get _ e λ hm => by
  have q : (H b).isSome = true := (List.mem_filter.mp hm).2
  rw [n] at q; simp at q
theorem of_hidT {h : Heap} {H : Hp} {b : Addr} {o : Obj} (e : (hidT h H).get? b = some o) : h.get? b = some o /\ H b = none := by
 have e' : h.get? b = some o := PySem.W.of_hideAll (trk h H) e
 refine ⟨e',?_⟩
 cases q : H b with
 | none => rfl
 | some x =>
  have hm : b ∈ trk h H := List.mem_filter.mpr ⟨List.mem_range.mpr (Heap.lt_size e'),by simp [q]⟩
  have z : (hidT h H).get? b = none := PySem.W.hideAll_none (trk h H) hm
  rw [z] at e; cases e
def allNews (g h : Heap) (L : Addr) : List (Addr × Obj) := (List.range h.objs.size).filterMap λ a => if a = L \/ (g.get? a).isSome = true then none else (h.get? a).map λ o => (a,o)
def rest (g h : Heap) (L d : Addr) : List (Addr × Obj) := (allNews g h L).filter λ p => decide (p.1 ≠ d)
end L2
namespace L2
open PySem PySem.Spec PyProof.Rows
structure Mod (K : PySem.W.Frag) (mg : Str -> Option Value) (base : Heap) : Prop where
 kin : K.In base
 glob : base.Ns mainGlobals mg
 blt : ∃ mb,base.Ns builtinsNs mb /\ ∀ x : Str,x ≠ "__name__" -> mb x = bootBuiltins x
 nolimit : base.NoLimit
structure Cx where
 prog : Program
 w : World
 K : PySem.W.Frag
 mg : Str -> Option Value
 base : Heap
 A : Around
 N : List Str
 s₀ : Shared
 H₀ : Hp
 env : Env
 outer : List Env
 stack : List Env
 ex : List Addr
 fn : Str -> Bool
 calm : Bool
 pn : List (Addr × Obj)
 xe : Value -> Shared -> Prop
def frs (l : List Env) : List Addr := l.filterMap (·.frame)
abbrev Cx.fs (X : Cx) : List Addr := frs X.outer
def Vis (sc : Scope) (x : Str) : Prop := sc.names.lookup x = some .local \/ sc.names.lookup x = some .cell \/ sc.names.lookup x = some .free
def Loc (sc : Scope) (x : Str) : Prop := sc.names.lookup x = some .local \/ sc.names.lookup x = some .cell
def Look (env : Env) (h : Heap) (m : Str -> Option Value) (x : Str) (u : Value) : Prop :=
 (env.kindOf x = some .local /\ m x = some u) \/ ((env.kindOf x = some .cell \/ env.kindOf x = some .free) /\ ∃ c,env.cells.lookup x = some c /\ h.IsCell c (some u))
structure Cx.Ok (X : Cx) : Prop where
 mod : Mod X.K X.mg X.base
 kind : X.env.scope.kind = .function
 glob : X.env.globals = mainGlobals
 blt : X.env.builtins = builtinsNs
 above : X.s₀.heap.objs.size <= X.env.locals
 inj : ∀ x y c,X.env.cells.lookup x = some c -> X.env.cells.lookup y = some c -> x = y
 has : ∀ x,(X.env.kindOf x = some .cell \/ X.env.kindOf x = some .free) -> ∃ c,X.env.cells.lookup x = some c
 cab : ∀ x c,X.fn x = true -> X.env.cells.lookup x = some c -> X.s₀.heap.objs.size <= c
 hd : X.calm = true -> X.A.handled = none
 frames : X.A.frames = some X.stack
 stk : X.stack = X.outer \/ (X.stack = X.env :: X.outer /\ X.env.frame = some X.env.locals)
 exf : ∀ b ∈ X.ex,b ≠ X.env.locals /\ ∀ x c,X.env.cells.lookup x = some c -> c ≠ b
 bs : ∀ b o,X.base.get? b = some o -> X.s₀.heap.get? b = some o /\ X.H₀ b = none
 bsz : X.base.objs.size <= X.s₀.heap.objs.size
 noex : ∀ b o,X.base.get? b = some o -> b ∉ X.ex
 exfs : ∀ b ∈ X.ex,b ∉ X.fs
 funs : X.s₀.heap.FunFrames X.base X.outer
 frf : ∀ b ∈ X.fs,X.H₀ b = none
structure Inv (X : Cx) (pins : List (Addr × Obj)) (σ : List (Option V)) (H : Hp) (s : Shared) : Prop where
 ok : X.Ok
 os : s.os = X.s₀.os
 bare : AllBare s.gens
 base : Un X.fs X.ex X.H₀ H X.s₀.heap s.heap
 loc : ∃ m,s.heap.Ns X.env.locals m /\ ∀ (i : Nat) (x : Str) (v : V),X.N[i]? = some x -> σ[i]? = some (some v) -> Vis X.env.scope x -> ∃ u,RelV v u /\ Look X.env s.heap m x u
 cell : ∀ x c,X.env.cells.lookup x = some c -> ∃ v,s.heap.IsCell c v
 free : H X.env.locals = none
 freeC : ∀ x c,X.env.cells.lookup x = some c -> H c = none
 pin : ∀ p ∈ X.pn ++ pins,s.heap.get? p.1 = some p.2 /\ H p.1 = none /\ p.1 ≠ X.env.locals /\ p.1 ∉ X.fs /\ ∀ v,p.2.data ≠ .cell v
 hok : HOk X.prog X.w H s.heap
 len : σ.length = X.N.length
section
variable {X : Cx} {pins : List (Addr × Obj)} {σ : List (Option V)} {H H' : Hp} {s : Shared} {h' : Heap}
theorem Cx.Ok.nofr (ok : X.Ok) {b : Addr} {o : Obj} (e : X.base.get? b = some o) : b ∉ X.fs := λ hb => by
 have := (ok.funs.mem hb).1
 rw [e] at this; cases this
theorem Inv.bs (I : Inv X pins σ H s) : ∀ b o,X.base.get? b = some o -> s.heap.get? b = some o /\ H b = none := λ b o e =>
 ⟨I.base.keep b o (I.ok.bs b o e).1 (I.ok.bs b o e).2 (I.ok.nofr e) (I.ok.noex b o e),I.base.free b o (I.ok.bs b o e).1 (I.ok.bs b o e).2 (I.ok.noex b o e)⟩
theorem Inv.bk (I : Inv X pins σ H s) : ∀ b o,X.base.get? b = some o -> s.heap.get? b = some o := λ b o e => (I.bs b o e).1
theorem Inv.mod (I : Inv X pins σ H s) : Mod X.K X.mg X.base := I.ok.mod
theorem Inv.kIn (I : Inv X pins σ H s) : X.K.In s.heap := I.ok.mod.kin.keeps I.bk
theorem Inv.lt (I : Inv X pins σ H s) : X.env.locals < s.heap.objs.size := let ⟨_,hn,_⟩ := I.loc; hn.lt
theorem Inv.sz (I : Inv X pins σ H s) : X.s₀.heap.objs.size <= s.heap.objs.size := Nat.le_trans I.ok.above (Nat.le_of_lt I.lt)
theorem Inv.nofs (I : Inv X pins σ H s) {a : Addr} (h : s.heap.objs.size <= a) : a ∉ X.fs := λ hb => by
 obtain ⟨_,o,ho,_⟩ := I.ok.funs.mem hb
 exact absurd (Nat.lt_of_lt_of_le (Heap.lt_size ho) (Nat.le_trans I.sz h)) (Nat.lt_irrefl _)
theorem Inv.cne (I : Inv X pins σ H s) : ∀ x c,X.env.cells.lookup x = some c -> c ≠ X.env.locals := λ x c e z => by
 obtain ⟨v,o,ho,hd⟩ := I.cell x c e
 obtain ⟨m,⟨o',es,ep,ho',hd',_⟩,_⟩ := I.loc
 rw [z,ho'] at ho; cases ho; rw [hd'] at hd; cases hd
theorem Inv.funs (I : Inv X pins σ H s) : s.heap.FunFrames X.base X.outer := by
 have all : ∀ (l : List Env),(∀ b ∈ frs l,b ∈ X.fs) -> X.s₀.heap.FunFrames X.base l -> s.heap.FunFrames X.base l := by
  intro l
  induction l with
  | nil => intro _ _; trivial
  | cons env r ih =>
   intro hs hl
   obtain ⟨hk,⟨L,o,hf,hn,ho,hd⟩,hr⟩ := hl
   have hL : L ∈ X.fs := hs L (by unfold frs; rw [List.filterMap_cons,hf]; exact List.mem_cons_self)
   obtain ⟨sl,e⟩ := I.base.slot L o ho (I.ok.frf L hL) hL λ z => I.ok.exfs L z hL
   exact ⟨hk,⟨L,_,hf,hn,e,hd⟩,ih (λ b hb => hs b (by unfold frs; rw [List.filterMap_cons,hf]; exact List.mem_cons_of_mem _ hb)) hr⟩
 exact all X.outer (λ _ hb => hb) I.ok.funs
theorem Inv.stack (I : Inv X pins σ H s) : s.heap.FunFrames X.base X.stack := by
 rcases I.ok.stk with e | ⟨e,hf⟩
 ·rw [e]; exact I.funs
 ·rw [e]
  obtain ⟨m,hn,_⟩ := I.loc
  refine .cons (by rw [I.ok.kind]; decide) hf hn ?_ I.funs
  exact Heap.get?_none_of_le (Nat.le_trans I.ok.bsz I.ok.above)
theorem Inv.stkSub (I : Inv X pins σ H s) : ∀ b ∈ frs X.stack,b ∈ X.env.locals :: X.fs := λ b hb => by
 rcases I.ok.stk with e | ⟨e,hf⟩
 ·rw [e] at hb; exact List.mem_cons_of_mem _ hb
 ·rw [e] at hb
  unfold frs at hb
  rw [List.filterMap_cons,hf] at hb
  exact hb
theorem Inv.stkFree (I : Inv X pins σ H s) : ∀ b ∈ frs X.stack,H b = none := λ b hb => by
 rcases List.mem_cons.mp (I.stkSub b hb) with e | hb
 ·rw [e]; exact I.free
 ·obtain ⟨_,o,ho,_⟩ := I.ok.funs.mem hb
  exact I.base.free b o ho (I.ok.frf b hb) λ z => I.ok.exfs b z hb
theorem Inv.step {g' : Array GenState} {t' : Nat} {d' : Drawn} {ch : List Addr} (I : Inv X pins σ H s)
  (hch : ∀ b ∈ ch,(b ∈ X.ex \/ X.s₀.heap.objs.size <= b) /\ b ≠ X.env.locals /\ (∀ x c,X.env.cells.lookup x = some c -> c ≠ b) /\ ∀ p ∈ X.pn ++ pins,p.1 ≠ b)
  (keep : ∀ b o,b ≠ X.env.locals -> b ∉ X.fs -> b ∉ ch -> s.heap.get? b = some o -> H b = none -> h'.get? b = some o)
  (slot : ∀ b o,b ≠ X.env.locals -> b ∈ X.fs -> b ∉ ch -> s.heap.get? b = some o -> H b = none -> ∃ sl,h'.get? b = some { o with slots := sl }) (free : ∀ b o,b ∉ ch -> s.heap.get? b = some o -> H b = none -> H' b = none)
  (there : ∀ b o,b ∉ ch -> s.heap.get? b = some o -> ∃ o',h'.get? b = some o')
  (tups : ∀ b xs,H b = some (.tup xs) -> H' b = some (.tup xs)) (frzs : ∀ b o u,H b = some (.frz o u) -> H' b = some (.frz o u)) (tbls : ∀ b ps,H b = some (.tbl ps) -> ∃ more,H' b = some (.tbl (ps ++ more)))
  (ns : ∀ m,s.heap.Ns X.env.locals m -> h'.Ns X.env.locals m) (hok : HOk X.prog X.w H' h') (hg : AllBare g') :
  Inv X pins σ H' { s with heap := h',gens := g',drawn := d',toks := t' } := by
 have neL : ∀ b o,X.s₀.heap.get? b = some o -> b ≠ X.env.locals := λ b o e => Nat.ne_of_lt (Nat.lt_of_lt_of_le (Heap.lt_size e) I.ok.above)
 have neC : ∀ b o,X.s₀.heap.get? b = some o -> b ∉ X.ex -> b ∉ ch := λ b o e hx hb => by
  rcases (hch b hb).1 with z | z
  ·exact hx z
  ·exact absurd (Nat.lt_of_lt_of_le (Heap.lt_size e) z) (Nat.lt_irrefl _)
 have cellK : ∀ x c,X.env.cells.lookup x = some c -> ∀ v,s.heap.IsCell c v -> h'.IsCell c v := λ x c e v ⟨o,ho,hd⟩ => by
  have nch : c ∉ ch := λ z => (hch c z).2.2.1 x c e rfl
  by_cases hc : c ∈ X.fs
  ·obtain ⟨sl,q⟩ := slot c o (I.cne x c e) hc nch ho (I.freeC x c e)
   exact ⟨_,q,hd⟩
  ·exact ⟨o,keep c o (I.cne x c e) hc nch ho (I.freeC x c e),hd⟩
 refine ⟨I.ok,I.os,hg,⟨λ b o e n hb hx => ?_,λ b o e n hb hx => ?_,λ b o e n hx => ?_,λ b o e hx => ?_,λ b xs e => tups b xs (I.base.tups b xs e),λ b o xs e => frzs b o xs (I.base.frzs b o xs e),λ b ps e => ?_⟩,?_,λ x c e => ?_,?_,λ x c e => ?_,λ p hp => ?_,hok,I.len⟩
 ·exact keep b o (neL b o e) hb (neC b o e hx) (I.base.keep b o e n hb hx) (I.base.free b o e n hx)
 ·obtain ⟨sl,e1⟩ := I.base.slot b o e n hb hx
  obtain ⟨sl',e2⟩ := slot b _ (neL b o e) hb (neC b o e hx) e1 (I.base.free b o e n hx)
  exact ⟨sl',e2⟩
 ·obtain ⟨o',e1⟩ := I.base.there b o e hx
  exact free b o' (neC b o e hx) e1 (I.base.free b o e n hx)
 ·obtain ⟨o',e1⟩ := I.base.there b o e hx
  exact there b o' (neC b o e hx) e1
 ·obtain ⟨m1,e1⟩ := I.base.tbls b ps e
  obtain ⟨m2,e2⟩ := tbls b _ e1
  exact ⟨m1 ++ m2,by rw [e2,Array.append_assoc]⟩
 ·obtain ⟨m,hn,hl⟩ := I.loc
  refine ⟨m,ns m hn,λ i x v e1 e2 e3 => ?_⟩
  obtain ⟨u,r,l⟩ := hl i x v e1 e2 e3
  refine ⟨u,r,?_⟩
  rcases l with l | ⟨k,c,e,z⟩
  ·exact .inl l
  ·exact .inr ⟨k,c,e,cellK x c e _ z⟩
 ·obtain ⟨v,z⟩ := I.cell x c e
  exact ⟨v,cellK x c e v z⟩
 ·obtain ⟨m,⟨o,_,_,ho,_⟩,_⟩ := I.loc
  exact free _ o (λ z => (hch _ z).2.1 rfl) ho I.free
 ·obtain ⟨v,o,ho,hd⟩ := I.cell x c e
  exact free c o (λ z => (hch c z).2.2.1 x c e rfl) ho (I.freeC x c e)
 ·obtain ⟨e,n,ne,nf,d⟩ := I.pin p hp
  have nch : p.1 ∉ ch := λ z => (hch p.1 z).2.2.2 p hp rfl
  exact ⟨keep p.1 p.2 ne nf nch e n,free p.1 p.2 nch e n,ne,nf,d⟩
theorem Inv.un {t' : Nat} (I : Inv X pins σ H s) (u : Un X.fs [] H H' s.heap h') (hok : HOk X.prog X.w H' h') : Inv X pins σ H' { s with heap := h',toks := t' } := by
 obtain ⟨m,⟨o,es,ep,ho,r⟩,_⟩ := id I.loc
 obtain ⟨sl,hL⟩ := u.any ho I.free (by simp)
 exact I.step (g' := s.gens) (d' := s.drawn) (ch := []) (λ _ z => nomatch z) (λ b o _ hb _ e n => u.keep b o e n hb (by simp)) (λ b o _ hb _ e n => u.slot b o e n hb (by simp)) (λ b o _ e n => u.free b o e n (by simp)) (λ b o _ e => u.there b o e (by simp)) u.tups u.frzs u.tbls (λ m' hm => by
  obtain ⟨o',es',ep',ho',r'⟩ := hm
  rw [ho] at ho'; cases ho'
  exact ⟨_,es',ep',hL,r'⟩) hok I.bare
theorem Inv.call {g' : Array GenState} {t' : Nat} {d' : Drawn} {ch : List Addr} (I : Inv X pins σ H s) (u : Un (frs X.stack) ch H H' s.heap h') (hok : HOk X.prog X.w H' h') (hg : AllBare g')
  (hch : ∀ b ∈ ch,(b ∈ X.ex \/ X.s₀.heap.objs.size <= b) /\ b ≠ X.env.locals /\ (∀ x c,X.env.cells.lookup x = some c -> c ≠ b) /\ ∀ p ∈ X.pn ++ pins,p.1 ≠ b) :
  Inv X pins σ H' { s with heap := h',gens := g',drawn := d',toks := t' } := by
 obtain ⟨m,⟨o,es,ep,ho,r⟩,_⟩ := id I.loc
 obtain ⟨sl,hL⟩ := u.any ho I.free λ z => (hch _ z).2.1 rfl
 exact I.step (ch := ch) hch (λ b o hL hb hc e n => u.keep b o e n (λ z => (List.mem_cons.mp (I.stkSub b z)).elim hL hb) hc) (λ b o _ _ hc e n => u.any e n hc) (λ b o hc e n => u.free b o e n hc) (λ b o hc e => u.there b o e hc) u.tups u.frzs u.tbls (λ m' hm => by
  obtain ⟨o',es',ep',ho',r'⟩ := hm
  rw [ho] at ho'; cases ho'
  exact ⟨_,es',ep',hL,r'⟩) hok hg
theorem Inv.turned {t' : Nat} {it : Addr} (I : Inv X pins σ H s) (k : ∀ b o,b ≠ it -> s.heap.get? b = some o -> h'.get? b = some o) (hn : H it = none) (hL : it ≠ X.env.locals)
  (h1 : it ∈ X.ex \/ X.s₀.heap.objs.size <= it) (h2 : ∀ x c,X.env.cells.lookup x = some c -> c ≠ it) (h3 : ∀ p ∈ X.pn ++ pins,p.1 ≠ it) : Inv X pins σ H { s with heap := h',toks := t' } := by
 have nit : ∀ b u,H b = some u -> b ≠ it := λ b u e z => by rw [z,hn] at e; cases e
 refine I.step (g' := s.gens) (d' := s.drawn) (ch := [it]) (λ b hb => ?_) (λ b o _ _ hc e _ => k b o (λ z => hc (by simp [z])) e) (λ b o _ _ hc e _ => ⟨o.slots,k b o (λ z => hc (by simp [z])) e⟩) (λ _ _ _ _ n => n)
  (λ b o hc e => ⟨o,k b o (λ z => hc (by simp [z])) e⟩) (λ _ _ e => e) (λ _ _ _ e => e) (λ b ps e => ⟨#[],by rw [e]; simp⟩) (λ m hm => ?_) (λ b u e => ?_) I.bare
 ·have e : b = it := by simpa using hb
  subst e
  exact ⟨h1,hL,h2,h3⟩
 ·obtain ⟨o,es,ep,ho,r⟩ := hm
  exact ⟨o,es,ep,k _ o (Ne.symm hL) ho,r⟩
 ·refine (I.hok b u e).stay (λ c v hc q => k c v ?_ q) (λ _ q => q) λ _ _ q => q
  rcases hc with z | z
  ·rw [z]; exact nit b u e
  ·exact nit c _ z
theorem Inv.tok (I : Inv X pins σ H s) (t : Nat) : Inv X pins σ H { s with toks := t } := I.un (h' := s.heap) (t' := t) Un.refl I.hok
theorem Inv.kept {t' : Nat} (I : Inv X pins σ H s) (k : ∀ b u,s.heap.get? b = some u -> h'.get? b = some u) : Inv X pins σ H { s with heap := h',toks := t' } := I.un (Un.kept k) (I.hok.kept k)
theorem Inv.laid {a : Addr} {o : HO} {t' : Nat} (I : Inv X pins σ H s) (k : ∀ b u,s.heap.get? b = some u -> h'.get? b = some u) (hp : s.heap.objs.size <= a) (new : Q2A X.prog X.w (upd H a o) h' a o) :
  Inv X pins σ (upd H a o) { s with heap := h',toks := t' } := I.un (Un.laid k hp (I.hok.fresh hp)) (I.hok.laid k hp new)
theorem Inv.write {x e : Addr} {o : HO} {t' : Nat} (I : Inv X pins σ H s) (mu : Mut (H x)) (he : e = x \/ H e = some (.own x)) (k : ∀ b u,b ≠ e -> s.heap.get? b = some u -> h'.get? b = some u) (heo : ∃ u,h'.get? e = some u)
  (new : Q2A X.prog X.w (upd H x o) h' x o) : Inv X pins σ (upd H x o) { s with heap := h',toks := t' } := I.un (Un.write mu he k heo) (I.hok.write mu he k heo new)
theorem Inv.pins_of {pins' : List (Addr × Obj)} (I : Inv X pins σ H s) (h : ∀ p ∈ pins',s.heap.get? p.1 = some p.2 /\ H p.1 = none /\ p.1 ≠ X.env.locals /\ p.1 ∉ X.fs /\ ∀ v,p.2.data ≠ .cell v) : Inv X pins' σ H s :=
 ⟨I.ok,I.os,I.bare,I.base,I.loc,I.cell,I.free,I.freeC,λ p hp => (List.mem_append.mp hp).elim (λ z => I.pin p (List.mem_append_left _ z)) (h p),I.hok,I.len⟩
theorem nodup_ix {N : List Str} (hN : N.Nodup) {i j : Nat} {x : Str} (a : N[i]? = some x) (b : N[j]? = some x) : i = j := by
 obtain ⟨h1,e1⟩ := List.getElem?_eq_some_iff.mp a
 obtain ⟨h2,e2⟩ := List.getElem?_eq_some_iff.mp b
 exact (List.getElem_inj hN).mp (e1.trans e2.symm)
theorem store_ok2 {M : Model} {A : Around} {E : Value -> Shared -> Prop} {i : Nat} {x : Str} {v : V} {u : Value} {Q : Unit -> Shared -> Prop} (I : Inv X pins σ H s) (hN : X.N.Nodup) (hi : X.N[i]? = some x) (hx : Loc X.env.scope x) (r : RelV v u)
  (h : ∀ s',Inv X pins (σ.set i (some v)) H s' -> (∃ a,Heap.SameBut a s.heap s'.heap /\ (a = X.env.locals \/ X.env.cells.lookup x = some a)) -> Q () s') (hf : X.fn x = true \/ X.env.scope.names.lookup x = some .local := by first | exact .inl rfl | exact .inr rfl | assumption) : wpAny M A (storeName X.env x u) Q E s := by
 obtain ⟨m,hn,hl⟩ := id I.loc
 have hcls : (X.env.scope.kind == .class || (X.env.scope.kind == .module && X.env.locals != X.env.globals)) = false := by rw [I.ok.kind]; rfl
 have hiσ : i < σ.length := by rw [I.len]; exact (List.getElem?_eq_some_iff.mp hi).1
 have cne := I.cne
 have tracked : ∀ {a : Addr} {h' : Heap},(∃ o,s.heap.get? a = some o /\ H a = none) -> Heap.SameBut a s.heap h' -> HOk X.prog X.w H h' := λ {a h'} ha hs b ob e => by
  obtain ⟨_,_,hfree⟩ := ha
  refine (I.hok b ob e).stay (λ c w' hc q => (hs.2 c ?_).trans q) (λ _ q => q) λ _ _ q => q
  rintro rfl
  rcases hc with rfl | hc
  ·rw [hfree] at e; cases e
  ·rw [hfree] at hc; cases hc
 rcases hx with hk | hk
 ·refine wpAny_storeName_local hk hn (λ h' hn' hs => ?_) hcls
  obtain ⟨oL,_,_,hoL,_⟩ := id hn
  refine h _ ⟨I.ok,I.os,I.bare,⟨λ b o e n hb hx => ?_,λ b o e n hb hx => ?_,I.base.free,λ b o e hx => ?_,I.base.tups,I.base.frzs,I.base.tbls⟩,⟨_,hn',λ j y v' e1 e2 e3 => ?_⟩,λ y c e => ?_,I.free,I.freeC,λ p hp => ?_,tracked ⟨oL,hoL,I.free⟩ hs,by simpa using I.len⟩ ⟨_,hs,.inl rfl⟩
  ·exact (hs.2 b (Nat.ne_of_lt (Nat.lt_of_lt_of_le (Heap.lt_size e) I.ok.above))).trans (I.base.keep b o e n hb hx)
  ·obtain ⟨sl,e1⟩ := I.base.slot b o e n hb hx
   exact ⟨sl,(hs.2 b (Nat.ne_of_lt (Nat.lt_of_lt_of_le (Heap.lt_size e) I.ok.above))).trans e1⟩
  ·obtain ⟨o',e1⟩ := I.base.there b o e hx
   exact ⟨o',(hs.2 b (Nat.ne_of_lt (Nat.lt_of_lt_of_le (Heap.lt_size e) I.ok.above))).trans e1⟩
  ·by_cases hj : j = i
   ·subst hj
    rw [hi] at e1; cases e1
    rw [List.getElem?_set_self hiσ] at e2
    cases e2
    exact ⟨u,r,.inl ⟨hk,by simp⟩⟩
   ·rw [List.getElem?_set_ne (Ne.symm hj)] at e2
    obtain ⟨u',r',q⟩ := hl j y v' e1 e2 e3
    refine ⟨u',r',?_⟩
    rcases q with ⟨k,e⟩ | ⟨k,c,e,z⟩
    ·refine .inl ⟨k,?_⟩
     have : y ≠ x := λ e => hj (nodup_ix hN e1 (e ▸ hi))
     simp [this,e]
    ·exact .inr ⟨k,c,e,z.sameBut hs (cne y c e)⟩
  ·obtain ⟨w',z⟩ := I.cell y c e
   exact ⟨w',z.sameBut hs (cne y c e)⟩
  ·obtain ⟨e,n,ne,nf,d⟩ := I.pin p hp
   exact ⟨(hs.2 p.1 ne).trans e,n,ne,nf,d⟩
 ·have hfn : X.fn x = true := by
   rcases hf with z | z
   ·exact z
   ·rw [z] at hk; cases hk
  obtain ⟨c,hc⟩ := I.ok.has x (.inl hk)
  obtain ⟨w',z⟩ := I.cell x c hc
  refine wpAny_storeName_cell I.ok.kind hk hc z (λ h' hc' hs => ?_)
  obtain ⟨oc,hoc,hocd⟩ := id z
  refine h { s with heap := h' } ⟨I.ok,I.os,I.bare,⟨λ b o e n hb hx => ?_,λ b o e n hb hx => ?_,I.base.free,λ b o e hx => ?_,I.base.tups,I.base.frzs,I.base.tbls⟩,⟨m,hn.sameBut hs (Ne.symm (cne x c hc)),λ j y v' e1 e2 e3 => ?_⟩,λ y c' e => ?_,I.free,I.freeC,λ p hp => ?_,tracked ⟨oc,hoc,I.freeC x c hc⟩ hs,by simpa using I.len⟩ ⟨c,hs,.inr hc⟩
  ·exact (hs.2 b (Nat.ne_of_lt (Nat.lt_of_lt_of_le (Heap.lt_size e) (I.ok.cab x c hfn hc)))).trans (I.base.keep b o e n hb hx)
  ·obtain ⟨sl,e1⟩ := I.base.slot b o e n hb hx
   exact ⟨sl,(hs.2 b (Nat.ne_of_lt (Nat.lt_of_lt_of_le (Heap.lt_size e) (I.ok.cab x c hfn hc)))).trans e1⟩
  ·obtain ⟨o',e1⟩ := I.base.there b o e hx
   exact ⟨o',(hs.2 b (Nat.ne_of_lt (Nat.lt_of_lt_of_le (Heap.lt_size e) (I.ok.cab x c hfn hc)))).trans e1⟩
  ·by_cases hj : j = i
   ·subst hj
    rw [hi] at e1; cases e1
    rw [List.getElem?_set_self hiσ] at e2
    cases e2
    exact ⟨u,r,.inr ⟨.inl hk,c,hc,hc'⟩⟩
   ·rw [List.getElem?_set_ne (Ne.symm hj)] at e2
    obtain ⟨u',r',q⟩ := hl j y v' e1 e2 e3
    refine ⟨u',r',?_⟩
    rcases q with q | ⟨k,c',e,z'⟩
    ·exact .inl q
    ·refine .inr ⟨k,c',e,z'.sameBut hs ?_⟩
     rintro rfl
     exact hj (nodup_ix hN e1 (I.ok.inj _ _ _ e hc ▸ hi))
  ·by_cases hcc : c' = c
   ·subst hcc; exact ⟨_,hc'⟩
   ·obtain ⟨w2,z2⟩ := I.cell y c' e
    exact ⟨w2,z2.sameBut hs hcc⟩
  ·obtain ⟨e,n,ne,nf,d⟩ := I.pin p hp
   refine ⟨(hs.2 p.1 ?_).trans e,n,ne,nf,d⟩
   intro q
   rw [q,hoc] at e
   have q' : oc = p.2 := Option.some.inj e
   exact d w' (by rw [<- q']; exact hocd)
theorem store_ok {M : Model} {A : Around} {E : Value -> Shared -> Prop} {i : Nat} {x : Str} {v : V} {u : Value} {Q : Unit -> Shared -> Prop} (I : Inv X pins σ H s) (hN : X.N.Nodup) (hi : X.N[i]? = some x) (hx : Loc X.env.scope x) (r : RelV v u)
  (h : ∀ s',Inv X pins (σ.set i (some v)) H s' -> Q () s') (hf : X.fn x = true \/ X.env.scope.names.lookup x = some .local := by first | exact .inl rfl | exact .inr rfl | assumption) : wpAny M A (storeName X.env x u) Q E s :=
 store_ok2 I hN hi hx r (λ s' I' _ => h s' I') hf
theorem Inv.call' {s' : Shared} {ch : List Addr} (I : Inv X pins σ H s) (ho : s'.os = s.os) (u : Un (frs X.stack) ch H H' s.heap s'.heap) (hok : HOk X.prog X.w H' s'.heap) (hg : AllBare s'.gens)
  (hch : ∀ b ∈ ch,(b ∈ X.ex \/ X.s₀.heap.objs.size <= b) /\ b ≠ X.env.locals /\ (∀ x c,X.env.cells.lookup x = some c -> c ≠ b) /\ ∀ p ∈ X.pn ++ pins,p.1 ≠ b) : Inv X pins σ H' s' := by
 obtain ⟨h',g',d',t',o'⟩ := s'
 have e : o' = s.os := ho
 subst e
 exact I.call (g' := g') (t' := t') (d' := d') u hok hg hch
end
abbrev XK := Value -> Option Addr -> Hp -> Prop
abbrev St := List (Option V)
abbrev VK := V -> Hp -> Prop
abbrev TE := St -> Hp -> VK -> Prop
abbrev TT := St -> Hp -> (Bool -> Hp -> Prop) -> Prop
abbrev TA := St -> Hp -> (List V -> Hp -> Prop) -> Prop
structure Ends where
 nx : St -> Hp -> Prop
 rt : VK
 bk : St -> Hp -> Prop := λ _ _ => False
 ct : St -> Hp -> Prop := λ _ _ => False
abbrev TS := Ends -> St -> Hp -> Prop
def EP (X : Cx) (pins : List (Addr × Obj)) (σ : St) (Q : VK) (u : Value) (s' : Shared) : Prop := ∃ v H',Inv X pins σ H' s' /\ RelV v u /\ Q v H'
def TP (X : Cx) (pins : List (Addr × Obj)) (σ : St) (Q : Bool -> Hp -> Prop) (b : Bool) (s' : Shared) : Prop := ∃ H',Inv X pins σ H' s' /\ Q b H'
def AP (X : Cx) (pins : List (Addr × Obj)) (σ : St) (Q : List V -> Hp -> Prop) (us : List Value) (s' : Shared) : Prop := ∃ vs H',Inv X pins σ H' s' /\ Vals vs us /\ Q vs H'
def SP (X : Cx) (pins : List (Addr × Obj)) (D : Ends) (f : Flow) (s' : Shared) : Prop :=
 match f with
 | .next => ∃ σ' H',Inv X pins σ' H' s' /\ D.nx σ' H'
 | .brk => ∃ σ' H',Inv X pins σ' H' s' /\ D.bk σ' H'
 | .cont => ∃ σ' H',Inv X pins σ' H' s' /\ D.ct σ' H'
 | .ret u => ∃ v σ' H',Inv X pins σ' H' s' /\ RelV v u /\ D.rt v H'
def PE (X : Cx) (e : Expr) (t : TE) : Prop :=
 ∀ (pins : List (Addr × Obj)) (s : Shared) (σ : St) (H : Hp) (Q : VK),Inv X pins σ H s -> t σ H Q -> wpAny (model X.prog X.w) X.A (eval e X.env) (EP X pins σ Q) X.xe s
def PT (X : Cx) (e : Expr) (t : TT) : Prop :=
 ∀ (pins : List (Addr × Obj)) (s : Shared) (σ : St) (H : Hp) (Q : Bool -> Hp -> Prop),Inv X pins σ H s -> t σ H Q -> wpAny (model X.prog X.w) X.A (isTrue e X.env (eval e X.env)) (TP X pins σ Q) X.xe s
def PW (X : Cx) (e : Expr) (t : TT) : Prop :=
 ∀ (whole : Sem Value) (pins : List (Addr × Obj)) (s : Shared) (σ : St) (H : Hp) (Q : Bool -> Hp -> Prop),Inv X pins σ H s -> t σ H Q -> wpAny (model X.prog X.w) X.A (isTrue e X.env whole) (TP X pins σ Q) X.xe s
theorem PW.pt {X : Cx} {e : Expr} {t : TT} (h : PW X e t) : PT X e t := h _
def PA (X : Cx) (es : List Expr) (t : TA) : Prop :=
 ∀ (pos : Pos) (pins : List (Addr × Obj)) (s : Shared) (σ : St) (H : Hp) (Q : List V -> Hp -> Prop),Inv X pins σ H s -> t σ H Q -> wpAny (model X.prog X.w) X.A (spliced (backTo pos (starEach es X.env))) (AP X pins σ Q) X.xe s
def PS (X : Cx) (st : Stmt) (t : TS) : Prop :=
 ∀ (pins : List (Addr × Obj)) (s : Shared) (σ : St) (H : Hp) (D : Ends),Inv X pins σ H s -> t D σ H -> wpAny (model X.prog X.w) X.A (exec st X.env) (SP X pins D) X.xe s
def PSs (X : Cx) (st : List Stmt) (t : TS) : Prop :=
 ∀ (pins : List (Addr × Obj)) (s : Shared) (σ : St) (H : Hp) (D : Ends),Inv X pins σ H s -> t D σ H -> wpAny (model X.prog X.w) X.A (execs st X.env) (SP X pins D) X.xe s
theorem thn {α : Type} {t : Sem α} {Q Q' : α -> Shared -> Prop} {M : Model} {A : Around} {E : Value -> Shared -> Prop} {s : Shared} (h : wpAny M A t Q E s) (hQ : ∀ a s,Q a s -> Q' a s) : wpAny M A t Q' E s := wpAny_mono h hQ λ _ _ x => x
end L2
namespace L2
open PySem PySem.Spec PyProof.Rows
section
variable {X : Cx}
def tVar (i : Nat) : TE := λ σ H Q => ∃ v,σ[i]? = some (some v) /\ Q v H
def tC (v : V) : TE := λ _ H Q => Q v H
theorem pe_var {i : Nat} {x : Str} {pos : Pos} (hN : X.N[i]? = some x) (hv : Vis X.env.scope x) (hd : (x == ("__debug__" : Str)) = false := by decide) (hcd : (x == ("__classdict__" : Str)) = false := by decide) : PE X (.Name x pos) (tVar i) := by
 intro pins s σ H Q I h
 obtain ⟨v,e,h⟩ := h
 obtain ⟨m,hn,hl⟩ := I.loc
 obtain ⟨u,r,l⟩ := hl i x v hN e hv
 have fin : EP X pins σ Q u s := ⟨v,H,I,r,h⟩
 rcases l with ⟨hk,hm⟩ | ⟨hk,c,hc,hcell⟩
 ·exact wpAny_Name (wpAny_loadName_local I.ok.kind hk hn hm fin) hd
 ·rcases hk with hk | hk
  ·exact wpAny_Name (wpAny_loadName_cell I.ok.kind hk hc hcell fin) hd
  ·exact wpAny_Name (wpAny_loadName_free I.ok.kind hk hc hcell fin hcd) hd
theorem pe_int {i j pos} : PE X (.Constant (.int i) j pos) (tC (.int i)) := λ _ _ _ H _ I h => wpAny_Constant_int ⟨.int i,H,I.tok _,⟨_,rfl⟩,h⟩
theorem pe_bl {b j pos} : PE X (.Constant (.bool b) j pos) (tC (.bl b)) := λ _ _ _ H _ I h => Constant_bool ⟨.bl b,H,I,rfl,h⟩
theorem pe_non {j pos} : PE X (.Constant .none j pos) (tC .non) := λ _ _ _ H _ I h => Constant_none ⟨.non,H,I,rfl,h⟩
theorem pe_str {x j pos} : PE X (.Constant (.str x) j pos) (tC (.str x)) := λ _ _ _ H _ I h => Calls.Constant_str ⟨.str x,H,I.tok _,⟨_,rfl⟩,h⟩
def Gl (X : Cx) (x : Str) : Prop := X.env.kindOf x = some .globalImplicit
theorem ld_glob {E : Value -> Shared -> Prop} {pins : List (Addr × Obj)} {s : Shared} {σ : St} {H : Hp} {x : Str} {u : Value} {pos : Pos} {Q : Value -> Shared -> Prop} (I : Inv X pins σ H s) (hg : Gl X x) (hm : X.mg x = some u) (h : Q u s)
  (hd : (x == ("__debug__" : Str)) = false := by decide) : wpAny (model X.prog X.w) X.A (eval (.Name x pos) X.env) Q E s :=
 Calls.Name_function_global I.ok.kind hg (Calls.loadGlobal_global (by rw [I.ok.glob]; exact I.mod.glob.keeps I.bk) hm h) hd
theorem Q4L {E : Value -> Shared -> Prop} {pins : List (Addr × Obj)} {s : Shared} {σ : St} {H : Hp} {x : Str} {u : Value} {pos : Pos} {Q : Value -> Shared -> Prop} (I : Inv X pins σ H s) (hg : Gl X x) (hm : X.mg x = none) (hv : bootBuiltins x = some u) (h : Q u s)
  (hn : x ≠ "__name__" := by decide) (hd : (x == ("__debug__" : Str)) = false := by decide) : wpAny (model X.prog X.w) X.A (eval (.Name x pos) X.env) Q E s := by
 obtain ⟨mb,h1,h2⟩ := I.mod.blt
 exact Calls.Name_function_global I.ok.kind hg (Calls.loadGlobal_builtin (by rw [I.ok.glob]; exact I.mod.glob.keeps I.bk) hm (by rw [I.ok.blt]; exact h1.keeps I.bk) ((h2 x hn).trans hv) h) hd
theorem pe_glob {x : Str} {v : V} {u : Value} {pos : Pos} (hg : Gl X x) (hm : X.mg x = some u) (r : RelV v u) (hd : (x == ("__debug__" : Str)) = false := by decide) : PE X (.Name x pos) (tC v) :=
 λ _ _ _ H _ I h => ld_glob I hg hm ⟨v,H,I,r,h⟩ hd
theorem pe_bltn {x : Str} {v : V} {u : Value} {pos : Pos} (hg : Gl X x) (hm : X.mg x = none) (hv : bootBuiltins x = some u) (r : RelV v u) (hn : x ≠ "__name__" := by decide) (hd : (x == ("__debug__" : Str)) = false := by decide) : PE X (.Name x pos) (tC v) :=
 λ _ _ _ H _ I h => Q4L I hg hm hv ⟨v,H,I,r,h⟩ hn hd
variable {a b : Expr} {ta tb : TE} {pos : Pos}
variable {tA tB' : TT} {rest : List Expr}
def tNot (t : TT) : TT := λ σ H Q => t σ H λ c H1 => Q (!c) H1
theorem pw_and1 (ha : PT X a tA) : PW X (.BoolOp .And [a] pos) tA := by
 intro wh pins s σ H Q I h
 refine isTrue_and (thn (ha pins s σ H Q I h) λ c s1 e => ?_)
 cases c with
 | true => exact isTrue_and_nil e
 | false => exact e
theorem pw_or1 (ha : PT X a tA) : PW X (.BoolOp .Or [a] pos) tA := by
 intro wh pins s σ H Q I h
 refine isTrue_or (thn (ha pins s σ H Q I h) λ c s1 e => ?_)
 cases c with
 | false => exact isTrue_or_nil e
 | true => exact e
theorem pt_not (ha : PT X a tA) : PT X (.UnaryOp .Not a pos) (tNot tA) := by
 intro pins s σ H Q I h
 exact isTrue_not (ha pins s σ H (λ c H1 => Q (!c) H1) I h)
def tNotV (ta : TE) : TE := λ σ H Q => ta σ H λ x H1 => ∃ c,x = .bl c /\ Q (.bl (!c)) H1
theorem pe_one {op} {t : TE} (h : PE X a t) : PE X (.BoolOp op [a] pos) t := λ pins s σ H Q I hw => BoolOp_one (h pins s σ H Q I hw)
theorem pe_not (ha : PE X a ta) : PE X (.UnaryOp .Not a pos) (tNotV ta) := by
 intro pins s σ H Q I h
 refine UnaryOp_ (thn (ha pins s σ H _ I h) λ v s1 ⟨x,H1,I1,r1,q1⟩ => ?_)
 obtain ⟨c,rfl,q1⟩ := q1
 cases r1
 exact not_of (wpAny_truthy_bool ⟨.bl (!c),H1,I1,rfl,q1⟩)
def tIf (t : TT) (ta tb : TE) : TE := λ σ H Q => t σ H λ c H1 => if c = true then ta σ H1 Q else tb σ H1 Q
theorem pe_ifExp {c : Expr} (hc : PT X c tA) (ha : PE X a ta) (hb : PE X b tb) : PE X (.IfExp c a b pos) (tIf tA ta tb) := by
 intro pins s σ H Q I h
 refine wpAny_IfExp (thn (hc pins s σ H _ I h) λ d s1 ⟨H1,I1,q1⟩ => ?_)
 cases d with
 | true => exact ha pins s1 σ H1 Q I1 q1
 | false => exact hb pins s1 σ H1 Q I1 q1
end
end L2
namespace L2
open PySem PySem.Spec PyProof.Rows
def SqL (K : PySem.W.Frag) (H : Hp) (a : Addr) (xs : List V) : Prop :=
 Rd H a (.lst xs) \/
  ∃ (o : Obj) (its : Array Value) (n : Nat),K.lookup a = some o /\ o.cls = .type "list" /\ o.dict = none /\ o.data = .seq its n /\ its.size <= sizeLine /\ Vals xs its.toList
def SqT (K : PySem.W.Frag) (H : Hp) (a : Addr) (xs : List V) : Prop :=
 Rd H a (.tup xs) \/
  ∃ (o : Obj) (its : Array Value) (n : Nat),K.lookup a = some o /\ o.cls = .type "tuple" /\ o.dict = none /\ o.data = .seq its n /\ its.size <= sizeLine /\ Vals xs its.toList
def absV : Value -> Option V
 | .none => some .non
 | .bool b => some (.bl b)
 | .int i _ => some (.int i)
 | .str x _ => some (.str x)
 | .bytes b _ => some (.byt b)
 | .float b _ => some (.flt b)
 | .ref a => some (.ref a)
 | .type n => some (.ty n)
 | _ => none
theorem RelV.abs {x : V} {u : Value} (r : RelV x u) : absV u = some x := by
 cases x with
 | non => cases r; rfl
 | bl _ => cases r; rfl
 | int _ => obtain ⟨t,rfl⟩ := r; rfl
 | str _ => obtain ⟨t,rfl⟩ := r; rfl
 | byt _ => obtain ⟨t,rfl⟩ := r; rfl
 | flt _ => obtain ⟨t,rfl⟩ := r; rfl
 | ref _ => cases r; rfl
 | ty _ => cases r; rfl
theorem RelV.inj {x y : V} {u : Value} (r : RelV x u) (q : RelV y u) : x = y := Option.some.inj (r.abs.symm.trans q.abs)
theorem Vals.inj : ∀ {xs ys : List V} {us : List Value},Vals xs us -> Vals ys us -> xs = ys
 | _,_,_,.nil,.nil => rfl
 | _,_,_,.cons r t,.cons r' t' => by rw [r.inj r',Vals.inj t t']
section
variable {X : Cx} {pins : List (Addr × Obj)} {σ : St} {H : Hp} {s : Shared} {a : Addr} {xs ys : List V}
theorem SqL.of {K : PySem.W.Frag} (h : H a = some (.lst xs)) : SqL K H a xs := .inl (.inl h)
theorem SqT.of {K : PySem.W.Frag} (h : H a = some (.tup xs)) : SqT K H a xs := .inl (.inl h)
theorem Inv.list (I : Inv X pins σ H s) (h : SqL X.K H a xs) : ∃ its : List Value,Vals xs its /\ PlainL s.heap a its.toArray /\ xs.length <= sizeLine := by
 rcases h with h | ⟨o,its,n,hk,hc,hd,hs,hz,r⟩
 ·obtain ⟨z,its,n,r,e⟩ := h.ok I.hok
  exact ⟨its,r,⟨_,n,e,rfl,rfl,rfl⟩,z⟩
 ·refine ⟨its.toList,r,⟨o,n,I.kIn a o hk,hc,hd,by simpa using hs⟩,?_⟩
  have e := r.length
  simp only [Array.length_toList] at e
  omega
theorem Inv.tuple (I : Inv X pins σ H s) (h : SqT X.K H a xs) : ∃ its : List Value,Vals xs its /\ IsTup s.heap a its.toArray /\ xs.length <= sizeLine := by
 rcases h with h | ⟨o,its,n,hk,hc,_,hs,hz,r⟩
 ·obtain ⟨z,its,r,p⟩ := h.ok I.hok
  exact ⟨its,r,p.t,z⟩
 ·refine ⟨its.toList,r,⟨o,I.kIn a o hk,hc,n,by simpa using hs⟩,?_⟩
  have e := r.length
  simp only [Array.length_toList] at e
  omega
theorem Inv.tupN (I : Inv X pins σ H s) (h : SqT X.K H a xs) : ∃ its : List Value,Vals xs its /\ TupN s.heap a its.toArray /\ xs.length <= sizeLine := by
 rcases h with h | ⟨o,its,n,hk,hc,hd,hs,hz,r⟩
 ·obtain ⟨z,its,r,p⟩ := h.ok I.hok
  exact ⟨its,r,p,z⟩
 ·refine ⟨its.toList,r,⟨o,I.kIn a o hk,hd,hc,n,by simpa using hs⟩,?_⟩
  have e := r.length
  simp only [Array.length_toList] at e
  omega
theorem Inv.list_inj (I : Inv X pins σ H s) (h : SqL X.K H a xs) (h' : SqL X.K H a ys) : xs = ys := by
 obtain ⟨its,r,⟨o,n,e,_,_,d⟩,_⟩ := I.list h
 obtain ⟨its',r',⟨o',n',e',_,_,d'⟩,_⟩ := I.list h'
 rw [e] at e'; cases e'
 rw [d] at d'
 injection d' with d1 _
 have : its = its' := by simpa using congrArg Array.toList d1
 subst this
 exact r.inj r'
theorem Inv.tuple_inj (I : Inv X pins σ H s) (h : SqT X.K H a xs) (h' : SqT X.K H a ys) : xs = ys := by
 obtain ⟨its,r,⟨o,e,_,n,d⟩,_⟩ := I.tuple h
 obtain ⟨its',r',⟨o',e',_,n',d'⟩,_⟩ := I.tuple h'
 rw [e] at e'; cases e'
 rw [d] at d'
 injection d' with d1 _
 have : its = its' := by simpa using congrArg Array.toList d1
 subst this
 exact r.inj r'
end
abbrev Cx.wish (X : Cx) (E : Value -> Shared -> Prop) : Cx := { X with xe := E }
abbrev Cx.nox (X : Cx) : Cx := X.wish λ _ _ => False
theorem Cx.Ok.wish {X : Cx} (ok : X.Ok) (E : Value -> Shared -> Prop) : (X.wish E).Ok :=
 ⟨ok.mod,ok.kind,ok.glob,ok.blt,ok.above,ok.inj,ok.has,ok.cab,ok.hd,ok.frames,ok.stk,ok.exf,ok.bs,ok.bsz,ok.noex,ok.exfs,ok.funs,ok.frf⟩
theorem Cx.Ok.unwish {X : Cx} {E : Value -> Shared -> Prop} (ok : (X.wish E).Ok) : X.Ok :=
 ⟨ok.mod,ok.kind,ok.glob,ok.blt,ok.above,ok.inj,ok.has,ok.cab,ok.hd,ok.frames,ok.stk,ok.exf,ok.bs,ok.bsz,ok.noex,ok.exfs,ok.funs,ok.frf⟩
section
variable {X : Cx} {pins : List (Addr × Obj)} {σ : St} {H : Hp} {s : Shared} {E : Value -> Shared -> Prop}
theorem Inv.wish (I : Inv X pins σ H s) (E : Value -> Shared -> Prop) : Inv (X.wish E) pins σ H s := ⟨I.ok.wish E,I.os,I.bare,I.base,I.loc,I.cell,I.free,I.freeC,I.pin,I.hok,I.len⟩
theorem Inv.unwish (I : Inv (X.wish E) pins σ H s) : Inv X pins σ H s := ⟨I.ok.unwish,I.os,I.bare,I.base,I.loc,I.cell,I.free,I.freeC,I.pin,I.hok,I.len⟩
theorem SP.unwish {D : Ends} {f : Flow} {s' : Shared} (h : SP (X.wish E) pins D f s') : SP X pins D f s' := by
 cases f with
 | next => obtain ⟨σ',H',I,q⟩ := h; exact ⟨σ',H',I.unwish,q⟩
 | brk => obtain ⟨σ',H',I,q⟩ := h; exact ⟨σ',H',I.unwish,q⟩
 | cont => obtain ⟨σ',H',I,q⟩ := h; exact ⟨σ',H',I.unwish,q⟩
 | ret u => obtain ⟨v,σ',H',I,r,q⟩ := h; exact ⟨v,σ',H',I.unwish,r,q⟩
theorem PSs.nox {st : List Stmt} {t : TS} (h : PSs X.nox st t) : PSs X st t := λ pins s σ H D I hw =>
 wpAny_mono (h pins s σ H D (I.wish _) hw) (λ _ _ q => q.unwish) λ _ _ z => False.elim z
end
section
variable {X : Cx} {st : Stmt} {rest : List Stmt} {t u : TS} {e : Expr} {te : TE} {pos : Pos}
def tNext : TS := λ D σ H => D.nx σ H
def tSeq (t u : TS) : TS := λ D σ H => t { D with nx := u D } σ H
theorem pss_nil : PSs X [] tNext := λ _ _ σ H _ I h => wpAny_execs_nil ⟨σ,H,I,h⟩
theorem pss_cons (h1 : PS X st t) (h2 : PSs X rest u) : PSs X (st :: rest) (tSeq t u) := by
 intro pins s σ H D I h
 refine wpAny_execs_cons (thn (h1 pins s σ H { D with nx := u D } I h) λ f s1 q => ?_)
 cases f with
 | next =>
  obtain ⟨σ',H',I',q⟩ := q
  exact h2 pins s1 σ' H' D I' q
 | ret v => exact q
 | brk => exact q
 | cont => exact q
theorem Inv.quiet {pins : List (Addr × Obj)} {σ : St} {H : Hp} {s : Shared} (I : Inv X pins σ H s) : interactive X.env = false := by simp [interactive,I.ok.kind]
def tDrop (te : TE) : TS := λ D σ H => te σ H λ _ H1 => D.nx σ H1
theorem ps_expr (he : PE X e te) (hs : swapsWith e none pos.line X.env = pure false := by rfl) : PS X (.Expr e pos) (tDrop te) := by
 intro pins s σ H D I h
 exact wpAny_Expr_any (thn (he pins s σ H _ I h) λ v s1 ⟨x,H1,I1,r1,q1⟩ => ⟨σ,H1,I1,q1⟩) I.quiet hs
def tRet (te : TE) : TS := λ D σ H => te σ H D.rt
theorem ps_ret (he : PE X e te) : PS X (.Return (some e) pos) (tRet te) := by
 intro pins s σ H D I h
 exact wpAny_Return_some (thn (he pins s σ H _ I h) λ v s1 ⟨x,H1,I1,r1,q1⟩ => ⟨x,σ,H1,I1,r1,q1⟩)
def tIfS (c : TT) (t u : TS) : TS := λ D σ H => c σ H λ b H1 => if b = true then t D σ H1 else u D σ H1
theorem ps_if {c : Expr} {a b : List Stmt} {tc : TT} (hc : PT X c tc) (ha : PSs X a t) (hb : PSs X b u) : PS X (.If c a b pos) (tIfS tc t u) := by
 intro pins s σ H D I h
 refine wpAny_If (thn (hc pins s σ H _ I h) λ d s1 ⟨H1,I1,q1⟩ => ?_)
 cases d with
 | true => exact ha pins s1 σ H1 D I1 q1
 | false => exact hb pins s1 σ H1 D I1 q1
end
abbrev TG := V -> St -> Hp -> (St -> Hp -> Prop) -> Prop
abbrev TGs := List V -> St -> Hp -> (St -> Hp -> Prop) -> Prop
def PG (X : Cx) (target : Expr) (t : TG) : Prop :=
 ∀ (pins : List (Addr × Obj)) (s : Shared) (σ : St) (H : Hp) (v : V) (u : Value) (Q : St -> Hp -> Prop),Inv X pins σ H s -> RelV v u -> t v σ H Q ->
  wpAny (model X.prog X.w) X.A (assign target X.env u) (λ _ s' => ∃ σ' H',Inv X pins σ' H' s' /\ Q σ' H') X.xe s
def PGs (X : Cx) (ts : List Expr) (t : TGs) : Prop :=
 ∀ (pins : List (Addr × Obj)) (s : Shared) (σ : St) (H : Hp) (vs : List V) (us : List Value) (Q : St -> Hp -> Prop),Inv X pins σ H s -> Vals vs us -> t vs σ H Q ->
  wpAny (model X.prog X.w) X.A (assignInOrder ((assignEach ts X.env).map (·.2)) us) (λ _ s' => ∃ σ' H',Inv X pins σ' H' s' /\ Q σ' H') X.xe s
section
variable {X : Cx} {pos : Pos}
def gName (i : Nat) : TG := λ v σ H Q => Q (σ.set i (some v)) H
theorem pg_name {i : Nat} {x : Str} (hN : X.N.Nodup) (hi : X.N[i]? = some x) (hx : Loc X.env.scope x) (hf : X.fn x = true \/ X.env.scope.names.lookup x = some .local := by first | exact .inl rfl | exact .inr rfl | assumption) : PG X (.Name x pos) (gName i) := by
 intro pins s σ H v u Q I r h
 exact wpAny_assign_Name (store_ok I hN hi hx r (λ s' I' => ⟨_,H,I',h⟩) hf)
def gNil : TGs := λ vs σ H Q => vs = [] /\ Q σ H
def gCons (t : TG) (u : TGs) : TGs := λ vs σ H Q => ∃ v r,vs = v :: r /\ t v σ H λ σ' H' => u r σ' H' Q
theorem pgs_nil : PGs X [] gNil := by
 intro pins s σ H vs us Q I r h
 obtain ⟨e,h⟩ := h
 subst e
 cases r
 exact assignInOrder_nil ⟨σ,H,I,h⟩
theorem pgs_cons {e : Expr} {es : List Expr} {t : TG} {u : TGs} (h1 : PG X e t) (h2 : PGs X es u)
  (hs : (assignEach (e :: es) X.env).map (·.2) = assign e X.env :: (assignEach es X.env).map (·.2) := by rfl) : PGs X (e :: es) (gCons t u) := by
 intro pins s σ H vs us Q I r h
 obtain ⟨v,vr,e1,h⟩ := h
 subst e1
 cases r with
 | cons r rr =>
  rw [hs]
  refine assignInOrder_cons (thn (h1 pins s σ H _ _ _ I r h) λ _ s1 ⟨σ1,H1,I1,q1⟩ => ?_)
  exact h2 pins s1 σ1 H1 _ _ Q I1 rr q1
def gTup (K : PySem.W.Frag) (n : Nat) (t : TGs) : TG := λ v σ H Q => ∃ a xs,v = .ref a /\ SqT K H a xs /\ xs.length = n /\ t xs σ H Q
theorem pg_tup {es : List Expr} {k : Nat} {t : TGs} {n : Nat} (hc : X.calm = true) (h : PGs X es t)
  (hn : (assignEach es X.env).length = n := by rfl) (hst : (assignEach es X.env).findIdx? (·.1) = none := by rfl) : PG X (.Tuple es k pos) (gTup X.K n t) := by
 intro pins s σ H v u Q I r hw
 obtain ⟨a,xs,e1,hq,hl,hw⟩ := hw
 subst e1
 cases r
 obtain ⟨its,rv,ht,hz⟩ := I.tuple hq
 refine assign_Tuple_tuple (I.ok.hd hc) ht (by simp [hn,<- hl,rv.length]) hst λ h' hx => ?_
 have I1 : Inv X pins σ H { s with heap := h' } := I.kept (t' := s.toks) λ b o e => hx b o (Nat.ne_of_lt (Heap.lt_size e)) e
 exact h pins _ σ H xs _ Q I1 (by simpa using rv) hw
def tAsg (te : TE) (g : TG) : TS := λ D σ H => te σ H λ x H1 => g x σ H1 D.nx
theorem ps_asg {tg e : Expr} {te : TE} {g : TG} (he : PE X e te) (hg : PG X tg g) (hs : swapsWithSole [tg] e pos.line X.env = pure false := by rfl) (hw : swappedStores [tg] e X.env = pure none := by rfl)
  (h1 : (assignEach [tg] X.env).map (·.2) = [assign tg X.env] := by rfl) : PS X (.Assign [tg] e pos) (tAsg te g) := by
 intro pins s σ H D I h
 refine wpAny_Assign_stores (thn (he pins s σ H _ I h) λ v s1 ⟨x,H1,I1,r1,q1⟩ => ?_) hs hw
 rw [h1]
 exact thn (hg pins s1 σ H1 x v _ I1 r1 q1) λ _ s2 q => q
theorem ps_set {i : Nat} {x : Str} {e : Expr} {te : TE} {pos' : Pos} (hN : X.N.Nodup) (hi : X.N[i]? = some x) (hx : Loc X.env.scope x) (he : PE X e te) (hs : swapsWith e (some (.Name x pos')) pos.line X.env = pure false := by rfl) (hf : X.fn x = true \/ X.env.scope.names.lookup x = some .local := by first | exact .inl rfl | exact .inr rfl | assumption) :
  PS X (.Assign [.Name x pos'] e pos) (tAsg te (gName i)) := by
 intro pins s σ H D I h
 refine wpAny_Assign_Name (thn (he pins s σ H _ I h) λ v s1 ⟨y,H1,I1,r1,q1⟩ => ?_) hs
 exact store_ok I1 hN hi hx r1 (λ s2 I2 => ⟨_,H1,I2,q1⟩) hf
end
section
variable {X : Cx} {pos : Pos}
def tWhile (c : TT) (tb : TS) : TS := λ D σ H => ∃ W : Nat -> St -> Hp -> Prop,(∃ m,W m σ H) /\ ∀ m σ H,W m σ H ->
 c σ H λ b H1 => if b = true then ∃ N : St -> Hp -> Prop,(∀ σ' H',N σ' H' -> ∃ m',m' < m /\ W m' σ' H') /\ tb { D with nx := N,ct := N,bk := D.nx } σ H1 else D.nx σ H1
theorem ps_while {c : Expr} {body : List Stmt} {tc : TT} {tb : TS} (hp : PassesOwn (model X.prog X.w) X.A X.env X.xe) (hc : PT X c tc) (hb : PSs X body tb) : PS X (.While c body [] pos) (tWhile tc tb) := by
 intro pins s σ H D I h
 obtain ⟨W,⟨m0,w0⟩,turn⟩ := h
 refine wpAny_While (codeAny_whileLoop (λ n s' => ∃ σ' H',Inv X pins σ' H' s' /\ W n σ' H') ?_ m0 ⟨σ,H,I,w0⟩)
 rintro n s1 ⟨σ1,H1,I1,w1⟩
 refine wpAny_passesOwn hp (thn (hc pins s1 σ1 H1 _ I1 (turn n σ1 H1 w1)) λ b s2 ⟨H2,I2,q2⟩ => ?_)
 cases b with
 | true =>
  obtain ⟨N,hN,q2⟩ := q2
  rw [if_pos rfl]
  refine wpAny_passesOwn hp (thn (hb pins s2 σ1 H2 _ I2 q2) λ f s3 q3 => ?_)
  cases f with
  | next =>
   obtain ⟨σ3,H3,I3,n3⟩ := q3
   obtain ⟨m',hm,w3⟩ := hN σ3 H3 n3
   exact ⟨m',hm,σ3,H3,I3,w3⟩
  | cont =>
   obtain ⟨σ3,H3,I3,n3⟩ := q3
   obtain ⟨m',hm,w3⟩ := hN σ3 H3 n3
   exact ⟨m',hm,σ3,H3,I3,w3⟩
  | brk => exact q3
  | ret v => exact q3
 | false =>
  rw [if_neg Bool.false_ne_true]
  exact wpAny_execs_nil ⟨σ1,H2,I2,q2⟩
end
structure It where
 go : Nat -> Hp -> Prop
 yld : Nat -> Hp -> V -> Hp -> Prop
 stop : Nat -> Hp -> Prop
def FpOk (X : Cx) (pins : List (Addr × Obj)) (H : Hp) (b : Addr) : Prop :=
 H b = none /\ b ≠ X.env.locals /\ b ∉ X.fs /\ (b ∈ X.ex \/ X.s₀.heap.objs.size <= b) /\ (∀ x c,X.env.cells.lookup x = some c -> c ≠ b) /\ ∀ p ∈ X.pn ++ pins,p.1 ≠ b
theorem Inv.fpOk {X : Cx} {pins : List (Addr × Obj)} {σ : St} {H H' : Hp} {s : Shared} {b : Addr} (I : Inv X pins σ H s) (hb : s.heap.objs.size <= b) (hn : H' b = none) : FpOk X pins H' b := by
 refine ⟨hn,Nat.ne_of_gt (Nat.lt_of_lt_of_le I.lt hb),I.nofs hb,.inr (Nat.le_trans I.sz hb),λ x c e z => ?_,λ p hp z => ?_⟩
 ·obtain ⟨v,q⟩ := I.cell x c e
  exact absurd (Nat.lt_of_lt_of_le q.lt (by rw [z]; exact hb)) (Nat.lt_irrefl _)
 ·exact absurd (Nat.lt_of_lt_of_le (Heap.lt_size (I.pin p hp).1) (by rw [z]; exact hb)) (Nat.lt_irrefl _)
structure Turn (P : Program) (w : World) (K : PySem.W.Frag) (tg : Expr) (J : It) (fp : List Addr) (it : Addr) (tn : Nat -> Heap -> Prop) : Prop where
 mem : it ∈ fp
 obj : ∀ i h,tn i h -> ∀ b ∈ fp,∃ o,h.get? b = some o /\ ∀ v,o.data ≠ .cell v
 keep : ∀ i h h',tn i h -> (∀ b ∈ fp,∀ o,h.get? b = some o -> h'.get? b = some o) -> tn i h'
 item : ∀ (X : Cx),X.prog = P -> X.w = w -> X.K = K -> X.calm = true -> ∀ (i : Nat) (pins : List (Addr × Obj)) (s : Shared) (σ : St) (H : Hp) (E : Value -> Shared -> Prop),Inv X pins σ H s -> (∀ b ∈ fp,FpOk X pins H b) -> tn i s.heap -> J.go i H ->
  wpAny (model P w) X.A (pyNext (.ref it)) (λ r s1 => ∃ u,r = some u /\
   wpAny (model P w) X.A (letOwnedTupleGo tg (.ref it) u) (λ _ s2 => ∃ x H',Inv X pins σ H' s2 /\ RelV x u /\ J.yld i H x H' /\ tn (i + 1) s2.heap /\ ∀ b ∈ fp,H' b = none) E s1) E s
 done : ∀ (X : Cx),X.prog = P -> X.w = w -> X.K = K -> X.calm = true -> ∀ (i : Nat) (pins : List (Addr × Obj)) (s : Shared) (σ : St) (H : Hp) (E : Value -> Shared -> Prop),Inv X pins σ H s -> (∀ b ∈ fp,FpOk X pins H b) -> tn i s.heap -> J.stop i H ->
  wpAny (model P w) X.A (pyNext (.ref it)) (λ r s1 => r = none /\ Inv X pins σ H s1) E s
 self : ∀ (A : Around) (i : Nat) (s : Shared) (Q : Value -> Shared -> Prop) (E : Value -> Shared -> Prop),tn i s.heap -> Q (.ref it) s -> wpAny (model P w) A (pyIter (.ref it)) Q E s
abbrev TI := St -> Hp -> (It -> Hp -> Prop) -> Prop
def PIE (X : Cx) (pins : List (Addr × Obj)) (σ : St) (tg : Expr) (R : It -> Hp -> Prop) (itv : Value) (s2 : Shared) : Prop :=
 ∃ (it : Addr) (fp : List Addr) (tn : Nat -> Heap -> Prop) (J : It) (H' : Hp),itv = .ref it /\ Inv X pins σ H' s2 /\ Turn X.prog X.w X.K tg J fp it tn /\ tn 0 s2.heap /\ (∀ b ∈ fp,FpOk X pins H' b) /\ R J H'
def PI (X : Cx) (tg iter : Expr) (wi : TI) : Prop :=
 ∀ (pins : List (Addr × Obj)) (s : Shared) (σ : St) (H : Hp) (R : It -> Hp -> Prop),Inv X pins σ H s -> wi σ H R ->
  wpAny (model X.prog X.w) X.A (eval iter X.env) (λ v s1 => wpAny (model X.prog X.w) X.A (pyIter v) (PIE X pins σ tg R) X.xe s1) X.xe s
theorem go_of {M : Model} {A : Around} {E : Value -> Shared -> Prop} {s : Shared} {tg : Expr} {it : Addr} {u : Value} {o : Obj} {n : String} {vs : Array Value} {Q : Unit -> Shared -> Prop} (ho : s.heap.get? it = some o) (hc : o.cls = .type n) (hd : o.data = .fields vs)
    (hn : ["enumerate","zip","dict_itemiterator","dict_reverseitemiterator","odict_iterator","itertools.zip_longest","itertools.pairwise"].contains n = false) (hQ : Q () s) : wpAny M A (letOwnedTupleGo tg (.ref it) u) Q E s := by
  unfold letOwnedTupleGo
  cases tg <;> first
    | exact wpAny_pure hQ
    | (cases u <;> first
        | exact wpAny_pure hQ
        | (refine wpAny_bind (wpAny_load ho ?_)
           rw [hc,hd]
           show wpAny M A (if (["enumerate","zip","dict_itemiterator","dict_reverseitemiterator","odict_iterator","itertools.zip_longest","itertools.pairwise"].contains n && vs[0]? == some (rawInt _)) = true then _ else _) Q E s
           rw [if_neg (by intro h; rw [hn,Bool.false_and] at h; cases h)]
           exact wpAny_pure hQ))
def Itl (K : PySem.W.Frag) (a : Addr) : It :=
 ⟨λ i H => ∃ xs x,SqL K H a xs /\ xs[i]? = some x,λ i H x H' => H' = H /\ ∀ xs,SqL K H a xs -> xs[i]? = some x,λ i H => ∃ xs,SqL K H a xs /\ xs.length <= i⟩
def Itt (K : PySem.W.Frag) (a : Addr) : It :=
 ⟨λ i H => ∃ xs x,SqT K H a xs /\ xs[i]? = some x,λ i H x H' => H' = H /\ ∀ xs,SqT K H a xs -> xs[i]? = some x,λ i H => ∃ xs,SqT K H a xs /\ xs.length <= i⟩
def Itr (lo : Int) (n : Nat) : It := ⟨λ i _ => i < n,λ i H x H' => H' = H /\ x = .int (lo + i),λ i _ => n <= i⟩
theorem turn_list {P : Program} {w : World} {K : PySem.W.Frag} {tg : Expr} (a it : Addr) : Turn P w K tg (Itl K a) [it] it (λ i h => h.IsListIter it a i) where
 mem := by simp
 obj := λ i h st b hb => by
  have e : b = it := by simpa using hb
  subst e
  obtain ⟨o,e,c,d⟩ := st
  exact ⟨o,e,λ v z => by rw [d] at z; cases z⟩
 keep := λ i h h' st k => st.at λ o e => k it (by simp) o e
 item := by
  intro X hP hw hK hc i pins s σ H E I hf st hg
  subst hP hw hK
  obtain ⟨xs,x,hq,hx⟩ := hg
  obtain ⟨its,rv,p,hz⟩ := I.list hq
  obtain ⟨u,hu,ru⟩ := rv.get hx
  obtain ⟨f0,f1,f2,f3,f4,f5⟩ := hf it (by simp)
  refine wpAny_pyNext_list_item st p.isList (x := u) (by simpa using hu) λ h' st' sb => ?_
  have I1 : Inv X pins σ H { s with heap := h' } := I.turned (t' := s.toks) (λ b o hb e => (sb.2 b hb).trans e) f0 f1 f3 f4 f5
  obtain ⟨o,e,c,d⟩ := id st'
  exact ⟨u,rfl,go_of (s := { s with heap := h' }) e c d (by decide) ⟨x,H,I1,ru,⟨rfl,λ ys hy => by rw [I.list_inj hy hq]; exact hx⟩,st',λ b hb => (hf b hb).1⟩⟩
 done := by
  intro X hP hw hK hc i pins s σ H E I hf st hg
  subst hP hw hK
  obtain ⟨xs,hq,hx⟩ := hg
  obtain ⟨its,rv,p,hz⟩ := I.list hq
  obtain ⟨f0,f1,f2,f3,f4,f5⟩ := hf it (by simp)
  have hl := rv.length
  exact wpAny_pyNext_list_end (I.ok.hd hc) st p.isList (by simp; omega) λ h' eb => ⟨rfl,I.turned (t' := s.toks) (λ b o hb e => eb b o hb e) f0 f1 f3 f4 f5⟩
 self := λ _ _ _ _ _ st h => wpAny_pyIter_listiter st h
theorem turn_tuple {P : Program} {w : World} {K : PySem.W.Frag} {tg : Expr} (a it : Addr) : Turn P w K tg (Itt K a) [it] it (λ i h => h.IsTupleIter it a i) where
 mem := by simp
 obj := λ i h st b hb => by
  have e : b = it := by simpa using hb
  subst e
  obtain ⟨o,e,c,d⟩ := st
  exact ⟨o,e,λ v z => by rw [d] at z; cases z⟩
 keep := λ i h h' st k => st.at λ o e => k it (by simp) o e
 item := by
  intro X hP hw hK hc i pins s σ H E I hf st hg
  subst hP hw hK
  obtain ⟨xs,x,hq,hx⟩ := hg
  obtain ⟨its,rv,p,hz⟩ := I.tuple hq
  obtain ⟨u,hu,ru⟩ := rv.get hx
  obtain ⟨f0,f1,f2,f3,f4,f5⟩ := hf it (by simp)
  refine wpAny_pyNext_tuple_item st (show s.heap.IsTuple a its.toArray from p) (x := u) (by simpa using hu) λ h' st' sb => ?_
  have I1 : Inv X pins σ H { s with heap := h' } := I.turned (t' := s.toks) (λ b o hb e => (sb.2 b hb).trans e) f0 f1 f3 f4 f5
  obtain ⟨o,e,c,d⟩ := id st'
  exact ⟨u,rfl,go_of (s := { s with heap := h' }) e c d (by decide) ⟨x,H,I1,ru,⟨rfl,λ ys hy => by rw [I.tuple_inj hy hq]; exact hx⟩,st',λ b hb => (hf b hb).1⟩⟩
 done := by
  intro X hP hw hK hc i pins s σ H E I hf st hg
  subst hP hw hK
  obtain ⟨xs,hq,hx⟩ := hg
  obtain ⟨its,rv,p,hz⟩ := I.tuple hq
  obtain ⟨f0,f1,f2,f3,f4,f5⟩ := hf it (by simp)
  have hl := rv.length
  exact wpAny_pyNext_tuple_end (I.ok.hd hc) st (show s.heap.IsTuple a its.toArray from p) (by simp; omega) λ h' eb => ⟨rfl,I.turned (t' := s.toks) (λ b o hb e => eb b o hb e) f0 f1 f3 f4 f5⟩
 self := λ _ _ _ _ _ st h => wpAny_pyIter_tupleiter st h
theorem turn_range {P : Program} {w : World} {K : PySem.W.Frag} {tg : Expr} (it : Addr) (lo : Int) (n : Nat) : Turn P w K tg (Itr lo n) [it] it (λ i h => IsRangeIter h it (lo + (i : Nat) * 1) ((n : Int) - (i : Nat)) 1) where
 mem := by simp
 obj := λ i h st b hb => by
  have e : b = it := by simpa using hb
  subst e
  exact ⟨_,st,λ v z => by
   have z' : Data.fields _ = Data.cell v := z
   cases z'⟩
 keep := λ i h h' st k => k it (by simp) _ st
 item := by
  intro X hP hw hK hc i pins s σ H E I hf st hg
  subst hP hw hK
  obtain ⟨f0,f1,f2,f3,f4,f5⟩ := hf it (by simp)
  have W := Walks.range (prog := X.prog) (w := X.w) (I.ok.hd hc) it lo 1 n
  refine W.item i s _ _ hg st λ v h' tk hv st' kk => ?_
  obtain ⟨t,rfl⟩ := hv
  have I1 : Inv X pins σ H { s with heap := h',toks := tk } := I.turned (λ b o hb e => kk b o (by simpa using hb) e) f0 f1 f3 f4 f5
  refine ⟨_,rfl,go_of (s := { s with heap := h',toks := tk }) (n := "range_iterator") st' rfl rfl (by decide) ⟨.int (lo + i),H,I1,⟨t,?_⟩,⟨rfl,rfl⟩,st',λ b hb => (hf b hb).1⟩⟩
  rw [Int.mul_one]
 done := by
  intro X hP hw hK hc i pins s σ H E I hf st hg
  subst hP hw hK
  obtain ⟨f0,f1,f2,f3,f4,f5⟩ := hf it (by simp)
  exact wpAny_pyNext_range_end (I.ok.hd hc) st (by have : n <= i := hg; omega) λ h' eb => ⟨rfl,I.turned (t' := s.toks) (λ b o hb e => eb b o hb e) f0 f1 f3 f4 f5⟩
 self := λ _ _ _ _ _ st h => wpAny_pyIter_rangeiter st h
end L2
namespace L2
open PySem PySem.Spec PyProof.Rows
section
variable {X : Cx} {tg : Expr}
def iList (K : PySem.W.Frag) (tl : TE) : TI := λ σ H R => tl σ H λ x H1 => ∃ a,x = .ref a /\ (∃ xs,SqL K H1 a xs) /\ R (Itl K a) H1
def iTup (K : PySem.W.Frag) (tl : TE) : TI := λ σ H R => tl σ H λ x H1 => ∃ a,x = .ref a /\ (∃ xs,SqT K H1 a xs) /\ R (Itt K a) H1
theorem pi_list {l : Expr} {tl : TE} (hl : PE X l tl) : PI X tg l (iList X.K tl) := by
 intro pins s σ H R I h
 refine thn (hl pins s σ H _ I h) λ v s1 ⟨x,H1,I1,r1,q1⟩ => ?_
 obtain ⟨a,e,⟨xs,hq⟩,q⟩ := q1
 subst e
 cases r1
 obtain ⟨its,rv,p,hz⟩ := I1.list hq
 refine wpAny_pyIter_list p.isList ?_
 refine ⟨s1.heap.objs.size,[s1.heap.objs.size],_,_,H1,rfl,I1.kept (t' := s1.toks) λ b o e => Heap.get?_push_of_some _ e,turn_list a _,⟨_,Heap.get?_push_size _ rfl,rfl,rfl⟩,λ b hb => ?_,q⟩
 have e : b = s1.heap.objs.size := by simpa using hb
 subst e
 exact I1.fpOk (Nat.le_refl _) (I1.hok.fresh (Nat.le_refl _))
theorem pi_tup {l : Expr} {tl : TE} (hl : PE X l tl) : PI X tg l (iTup X.K tl) := by
 intro pins s σ H R I h
 refine thn (hl pins s σ H _ I h) λ v s1 ⟨x,H1,I1,r1,q1⟩ => ?_
 obtain ⟨a,e,⟨xs,hq⟩,q⟩ := q1
 subst e
 cases r1
 obtain ⟨its,rv,p,hz⟩ := I1.tuple hq
 refine wpAny_pyIter_tuple (show s1.heap.IsTuple a its.toArray from p) ?_
 refine ⟨s1.heap.objs.size,[s1.heap.objs.size],_,_,H1,rfl,I1.kept (t' := s1.toks) λ b o e => Heap.get?_push_of_some _ e,turn_tuple a _,⟨_,Heap.get?_push_size _ rfl,rfl,rfl⟩,λ b hb => ?_,q⟩
 have e : b = s1.heap.objs.size := by simpa using hb
 subst e
 exact I1.fpOk (Nat.le_refl _) (I1.hok.fresh (Nat.le_refl _))
theorem range_it {pins : List (Addr × Obj)} {σ : St} {H : Hp} {s : Shared} {R : It -> Hp -> Prop} {E : Value -> Shared -> Prop} {lo hi : Int} {t u v : Tok} {tk : Nat} (I : Inv X pins σ H s) (h1 : -(2 ^ 62) <= lo) (h2 : lo < 2 ^ 62) (h3 : -(2 ^ 62) <= hi) (h4 : hi < 2 ^ 62)
  (q : R (Itr lo (hi - lo).toNat) H) : wpAny (model X.prog X.w) X.A (pyIter (.ref s.heap.objs.size)) (PIE X pins σ tg R) E { s with heap := s.heap.push { cls := .type "range",data := .fields #[.int lo t,.int hi u,.int 1 v] },toks := tk } := by
 refine wpAny_pyIter_range (IsRange.new ..) (small_one h1 h2 h3 h4) ?_
 have I1 : Inv X pins σ H { s with heap := s.heap.push { cls := .type "range",data := .fields #[.int lo t,.int hi u,.int 1 v] },toks := tk } := I.kept λ b o e => Heap.get?_push_of_some _ e
 refine ⟨(s.heap.push { cls := .type "range",data := .fields #[.int lo t,.int hi u,.int 1 v] }).objs.size,[(s.heap.push { cls := .type "range",data := .fields #[.int lo t,.int hi u,.int 1 v] }).objs.size],_,_,H,rfl,
  I1.kept (t' := tk) λ b o e => Heap.get?_push_of_some _ e,turn_range _ lo (hi - lo).toNat,?_,λ b hb => ?_,q⟩
 ·have e1 : lo + ((0 : Nat) : Int) * 1 = lo := by simp
  have e2 : (((hi - lo).toNat : Nat) : Int) - ((0 : Nat) : Int) = Builtin.Range.rangeSize lo hi 1 := by rw [rangeSize_one]; split <;> omega
  show IsRangeIter _ _ (lo + ((0 : Nat) : Int) * 1) ((((hi - lo).toNat : Nat) : Int) - ((0 : Nat) : Int)) 1
  rw [e1,e2]
  exact Heap.get?_push_size _ rfl
 ·have e : b = (s.heap.push { cls := .type "range",data := .fields #[.int lo t,.int hi u,.int 1 v] }).objs.size := by simpa using hb
  subst e
  exact I1.fpOk (Nat.le_refl _) (I1.hok.fresh (Nat.le_refl _))
def iRng1 (ta : TA) : TI := λ σ H R => ta σ H λ vs H1 => ∃ j : Int,vs = [.int j] /\ -(2 ^ 62) <= j /\ j < 2 ^ 62 /\ R (Itr 0 j.toNat) H1
def iRng2 (ta : TA) : TI := λ σ H R => ta σ H λ vs H1 => ∃ i j : Int,vs = [.int i,.int j] /\ (-(2 ^ 62) <= i /\ i < 2 ^ 62 /\ -(2 ^ 62) <= j /\ j < 2 ^ 62) /\ R (Itr i (j - i).toNat) H1
theorem pi_range1 {a : Expr} {ta : TA} {p pos : Pos} (hg : Gl X "range") (hm : X.mg "range" = none) (ha : PA X [a] ta) (hs : starEach [a] X.env = [(false,eval a X.env)] := by rfl) : PI X tg (.Call (.Name "range" p) [a] [] pos) (iRng1 ta) := by
 intro pins s σ H R I h
 refine Call_ (Q4L I hg hm boot_range (PyProof.Rows.callWith_type1 (thn (ha pos pins s σ H _ I h) λ us s1 ⟨vs,H1,I1,r1,q1⟩ => ?_) hs rfl))
 obtain ⟨j,e,q1,q2,q⟩ := q1
 subst e
 cases r1 with
 | cons r rr =>
  cases rr
  obtain ⟨t,rfl⟩ := r
  exact call_range_1 (range_it I1 (by omega) (by omega) q1 q2 (by simpa using q))
theorem pi_range2 {a b : Expr} {ta : TA} {p pos : Pos} (hg : Gl X "range") (hm : X.mg "range" = none) (ha : PA X [a,b] ta) (hs : starEach [a,b] X.env = [(false,eval a X.env),(false,eval b X.env)] := by rfl) (hs2 : starEach [b] X.env = [(false,eval b X.env)] := by rfl) :
  PI X tg (.Call (.Name "range" p) [a,b] [] pos) (iRng2 ta) := by
 intro pins s σ H R I h
 refine Call_ (Q4L I hg hm boot_range (PyProof.Rows.callWith_type1 (thn (ha pos pins s σ H _ I h) λ us s1 ⟨vs,H1,I1,r1,q1⟩ => ?_) (by rw [hs,hs2]) (by rw [hs2]; rfl)))
 obtain ⟨i,j,e,⟨q1,q2,q3,q4⟩,q⟩ := q1
 subst e
 cases r1 with
 | cons r rr =>
  cases rr with
  | cons r' rr =>
   cases rr
   obtain ⟨t,rfl⟩ := r
   obtain ⟨t',rfl⟩ := r'
   exact call_range_2 (range_it I1 q1 q2 q3 q4 q)
def tFor (wi : TI) (g : TG) (tb : TS) : TS := λ D σ H => wi σ H λ J H1 => ∃ W : Nat -> Nat -> St -> Hp -> Prop,(∃ m,W 0 m σ H1) /\ ∀ i m σ H,W i m σ H ->
 (J.stop i H /\ D.nx σ H) \/ (J.go i H /\ ∃ N : St -> Hp -> Prop,(∀ σ' H',N σ' H' -> ∃ m',m' < m /\ W (i + 1) m' σ' H') /\ ∀ x H',J.yld i H x H' -> g x σ H' λ σ2 H2 => tb { D with nx := N,ct := N,bk := D.nx } σ2 H2)
def Q2C (fp : List Addr) (h : Heap) : List (Addr × Obj) := fp.filterMap λ b => (h.get? b).map λ o => (b,o)
theorem Q2m {fp : List Addr} {h : Heap} {b : Addr} {o : Obj} (hb : b ∈ fp) (e : h.get? b = some o) : (b,o) ∈ Q2C fp h := List.mem_filterMap.mpr ⟨b,hb,by rw [e]; rfl⟩
theorem of_pinsAt {fp : List Addr} {h : Heap} {p : Addr × Obj} (hp : p ∈ Q2C fp h) : p.1 ∈ fp /\ h.get? p.1 = some p.2 := by
 obtain ⟨b,hb,e⟩ := List.mem_filterMap.mp hp
 cases q : h.get? b with
 | none => rw [q] at e; cases e
 | some o =>
  rw [q] at e
  have e' : (b,o) = p := Option.some.inj e
  subst e'
  exact ⟨hb,q⟩
theorem Inv.pinned {pins : List (Addr × Obj)} {σ : St} {H : Hp} {s : Shared} {fp : List Addr} (I : Inv X pins σ H s) (hf : ∀ b ∈ fp,FpOk X pins H b) (ho : ∀ b ∈ fp,∃ o,s.heap.get? b = some o /\ ∀ v,o.data ≠ .cell v) : Inv X (pins ++ Q2C fp s.heap) σ H s :=
 I.pins_of λ p hp => (List.mem_append.mp hp).elim (λ z => I.pin p (List.mem_append_right _ z)) λ z => by
  obtain ⟨hb,e⟩ := of_pinsAt z
  obtain ⟨f0,f1,f2,_⟩ := hf p.1 hb
  obtain ⟨o,e',d⟩ := ho p.1 hb
  rw [e] at e'; cases e'
  exact ⟨e,f0,f1,f2,d⟩
theorem Inv.unpinned {pins pl : List (Addr × Obj)} {σ : St} {H : Hp} {s : Shared} (I : Inv X (pins ++ pl) σ H s) : Inv X pins σ H s := I.pins_of λ p hp => I.pin p (List.mem_append_right _ (List.mem_append_left _ hp))
theorem ps_for {iter : Expr} {body : List Stmt} {wi : TI} {g : TG} {tb : TS} {pos : Pos} (hp : PassesOwn (model X.prog X.w) X.A X.env X.xe) (hc : X.calm = true) (hi : PI X tg iter wi) (hg : PG X tg g) (hb : PSs X body tb)
  (hs : ∀ x,foldedSetIterable iter X.env x = pure x := by intro _; rfl) : PS X (.For tg iter body [] pos) (tFor wi g tb) := by
 intro pins s σ H D I h
 refine wpAny_For (thn (hi pins s σ H _ I h) λ v s1 h1 => thn h1 λ itv s2 h2 => ?_) hs
 obtain ⟨it,fp,tn,J,H2,e,I2,T,st2,f2,W,⟨m0,w0⟩,turn⟩ := h2
 subst e
 -- what stays true of the iterator's objects through the loop
 have stat : ∀ {H' : Hp},(∀ b ∈ fp,H' b = none) -> ∀ b ∈ fp,FpOk X pins H' b := λ hn b hb => ⟨hn b hb,(f2 b hb).2⟩
 refine codeAny_forLoop_any (λ n s' => ∃ i σ' H',Inv X pins σ' H' s' /\ tn i s'.heap /\ (∀ b ∈ fp,H' b = none) /\ W i n σ' H') ?_ m0 ⟨0,σ,H2,I2,st2,λ b hb => (f2 b hb).1,w0⟩
 rintro n s3 ⟨i,σ3,H3,I3,st3,fr3,w3⟩
 rcases turn i n σ3 H3 w3 with ⟨stop,qn⟩ | ⟨go,N,hN,step⟩
 ·refine wpAny_passesOwn hp (thn (T.done X rfl rfl rfl hc i pins s3 σ3 H3 X.xe I3 (stat fr3) st3 stop) λ r s4 ⟨hr,I4⟩ => ?_)
  subst hr
  exact wpAny_execs_nil ⟨σ3,H3,I4,qn⟩
 ·refine wpAny_passesOwn hp (thn (T.item X rfl rfl rfl hc i pins s3 σ3 H3 X.xe I3 (stat fr3) st3 go) λ r s4 ⟨u,hr,h4⟩ => ?_)
  subst hr
  refine wpAny_passesOwn hp (thn h4 λ _ s5 ⟨x,H5,I5,r5,y5,st5,fr5⟩ => ?_)
  have I5' := I5.pinned (stat fr5) (T.obj _ _ st5)
  refine wpAny_passesOwn hp (thn (hg _ s5 σ3 H5 x u _ I5' r5 (step x H5 y5)) λ _ s6 ⟨σ6,H6,I6,q6⟩ => ?_)
  refine wpAny_passesOwn hp (thn (hb _ s6 σ6 H6 _ I6 q6) λ f s7 q7 => ?_)
  have again : ∀ {σ7 : St} {H7 : Hp},Inv X (pins ++ Q2C fp s5.heap) σ7 H7 s7 -> N σ7 H7 -> ∃ m,m < n /\ ∃ i σ' H',Inv X pins σ' H' s7 /\ tn i s7.heap /\ (∀ b ∈ fp,H' b = none) /\ W i m σ' H' := λ {σ7 H7} I7 n7 => by
   obtain ⟨m',hm,w7⟩ := hN σ7 H7 n7
   refine ⟨m',hm,i + 1,σ7,H7,I7.unpinned,T.keep _ _ _ st5 λ b hb o e => (I7.pin (b,o) (List.mem_append_right _ (List.mem_append_right _ (Q2m hb e)))).1,λ b hb => ?_,w7⟩
   obtain ⟨o,e,d⟩ := T.obj _ _ st5 b hb
   exact (I7.pin (b,o) (List.mem_append_right _ (List.mem_append_right _ (Q2m hb e)))).2.1
  cases f with
  | next => obtain ⟨σ7,H7,I7,n7⟩ := q7; exact again I7 n7
  | cont => obtain ⟨σ7,H7,I7,n7⟩ := q7; exact again I7 n7
  | brk => obtain ⟨σ7,H7,I7,q7⟩ := q7; exact ⟨σ7,H7,I7.unpinned,q7⟩
  | ret v => obtain ⟨x7,σ7,H7,I7,r7,q7⟩ := q7; exact ⟨x7,σ7,H7,I7.unpinned,r7,q7⟩
end
end L2
namespace L2
open PySem PySem.Spec PyProof.Rows
abbrev R2 := V -> V -> Hp -> VK -> Prop
def OpR (X : Cx) (f : Value -> Value -> Sem Value) (r : R2) : Prop :=
 ∀ (pins : List (Addr × Obj)) (s : Shared) (σ : St) (H : Hp) (x y : V) (v u : Value) (Q : VK),Inv X pins σ H s -> RelV x v -> RelV y u -> r x y H Q ->
  wpAny (model X.prog X.w) X.A (f v u) (EP X pins σ Q) X.xe s
def CallR (X : Cx) (f : Value) (r : List V -> Hp -> VK -> Prop) : Prop :=
 ∀ (pins : List (Addr × Obj)) (s : Shared) (σ : St) (H : Hp) (xs : List V) (us : List Value) (Q : VK),Inv X pins σ H s -> Vals xs us -> r xs H Q ->
  wpAny (model X.prog X.w) X.A (call f us) (EP X pins σ Q) X.xe s
def TruR (X : Cx) (r : V -> Hp -> (Bool -> Hp -> Prop) -> Prop) : Prop :=
 ∀ (pins : List (Addr × Obj)) (s : Shared) (σ : St) (H : Hp) (x : V) (v : Value) (Q : Bool -> Hp -> Prop),Inv X pins σ H s -> RelV x v -> r x H Q ->
  wpAny (model X.prog X.w) X.A (truthy v) (TP X pins σ Q) X.xe s
def rI (C : Int -> Int -> Prop) (g : Int -> Int -> V) : R2 := λ x y H Q => ∃ i j,x = .int i /\ y = .int j /\ C i j /\ Q (g i j) H
def rI0 (g : Int -> Int -> V) : R2 := λ x y H Q => ∃ i j,x = .int i /\ y = .int j /\ Q (g i j) H
section
variable {X : Cx} {a b c : Expr} {ta tb tc : TE} {pos : Pos}
theorem binT (ha : PE X a ta) (hb : PE X b tb) {pins : List (Addr × Obj)} {s : Shared} {σ : St} {H : Hp} {R : V -> V -> Hp -> Prop} (I : Inv X pins σ H s)
  (h : ta σ H λ x H1 => tb σ H1 λ y H2 => R x y H2) {Q : Value -> Shared -> Prop} {f : Value -> Value -> Sem Value}
  (hf : ∀ v u s2 x y H2,Inv X pins σ H2 s2 -> RelV x v -> RelV y u -> R x y H2 -> wpAny (model X.prog X.w) X.A (f v u) Q X.xe s2) :
  wpAny (model X.prog X.w) X.A (eval a X.env) (λ v s₁ => wpAny (model X.prog X.w) X.A (eval b X.env) (λ u s₂ => wpAny (model X.prog X.w) X.A (f v u) Q X.xe s₂) X.xe s₁) X.xe s := by
 refine thn (ha pins s σ H _ I h) λ v s1 ⟨x,H1,I1,r1,q1⟩ => ?_
 refine thn (hb pins s1 σ H1 _ I1 q1) λ u s2 ⟨y,H2,I2,r2,q2⟩ => ?_
 exact hf v u s2 x y H2 I2 r1 r2 q2
theorem opI {f : Value -> Value -> Sem Value} {C : Int -> Int -> Prop} {g : Int -> Int -> Int}
  (rule : ∀ (i j : Int) (t u : Tok) (s : Shared) (Q : Value -> Shared -> Prop) (E : Value -> Shared -> Prop),C i j -> Q (.int (g i j) s.toks) { s with toks := s.toks + 1 } -> wpAny (model X.prog X.w) X.A (f (.int i t) (.int j u)) Q E s) :
  OpR X f (rI C λ i j => .int (g i j)) := by
 intro pins s σ H x y v u Q I rx ry h
 obtain ⟨i,j,rfl,rfl,hc,q⟩ := h
 obtain ⟨t,rfl⟩ := rx
 obtain ⟨t',rfl⟩ := ry
 exact rule i j t t' s _ _ hc ⟨.int (g i j),H,I.tok _,⟨_,rfl⟩,q⟩
theorem opI0 {f : Value -> Value -> Sem Value} {g : Int -> Int -> Int}
  (rule : ∀ (i j : Int) (t u : Tok) (s : Shared) (Q : Value -> Shared -> Prop) (E : Value -> Shared -> Prop),Q (.int (g i j) s.toks) { s with toks := s.toks + 1 } -> wpAny (model X.prog X.w) X.A (f (.int i t) (.int j u)) Q E s) :
  OpR X f (rI0 λ i j => .int (g i j)) := by
 intro pins s σ H x y v u Q I rx ry h
 obtain ⟨i,j,rfl,rfl,q⟩ := h
 obtain ⟨t,rfl⟩ := rx
 obtain ⟨t',rfl⟩ := ry
 exact rule i j t t' s _ _ ⟨.int (g i j),H,I.tok _,⟨_,rfl⟩,q⟩
theorem opB0 {f : Value -> Value -> Sem Value} {g : Int -> Int -> Bool}
  (rule : ∀ (i j : Int) (t u : Tok) (s : Shared) (Q : Value -> Shared -> Prop) (E : Value -> Shared -> Prop),Q (.bool (g i j)) s -> wpAny (model X.prog X.w) X.A (f (.int i t) (.int j u)) Q E s) :
  OpR X f (rI0 λ i j => .bl (g i j)) := by
 intro pins s σ H x y v u Q I rx ry h
 obtain ⟨i,j,rfl,rfl,q⟩ := h
 obtain ⟨t,rfl⟩ := rx
 obtain ⟨t',rfl⟩ := ry
 exact rule i j t t' s _ _ ⟨.bl (g i j),H,I,rfl,q⟩
def CDiv (i j : Int) : Prop := 0 < j /\ j < 1073741824
def CMul (i j : Int) : Prop := (-(2 ^ 64) < i /\ i < 2 ^ 64) \/ (-(2 ^ 64) < j /\ j < 2 ^ 64)
theorem CMul.ok {i j : Int} (h : CMul i j) : IntMulOk i j := by
 rcases h with ⟨h1,h2⟩ | ⟨h1,h2⟩
 ·exact .of_left (intBits_le_64 h1 h2)
 ·exact .of_right (intBits_le_64 h1 h2)
theorem op_add : OpR X (binaryOp .Add) (rI0 λ i j => .int (i + j)) := opI0 λ _ _ _ _ _ _ _ q => add_int q
theorem op_sub : OpR X (binaryOp .Sub) (rI0 λ i j => .int (i - j)) := opI0 λ _ _ _ _ _ _ _ q => sub_int q
theorem op_fdiv : OpR X (binaryOp .FloorDiv) (rI CDiv λ i j => .int (i / j)) := opI λ i j _ _ _ _ _ hc q => by
 have h1 : (0 : Int) < j := hc.1
 have h2 : j < 1073741824 := hc.2
 exact floordiv_int (by omega) (by rw [Int.fdiv_eq_ediv_of_nonneg i (by omega)]; exact q) (.inl (PyProof.noPylong_small (by omega)))
theorem op_mod : OpR X (binaryOp .Mod) (rI (λ _ j => 0 < j) λ i j => .int (i % j)) := opI λ i j _ _ _ _ _ hc q => by
 have h1 : (0 : Int) < j := hc
 exact mod_int' (by omega) (by rw [Int.fmod_eq_emod_of_nonneg i (by omega)]; exact q)
end
def scal : V -> V -> Bool
 | .non,.non => true | .non,.int _ => true | .int _,.non => true | .non,.bl _ => true | .bl _,.non => true | .non,.str _ => true | .str _,.non => true
 | .int _,.int _ => true | .bl _,.bl _ => true | .str _,.str _ => true | .byt _,.byt _ => true
 | .int _,.str _ => true | .str _,.int _ => true | .bl _,.str _ => true | .str _,.bl _ => true
 | _,_ => false
def rEq : R2 := λ x y H Q => scal x y = true /\ Q (.bl (decide (x = y))) H
def rNe : R2 := λ x y H Q => scal x y = true /\ Q (.bl (!decide (x = y))) H
theorem dec_int {i j : Int} : decide (V.int i = V.int j) = (i == j) := by
 rw [Bool.eq_iff_iff]
 simp
theorem dec_bl {i j : Bool} : decide (V.bl i = V.bl j) = (i == j) := by
 rw [Bool.eq_iff_iff]
 simp
theorem dec_str {i j : Str} : decide (V.str i = V.str j) = (i == j) := by
 rw [Bool.eq_iff_iff]
 simp
theorem dec_byt {i j : Array UInt8} : decide (V.byt i = V.byt j) = (i.toList == j.toList) := by
 rw [Bool.eq_iff_iff]
 cases i
 cases j
 simp
section
variable {X : Cx} {a b c : Expr} {ta tb tc : TE} {pos : Pos}
theorem Q0L {pins : List (Addr × Obj)} {σ : St} {H : Hp} {s : Shared} {Q : VK} {k k' : Bool} (I : Inv X pins σ H s) (q : Q (.bl k) H) (e : k = k') : EP X pins σ Q (.bool k') s := by
 subst e
 exact ⟨.bl k,H,I,rfl,q⟩
theorem op_eq : OpR X (compareOp .Eq) rEq := by
 intro pins s σ H x y v u Q I rx ry h
 obtain ⟨hs,q⟩ := h
 cases x with
 | non =>
  cases rx
  cases y with
  | non => cases ry; exact PySem.EqNone.eq_none_none (Q0L I q (by simp))
  | bl j => cases ry; exact PySem.EqNone.eq_none_bool (Q0L I q (by simp))
  | int j => obtain ⟨t',rfl⟩ := ry; exact PySem.EqNone.eq_none_int (Q0L I q (by simp))
  | str j => obtain ⟨t',rfl⟩ := ry; exact PySem.EqNone.eq_none_str (Q0L I q (by simp))
  | _ => exact absurd (show false = true from hs) Bool.false_ne_true
 | bl i =>
  cases rx
  cases y with
  | non => cases ry; exact PySem.EqNone.eq_bool_none (Q0L I q (by simp))
  | bl j => cases ry; exact eq_bool (Q0L I q dec_bl)
  | str j => obtain ⟨t',rfl⟩ := ry; exact PySem.EqMixed.eq_bool_str (Q0L I q (by simp))
  | _ => exact absurd (show false = true from hs) Bool.false_ne_true
 | int i =>
  obtain ⟨t,rfl⟩ := rx
  cases y with
  | non => cases ry; exact PySem.EqNone.eq_int_none (Q0L I q (by simp))
  | int j => obtain ⟨t',rfl⟩ := ry; exact eq_int (Q0L I q dec_int)
  | str j => obtain ⟨t',rfl⟩ := ry; exact PySem.EqMixed.eq_int_str (Q0L I q (by simp))
  | _ => exact absurd (show false = true from hs) Bool.false_ne_true
 | str i =>
  obtain ⟨t,rfl⟩ := rx
  cases y with
  | non => cases ry; exact PySem.EqNone.eq_str_none (Q0L I q (by simp))
  | bl j => cases ry; exact PySem.EqMixed.eq_str_bool (Q0L I q (by simp))
  | int j => obtain ⟨t',rfl⟩ := ry; exact PySem.EqMixed.eq_str_int (Q0L I q (by simp))
  | str j => obtain ⟨t',rfl⟩ := ry; exact eq_str (Q0L I q dec_str)
  | _ => exact absurd (show false = true from hs) Bool.false_ne_true
 | byt i =>
  obtain ⟨t,rfl⟩ := rx
  cases y with
  | byt j => obtain ⟨t',rfl⟩ := ry; exact PySem.W.eq_bytes (Q0L I q dec_byt)
  | _ => exact absurd (show false = true from hs) Bool.false_ne_true
 | _ => cases y <;> exact absurd (show false = true from hs) Bool.false_ne_true
theorem op_ne : OpR X (compareOp .NotEq) rNe := by
 intro pins s σ H x y v u Q I rx ry h
 obtain ⟨hs,q⟩ := h
 cases x with
 | non =>
  cases rx
  cases y with
  | non => cases ry; exact PySem.EqNone.ne_none_none (Q0L I q (by simp))
  | bl j => cases ry; exact PySem.EqNone.ne_none_bool (Q0L I q (by simp))
  | int j => obtain ⟨t',rfl⟩ := ry; exact PySem.EqNone.ne_none_int (Q0L I q (by simp))
  | str j => obtain ⟨t',rfl⟩ := ry; exact PySem.EqNone.ne_none_str (Q0L I q (by simp))
  | _ => exact absurd (show false = true from hs) Bool.false_ne_true
 | bl i =>
  cases rx
  cases y with
  | non => cases ry; exact PySem.EqNone.ne_bool_none (Q0L I q (by simp))
  | bl j => cases ry; exact ne_bool (Q0L I q (congrArg not dec_bl))
  | str j => obtain ⟨t',rfl⟩ := ry; exact PySem.EqMixed.ne_bool_str (Q0L I q (by simp))
  | _ => exact absurd (show false = true from hs) Bool.false_ne_true
 | int i =>
  obtain ⟨t,rfl⟩ := rx
  cases y with
  | non => cases ry; exact PySem.EqNone.ne_int_none (Q0L I q (by simp))
  | int j => obtain ⟨t',rfl⟩ := ry; exact ne_int (Q0L I q (congrArg not dec_int))
  | str j => obtain ⟨t',rfl⟩ := ry; exact PySem.EqMixed.ne_int_str (Q0L I q (by simp))
  | _ => exact absurd (show false = true from hs) Bool.false_ne_true
 | str i =>
  obtain ⟨t,rfl⟩ := rx
  cases y with
  | non => cases ry; exact PySem.EqNone.ne_str_none (Q0L I q (by simp))
  | bl j => cases ry; exact PySem.EqMixed.ne_str_bool (Q0L I q (by simp))
  | int j => obtain ⟨t',rfl⟩ := ry; exact PySem.EqMixed.ne_str_int (Q0L I q (by simp))
  | str j => obtain ⟨t',rfl⟩ := ry; exact ne_str (Q0L I q (congrArg not dec_str))
  | _ => exact absurd (show false = true from hs) Bool.false_ne_true
 | byt i =>
  obtain ⟨t,rfl⟩ := rx
  cases y with
  | byt j => obtain ⟨t',rfl⟩ := ry; exact PySem.W.ne_bytes (Q0L I q (congrArg not dec_byt))
  | _ => exact absurd (show false = true from hs) Bool.false_ne_true
 | _ => cases y <;> exact absurd (show false = true from hs) Bool.false_ne_true
theorem op_lt : OpR X (compareOp .Lt) (rI0 λ i j => .bl (decide (i < j))) := opB0 λ _ _ _ _ _ _ _ q => lt_int q
theorem op_le : OpR X (compareOp .LtE) (rI0 λ i j => .bl (decide (i <= j))) := opB0 λ _ _ _ _ _ _ _ q => le_int q
theorem op_gt : OpR X (compareOp .Gt) (rI0 λ i j => .bl (decide (j < i))) := opB0 λ _ _ _ _ _ _ _ q => gt_int q
theorem op_ge : OpR X (compareOp .GtE) (rI0 λ i j => .bl (decide (j <= i))) := opB0 λ _ _ _ _ _ _ _ q => ge_int q
theorem op_isN : OpR X (compareOp .Is) (λ x y H Q => y = .non /\ Q (.bl (decide (x = .non))) H) := by
 intro pins s σ H x y v u Q I rx ry h
 obtain ⟨rfl,q⟩ := h
 cases ry
 refine is_none_gen (Q0L I q ?_)
 cases x <;> first
  | (cases rx; rfl)
  | (obtain ⟨t,rfl⟩ := rx; rfl)
theorem op_notN : OpR X (compareOp .IsNot) (λ x y H Q => y = .non /\ Q (.bl (!decide (x = .non))) H) := by
 intro pins s σ H x y v u Q I rx ry h
 obtain ⟨rfl,q⟩ := h
 cases ry
 refine isnot_none_gen (Q0L I q ?_)
 cases x <;> first
  | (cases rx; rfl)
  | (obtain ⟨t,rfl⟩ := rx; rfl)
theorem nomark (b : Expr) {op : CmpOp} (h : op ≠ .In := by decide) (h2 : op ≠ .NotIn := by decide) : behindInMarks op b = false := by
 have e1 : (op == CmpOp.In) = false := by cases op <;> first | rfl | exact absurd rfl h
 have e2 : (op == CmpOp.NotIn) = false := by cases op <;> first | rfl | exact absurd rfl h2
 cases b <;> simp [behindInMarks,e1,e2]
def TruV (K : PySem.W.Frag) (x : V) (H : Hp) (k : Bool) : Prop :=
 match x with
 | .non => k = false
 | .bl b => k = b
 | .int i => k = (i != 0)
 | .str y => y.length <= sizeLine /\ k = ((y.length : Int) != 0)
 | .byt y => y.size <= sizeLine /\ k = ((y.size : Int) != 0)
 | .ref p => (∃ xs,SqL K H p xs /\ k = !xs.isEmpty) \/ (∃ xs,SqT K H p xs /\ k = !xs.isEmpty) \/ ∃ kvs,H p = some (.dK kvs) /\ k = !kvs.isEmpty
 | _ => False
theorem isEmpty_kv {κ : Type} {kvs : List (κ × V)} {vs : List (κ × Value)} (r : KV kvs vs) : (!vs.isEmpty) = !kvs.isEmpty := by
 cases r <;> rfl
theorem isEmpty_of {xs : List V} {its : List Value} (r : Vals xs its) : (!its.toArray.isEmpty) = !xs.isEmpty := by
 cases r <;> simp
theorem line63 : (sizeLine : Nat) < 2 ^ 63 := by rw [sizeLine_eq]; decide
theorem tru_ok : TruR X (λ x H Q => ∃ k,TruV X.K x H k /\ Q k H) := by
 intro pins s σ H x v Q I rx h
 obtain ⟨k,e,q⟩ := h
 have hl := line63
 have hs : sizeLine = 16777216 := sizeLine_eq
 cases x with
 | non =>
  cases rx
  have e' : k = false := e
  subst e'
  exact truthy_none ⟨H,I,q⟩
 | bl b =>
  cases rx
  have e' : k = b := e
  subst e'
  exact wpAny_truthy_bool ⟨H,I,q⟩
 | int i =>
  obtain ⟨t,rfl⟩ := rx
  have e' : k = (i != 0) := e
  subst e'
  exact PySem.P.truthy_int ⟨H,I,q⟩
 | str y =>
  obtain ⟨t,rfl⟩ := rx
  obtain ⟨hy,e'⟩ : y.length <= sizeLine /\ k = ((y.length : Int) != 0) := e
  subst e'
  exact PySem.P.truthy_str (by omega) ⟨H,I.tok _,q⟩
 | byt y =>
  obtain ⟨t,rfl⟩ := rx
  obtain ⟨hy,e'⟩ : y.size <= sizeLine /\ k = ((y.size : Int) != 0) := e
  subst e'
  exact PySem.W.truthy_bytes (by omega) ⟨H,I.tok _,q⟩
 | ref p =>
  cases rx
  have e' : (∃ xs,SqL X.K H p xs /\ k = !xs.isEmpty) \/ (∃ xs,SqT X.K H p xs /\ k = !xs.isEmpty) \/ ∃ kvs,H p = some (.dK kvs) /\ k = !kvs.isEmpty := e
  rcases e' with ⟨xs,hx,e'⟩ | ⟨xs,hx,e'⟩ | ⟨kvs,hx,e'⟩
  ·subst e'
   obtain ⟨its,r,pl,hz⟩ := I.list hx
   have hlen := r.length
   exact wpAny_truthy_list pl.isList (by simp only [List.size_toArray]; omega) ⟨H,I.tok _,by rw [isEmpty_of r]; exact q⟩
  ·subst e'
   obtain ⟨its,r,pl,hz⟩ := I.tuple hx
   have hlen := r.length
   exact truthy_tuple pl (by simp only [List.size_toArray]; omega) ⟨H,I.tok _,by rw [isEmpty_of r]; exact q⟩
  ·subst e'
   obtain ⟨hz,hS,vs,r,m⟩ : kvs.length <= sizeLine /\ (p == sysModules) = false /\ ∃ vs,KV kvs vs /\ s.heap.DictOf (mixKind X.prog X.w) p vs := I.hok p _ hx
   have hlen : kvs.length = vs.length := Paired.length r
   exact wpAny_truthy_dict hS m (by omega) ⟨H,I.tok _,by rw [isEmpty_kv r]; exact q⟩
 | _ => exact (show False from e).elim
theorem pt_truth (ha : PE X a ta) (he : ∀ whole,isTrue a X.env whole = (do let v <- whole; standAt a.pos; holding [v] (truthy v))) :
  PT X a (λ σ H Q => ta σ H λ x H' => ∃ k,TruV X.K x H' k /\ Q k H') := by
 intro pins s σ H Q I h
 exact isTrue_plain (thn (ha pins s σ H _ I h) λ v s1 ⟨x,H1,I1,r1,q1⟩ => tru_ok pins s1 σ H1 x v Q I1 r1 q1) (he _)
theorem vals1 {x : V} {us : List Value} (r : Vals [x] us) : ∃ u,us = [u] /\ RelV x u := by
 cases r with
 | cons r1 r2 => cases r2; exact ⟨_,rfl,r1⟩
theorem vals2 {x y : V} {us : List Value} (r : Vals [x,y] us) : ∃ u w',us = [u,w'] /\ RelV x u /\ RelV y w' := by
 cases r with
 | cons r1 r2 =>
  cases r2 with
  | cons r3 r4 => cases r4; exact ⟨_,_,rfl,r1,r3⟩
theorem call_abs : CallR X (.builtin "abs") (λ xs H Q => ∃ i,xs = [.int i] /\ Q (.int (if i < 0 then -i else i)) H) := by
 intro pins s σ H xs us Q I r h
 obtain ⟨i,rfl,q⟩ := h
 obtain ⟨u,rfl,t,rfl⟩ := vals1 r
 exact call_abs_int λ u tk => ⟨.int (if i < 0 then -i else i),H,I.tok _,⟨_,rfl⟩,q⟩
theorem call_max2 (hc : X.calm = true) : CallR X (.builtin "max") (λ xs H Q => ∃ i j,xs = [.int i,.int j] /\ Q (.int (if j > i then j else i)) H) := by
 intro pins s σ H xs us Q I r h
 obtain ⟨i,j,rfl,q⟩ := h
 obtain ⟨u,w',rfl,⟨t,rfl⟩,⟨t',rfl⟩⟩ := vals2 r
 refine max_two_ints (I.ok.hd hc) λ h' tk k => ⟨_,H,I.kept k,?_,q⟩
 by_cases hj : j > i
 ·rw [if_pos hj,if_pos hj]; exact ⟨_,rfl⟩
 ·rw [if_neg hj,if_neg hj]; exact ⟨_,rfl⟩
theorem call_min2 (hc : X.calm = true) : CallR X (.builtin "min") (λ xs H Q => ∃ i j,xs = [.int i,.int j] /\ Q (.int (if j < i then j else i)) H) := by
 intro pins s σ H xs us Q I r h
 obtain ⟨i,j,rfl,q⟩ := h
 obtain ⟨u,w',rfl,⟨t,rfl⟩,⟨t',rfl⟩⟩ := vals2 r
 refine min_two_ints (I.ok.hd hc) λ h' tk k => ⟨_,H,I.kept k,?_,q⟩
 by_cases hj : j < i
 ·rw [if_pos hj,if_pos hj]; exact ⟨_,rfl⟩
 ·rw [if_neg hj,if_neg hj]; exact ⟨_,rfl⟩
theorem call_int1 : CallR X (.type "int") (λ xs H Q => (∃ i,xs = [.int i] /\ Q (.int i) H) \/ ∃ k,xs = [.bl k] /\ Q (.int (if k then 1 else 0)) H) := by
 intro pins s σ H xs us Q I r h
 rcases h with ⟨i,rfl,q⟩ | ⟨k,rfl,q⟩
 ·obtain ⟨u,rfl,t,rfl⟩ := vals1 r
  exact call_int_int ⟨.int i,H,I,⟨_,rfl⟩,q⟩
 ·obtain ⟨u,rfl,r1⟩ := vals1 r
  cases r1
  exact call_int_bool ⟨.int (if k then 1 else 0),H,I.tok _,⟨_,rfl⟩,q⟩
end
end L2
namespace L2
open PySem PySem.Spec PyProof.Rows
structure ObjM (h : Heap) (x dx C : Addr) (mA : Str -> Option Value) : Prop where
 obj : h.get? x = some (PySem.W.instObj C dx)
 ns : h.Ns1 dx mA
 ne : dx ≠ x
theorem lookIn_ns {h : Heap} {dx : Addr} {mA : Str -> Option Value} (n : h.Ns1 dx mA) : ∃ od,h.get? dx = some od /\ ∀ name,PySem.W.lookIn name od = some (mA name) := by
 obtain ⟨o,es,ep,ho,hd,hk,_,hm⟩ := n
 refine ⟨o,ho,λ name => ?_⟩
 have e := hm name
 unfold nsFind findBy at e
 rw [<- Array.find?_toList] at e
 unfold PySem.W.lookIn
 rw [hd]
 dsimp only
 split
 ·rename_i y q
  rw [q] at e
  exact congrArg some e
 ·rename_i q
  rw [q] at e
  have a : es.toList.any (·.refKey) = false := by
   rw [List.any_eq_false]
   intro y hy
   obtain ⟨z,t,hkey⟩ := hk y (Array.mem_toList_iff.mp hy)
   simp [DictEntry.refKey,hkey]
  have a' : ¬ es.toList.any (·.refKey) = true := by rw [a]; exact Bool.false_ne_true
  rw [if_neg a']
  exact congrArg some e
theorem ObjM.look {h : Heap} {x dx C : Addr} {mA : Str -> Option Value} (I : ObjM h x dx C mA) : ∃ od,PySem.W.InstAt h x (PySem.W.instObj C dx) C (some od) /\ ∀ name,PySem.W.lookIn name od = some (mA name) :=
 let ⟨od,ho,hl⟩ := lookIn_ns I.ns
 ⟨od,⟨I.obj,rfl,rfl,ho⟩,hl⟩
section
variable {prog : Program} {w : World} {A : Around} {E : Value -> Shared -> Prop} {s : Shared} {K : PySem.W.Frag} {x dx C f : Addr} {mA : Str -> Option Value} {name : Str} {v : Value}
theorem get_map {expr : Bool} {Q : Value -> Shared -> Prop} (X : K.In s.heap) (I : ObjM s.heap x dx C mA) (hg : PySem.W.plainGet K C name = true) (hh : PySem.W.hasDictIn K C = true)
  (ha : PySem.W.findIn K (.ref C) name = some none) (hv : mA name = some v) (hv' : PySem.W.handedIn v = true) (h : Q v { s with toks := s.toks + 1 }) :
  wpAny (model prog w) A (getAttr (.ref x) name expr) Q E s := by
 obtain ⟨od,J,hl⟩ := I.look
 exact PySem.W.get_value X J (PySem.W.plainGet_of hg).1 (PySem.W.findObj_own hh ha rfl (by rw [hl,hv])) hv' h
theorem get_meth {pl : Sem Bool} {Q : Value × List Value -> Shared -> Prop} (X : K.In s.heap) (I : ObjM s.heap x dx C mA) (hg : PySem.W.plainGet K C name = true)
  (hf : PySem.W.findIn K (.ref C) name = some (some (.ref f))) (ht : PySem.W.isFn K (.ref f) = true) (hv : mA name = none) (h : Q (.ref f,[.ref x]) s) :
  wpAny (model prog w) A (getMethod (.ref x) name pl) Q E s := by
 obtain ⟨od,J,hl⟩ := I.look
 exact PySem.W.method_fn X J (PySem.W.plainGet_of hg).1 (PySem.W.plainGet_of hg).2 hf (beq_iff_eq.mp ht) (by show (PySem.W.lookIn name od).map (·.isSome) = some false; rw [hl,hv]; rfl) h
theorem set_map {ns : List Str} {Q : Unit -> Shared -> Prop} (X : K.In s.heap) (I : ObjM s.heap x dx C mA)
  (hs : PySem.W.findIn K (.ref C) "__setattr__" = some (some (.builtin "object.__setattr__"))) (hp : PySem.W.plainOver K C = true) (ht : PySem.W.takerIn K C name = some none) (hh : PySem.W.hasDictIn K C = true)
  (hw : PySem.Within mA ns) (hsz : ns.length <= sizeLine)
  (h : ∀ h',ObjM h' x dx C (λ y => if y = name then some v else mA y) -> Heap.SameBut dx s.heap h' -> Q () { s with heap := h',toks := s.toks + 2 }) :
  wpAny (model prog w) A (setAttr (.ref x) name v) Q E s := by
 obtain ⟨od,J,hl⟩ := I.look
 refine PySem.W.set_plain X J hs (PySem.W.osa_open (s := { s with toks := s.toks + 1 }) (r := none) X J hp ht λ b => ?_)
 obtain ⟨cd,hc,hd'⟩ := PySem.W.any_some hh
 have hx : s.heap.get? x = some ⟨.ref C,some dx,.plain,#[]⟩ := I.obj
 refine wpAny_bind (wpAny_pure (wpAny_bind (wpAny_bind (wpAny_loadPart hx (wpAny_bind (PySem.W.Looks.here (s := { s with toks := s.toks + 1 }) (PySem.W.looks_clsIn X hc) ?_))))))
 rw [hd']
 refine wpAny_pure (a := some dx) (wpAny_bind (wpAny_pure (wpAny_bind ?_)))
 refine wpAny_nsSet1 (s := { s with toks := s.toks + 1 }) I.ns λ h' hn2 hs2 => ?_
 obtain ⟨oD,esD,epD,hoD,hdD,hcD⟩ := hn2.count (PySem.Within.cons name v hw)
 refine wpAny_bind (wpAny_lookBehind hoD (by rw [hdD]; exact pastItsLine_dict (Nat.le_trans hcD (by rw [List.length_cons]; omega))) ?_)
 exact wpAny_pure (h _ ⟨(hs2.2 _ (Ne.symm I.ne)).trans I.obj,hn2,I.ne⟩ hs2)
theorem make_map {R : Result -> Shared -> Prop} {vs : List Value} {kw : List (Str × Value)} (X : K.In s.heap) (hm : PySem.W.makesIn K C = true)
  (hi : PySem.W.findIn K (.ref C) "__init__" = some (some (.ref f))) (hf : PySem.W.typeIn K (.ref f) = some (.type "function"))
  (h : codeAny (model prog w) (A.under (.builtin "type.__call__" ⟨.ref C :: vs,kw⟩)) (.call (.ref f) ⟨.ref (s.heap.objs.size + 1) :: vs,kw⟩) (PySem.W.InitBack (s.heap.objs.size + 1) R)
   { s with heap := (s.heap.push PySem.W.emptyDict).push (PySem.W.instObj C s.heap.objs.size) }) :
  codeAny (model prog w) A (.call (.ref C) ⟨vs,kw⟩) R s := by
 obtain ⟨hh,g,d,t,os⟩ := s
 exact PySem.W.make_core (PySem.W.makes_of X hm) (PySem.W.looks_findIn X hi) (λ self => PySem.W.bind_fn X self hf) (.inl rfl) h
end
def putF (f : Str) (v : V) : List (Str × V) -> List (Str × V)
 | [] => [(f,v)]
 | (g,x) :: r => if g = f then (g,v) :: r else (g,x) :: putF f v r
theorem lookup_putF (f g : Str) (v : V) : ∀ fs : List (Str × V),(putF f v fs).lookup g = if g = f then some v else fs.lookup g
 | [] => by
  show List.lookup g [(f,v)] = _
  by_cases h : g = f
  ·have hb : (g == f) = true := beq_iff_eq.mpr h
   simp only [List.lookup,hb,if_pos h]
  ·have hb : (g == f) = false := beq_eq_false_iff_ne.mpr h
   simp only [List.lookup,hb,if_neg h]
 | (k,x) :: r => by
  have ih := lookup_putF f g v r
  rw [show putF f v ((k,x) :: r) = (if k = f then (k,v) :: r else (k,x) :: putF f v r) from rfl]
  by_cases hk : k = f
  ·rw [if_pos hk]
   by_cases h : g = k
   ·have hb : (g == k) = true := beq_iff_eq.mpr h
    simp only [List.lookup,hb,if_pos (h.trans hk)]
   ·have hb : (g == k) = false := beq_eq_false_iff_ne.mpr h
    simp only [List.lookup,hb,if_neg (λ e : g = f => h (e.trans hk.symm))]
  ·rw [if_neg hk]
   by_cases h : g = k
   ·have hb : (g == k) = true := beq_iff_eq.mpr h
    simp only [List.lookup,hb,if_neg (λ e : g = f => hk (h.symm.trans e))]
   ·have hb : (g == k) = false := beq_eq_false_iff_ne.mpr h
    simp only [List.lookup,hb]
    exact ih
theorem keys_putF (f : Str) (v : V) : ∀ fs : List (Str × V),f ∈ (putF f v fs).map (·.1) /\ ∀ g,g ∈ fs.map (·.1) -> g ∈ (putF f v fs).map (·.1)
 | [] => ⟨by simp [putF],λ g h => by simp at h⟩
 | (k,x) :: r => by
  obtain ⟨i1,i2⟩ := keys_putF f v r
  rw [show putF f v ((k,x) :: r) = (if k = f then (k,v) :: r else (k,x) :: putF f v r) from rfl]
  by_cases hk : k = f
  ·rw [if_pos hk]
   subst hk
   exact ⟨by simp,λ g h => by simpa using h⟩
  ·rw [if_neg hk]
   refine ⟨?_,λ g h => ?_⟩
   ·rw [List.map_cons]
    exact List.mem_cons_of_mem _ i1
   ·rw [List.map_cons] at h ⊢
    rcases List.mem_cons.mp h with e | e
    ·exact List.mem_cons.mpr (.inl e)
    ·exact List.mem_cons_of_mem _ (i2 g e)
theorem length_putF (f : Str) (v : V) : ∀ fs : List (Str × V),(putF f v fs).length <= fs.length + 1
 | [] => by simp [putF]
 | (k,x) :: r => by
  have ih := length_putF f v r
  rw [show putF f v ((k,x) :: r) = (if k = f then (k,v) :: r else (k,x) :: putF f v r) from rfl]
  by_cases hk : k = f
  ·rw [if_pos hk,List.length_cons,List.length_cons]; omega
  ·rw [if_neg hk,List.length_cons,List.length_cons]; omega
theorem RelO.some_of {v : V} {o : Option Value} (r : RelO (some v) o) : ∃ u,o = some u /\ RelV v u := by
 cases o with
 | none => exact (show False from r).elim
 | some u => exact ⟨u,rfl,r⟩
theorem RelO.none_of {o : Option Value} (r : RelO none o) : o = none := by
 cases o with
 | none => rfl
 | some u => exact (show False from r).elim
theorem handed_of {v : V} {u : Value} (r : RelV v u) : PySem.W.handedIn u = true := by
 cases v with
 | non => cases (show u = Value.none from r); rfl
 | bl b => cases (show u = Value.bool b from r); rfl
 | int i => obtain ⟨t,e⟩ := (show ∃ t,u = Value.int i t from r); cases e; rfl
 | str x => obtain ⟨t,e⟩ := (show ∃ t,u = Value.str x t from r); cases e; rfl
 | byt b => obtain ⟨t,e⟩ := (show ∃ t,u = Value.bytes b t from r); cases e; rfl
 | flt b => obtain ⟨t,e⟩ := (show ∃ t,u = Value.float b t from r); cases e; rfl
 | ref a => cases (show u = Value.ref a from r); rfl
 | ty n => cases (show u = Value.type n from r); rfl
section
variable {P : Program} {w : World} {H H' : Hp} {h h' : Heap} {a C dx : Addr} {fs fs' : List (Str × V)}
theorem ins_get (hok : HOk P w H h) (e : H a = some (.ins C dx fs)) : ∃ mA,ObjM h a dx C mA /\ (∀ f,RelO (fs.lookup f) (mA f)) /\ PySem.Within mA (fs.map (·.1)) /\ fs.length <= 1000 /\ H dx = some (.own a) := by
 obtain ⟨d,z,ne,ob,mA,n,r,q⟩ := (show Q2A P w H h a (.ins C dx fs) from hok a _ e)
 exact ⟨mA,⟨ob,n,ne⟩,r,q,z,d⟩
end
structure Cls (K : PySem.W.Frag) (C : Addr) : Prop where
 pg : PySem.W.plainGet K C Str.empty = true
 hd : PySem.W.hasDictIn K C = true
 po : PySem.W.plainOver K C = true
 sa : PySem.W.findIn K (.ref C) "__setattr__" = some (some (.builtin "object.__setattr__"))
theorem Cls.get {K : PySem.W.Frag} {C : Addr} (c : Cls K C) (f : Str) : PySem.W.plainGet K C f = true := c.pg
def Q0u (K : PySem.W.Frag) (C : Addr) (f : Str) : Prop := PySem.W.findIn K (.ref C) f = some none
theorem Q0u.taker {K : PySem.W.Frag} {C : Addr} {f : Str} (n : Q0u K C f) : PySem.W.takerIn K C f = some none := by
 unfold PySem.W.takerIn
 rw [show PySem.W.findIn K (.ref C) f = some none from n]
 rfl
structure Meth (K : PySem.W.Frag) (C : Addr) (m : Str) (f : Addr) : Prop where
 at_ : PySem.W.findIn K (.ref C) m = some (some (.ref f))
 fn : PySem.W.isFn K (.ref f) = true
 kp : PySem.W.keepIn K (.ref f) = true
section
variable {X : Cx} {pins : List (Addr × Obj)} {σ : St} {H : Hp} {s : Shared} {a C dx : Addr} {fs : List (Str × V)} {f : Str} {v : V} {A : Around} {E : Value -> Shared -> Prop}
theorem getattr_ok {b : Bool} {Q : Value -> Shared -> Prop} (I : Inv X pins σ H s) (e : H a = some (.ins C dx fs)) (c : Cls X.K C) (n : Q0u X.K C f) (l : fs.lookup f = some v)
  (h : ∀ u s',Inv X pins σ H s' -> RelV v u -> Q u s') : wpAny (model X.prog X.w) A (getAttr (.ref a) f b) Q E s := by
 obtain ⟨mA,O,r,_,_,_⟩ := ins_get I.hok e
 obtain ⟨u,hu,ru⟩ := RelO.some_of (v := v) (o := mA f) (by rw [<- l]; exact r f)
 exact get_map I.kIn O (c.get f) c.hd n hu (handed_of ru) (h u _ (I.tok _) ru)
theorem getmeth_ok {m : Str} {g : Addr} {pl : Sem Bool} {Q : Value × List Value -> Shared -> Prop} (I : Inv X pins σ H s) (e : H a = some (.ins C dx fs)) (c : Cls X.K C) (k : Meth X.K C m g) (l : fs.lookup m = none)
  (h : Q (.ref g,[.ref a]) s) : wpAny (model X.prog X.w) A (getMethod (.ref a) m pl) Q E s := by
 obtain ⟨mA,O,r,_,_,_⟩ := ins_get I.hok e
 have hn : mA m = none := RelO.none_of (by rw [<- l]; exact r m)
 exact get_meth I.kIn O (c.get m) k.at_ k.fn hn h
theorem setattr_ok {y : V} {u : Value} {Q : Unit -> Shared -> Prop} (I : Inv X pins σ H s) (e : H a = some (.ins C dx fs)) (c : Cls X.K C) (n : Q0u X.K C f) (hl : fs.length < 1000) (ry : RelV y u)
  (h : ∀ s',Inv X pins σ (upd H a (.ins C dx (putF f y fs))) s' -> Q () s') : wpAny (model X.prog X.w) A (setAttr (.ref a) f u) Q E s := by
 obtain ⟨mA,O,r,wi,_,ho⟩ := ins_get I.hok e
 have hz : (fs.map (·.1)).length <= sizeLine := by rw [List.length_map,sizeLine_eq]; omega
 refine set_map I.kIn O c.sa c.po n.taker c.hd wi hz λ h' O' sb => h _ ?_
 have hd : ∃ o,h'.get? dx = some o := let ⟨o,_,_,e',_⟩ := O'.ns; ⟨o,e'⟩
 refine I.write (x := a) (e := dx) (by rw [e]; exact True.intro) (.inr ho) (λ b q hb z => (sb.2 b hb).trans z) hd ?_
 refine ⟨by rw [Q0x O.ne]; exact ho,?_,O.ne,O'.obj,_,O'.ns,λ g => ?_,λ g hg => ?_⟩
 ·have := length_putF f y fs; omega
 ·show RelO ((putF f y fs).lookup g) (if g = f then some u else mA g)
  rw [lookup_putF]
  by_cases q : g = f
  ·rw [if_pos q,if_pos q]; exact ry
  ·rw [if_neg q,if_neg q]; exact r g
 ·by_cases q : g = f
  ·rw [q]; exact (keys_putF f y fs).1
  ·refine (keys_putF f y fs).2 g (wi g λ z => hg ?_)
   show (if g = f then some u else mA g) = none
   rw [if_neg q]; exact z
theorem Inv.made (I : Inv X pins σ H s) : Inv X pins σ (upd (upd H s.heap.objs.size (.own (s.heap.objs.size + 1))) (s.heap.objs.size + 1) (.ins C s.heap.objs.size []))
  { s with heap := (s.heap.push PySem.W.emptyDict).push (PySem.W.instObj C s.heap.objs.size) } := by
 have e1 : (s.heap.push PySem.W.emptyDict).get? s.heap.objs.size = some PySem.W.emptyDict := Heap.get?_push_size s.heap rfl
 have e2 : ((s.heap.push PySem.W.emptyDict).push (PySem.W.instObj C s.heap.objs.size)).get? (s.heap.objs.size + 1) = some (PySem.W.instObj C s.heap.objs.size) := by
  have := Heap.get?_push_size (s.heap.push PySem.W.emptyDict) (o := PySem.W.instObj C s.heap.objs.size) rfl
  rwa [Heap.size_push] at this
 have e3 : (s.heap.push PySem.W.emptyDict).Ns s.heap.objs.size (λ _ => none) := ⟨PySem.W.emptyDict,#[],_,e1,rfl,(λ e he => absurd he (by simp)),λ _ => rfl⟩
 have I1 := I.laid (a := s.heap.objs.size) (o := .own (s.heap.objs.size + 1)) (h' := s.heap.push PySem.W.emptyDict) (t' := s.toks) (λ b u q => Heap.get?_push_of_some _ q) (Nat.le_refl _) ⟨_,e1⟩
 refine I1.laid (a := s.heap.objs.size + 1) (o := .ins C s.heap.objs.size []) (t' := s.toks) (λ b u q => Heap.get?_push_of_some _ q) (Nat.le_of_eq (Heap.size_push _ _)) ?_
 have ne : s.heap.objs.size ≠ s.heap.objs.size + 1 := Nat.ne_of_lt (Nat.lt_succ_self _)
 refine ⟨by rw [Q0x ne,Q0z],Nat.zero_le _,ne,e2,λ _ => none,(Heap.Ns1.of_empty e3).at λ o q => Heap.get?_push_of_some _ q,λ _ => True.intro,λ y hy => absurd rfl hy⟩
theorem attr_of {prog : Program} {w : World} {env : Env} {e : Expr} {f : Str} {pos : Pos} {s : Shared} {Q : Value -> Shared -> Prop} (hb : attributeBase e f env (eval e env) = eval e env)
  (h : wpAny (model prog w) A (eval e env) (λ o s₁ => wpAny (model prog w) A (getAttr o f true) Q E s₁) E s) : wpAny (model prog w) A (eval (.Attribute e f pos) env) Q E s :=
 Attribute_any_ h (by rw [arm_eval_Attribute,hb])
end
def tFld (K : PySem.W.Frag) (ta : TE) (f : Str) : TE := λ σ H Q => ta σ H λ x H1 => ∃ a C dx fs v,x = .ref a /\ H1 a = some (.ins C dx fs) /\ Cls K C /\ Q0u K C f /\ fs.lookup f = some v /\ Q v H1
section
variable {X : Cx} {o e value : Expr} {f : Str} {pos pos' tpos : Pos} {ta tv : TE}
theorem pe_fld (he : PE X e ta) (hb : attributeBase e f X.env (eval e X.env) = eval e X.env) : PE X (.Attribute e f pos) (tFld X.K ta f) := by
 intro pins s σ H Q I h
 refine attr_of hb (thn (he pins s σ H _ I h) λ u s1 ⟨x,H1,I1,rx,a,C,dx,fs,v,ex,ea,c,n,l,q⟩ => ?_)
 subst ex
 obtain rfl : u = Value.ref a := rx
 exact getattr_ok I1 ea c n l λ u' s2 I2 ru => ⟨v,H1,I2,ru,q⟩
end
section
variable {X : Cx} {pins : List (Addr × Obj)} {σ : St} {H : Hp} {s : Shared} {A : Around} {E : Value -> Shared -> Prop} {Q : Value -> Shared -> Prop} {c : Value} {b : Bool}
inductive TyOf (K : PySem.W.Frag) (H : Hp) : V -> Value -> Prop where
 | non : TyOf K H .non (.type "NoneType")
 | bl (x : Bool) : TyOf K H (.bl x) (.type "bool")
 | int (i : Int) : TyOf K H (.int i) (.type "int")
 | str (x : Str) : TyOf K H (.str x) (.type "str")
 | flt (x : UInt64) : TyOf K H (.flt x) (.type "float")
 | lst {a : Addr} {xs : List V} (e : H a = some (.lst xs)) : TyOf K H (.ref a) (.type "list")
 | frz {a : Addr} {o : Obj} {xs : List V} (e : H a = some (.frz o (.lst xs))) : TyOf K H (.ref a) (.type "list")
 | tup {a : Addr} {xs : List V} (e : H a = some (.tup xs)) : TyOf K H (.ref a) (.type "tuple")
 | dK {a : Addr} {kvs : List (Key × V)} (e : H a = some (.dK kvs)) : TyOf K H (.ref a) (.type "dict")
 | dT {a : Addr} {kvs : List (List Key × V)} (e : H a = some (.dT kvs)) : TyOf K H (.ref a) (.type "dict")
 | ins {a C dx : Addr} {fs : List (Str × V)} (e : H a = some (.ins C dx fs)) (cl : Cls K C) (ha : PySem.W.findIn K (.ref C) "__class__" = some (some (.builtin "object.__class__")))
   (hn : PySem.W.specialIn K (.builtin "object.__class__") "__get__" = some (some (.builtin "getset_descriptor.__get__"))) (htk : PySem.W.takesIn K (.builtin "object.__class__") = some true)
   (hm : PySem.W.mroIn K C (.type "object") = some true) : TyOf K H (.ref a) (.ref C)
theorem isinst_ok {x : V} {u t : Value} (I : Inv X pins σ H s) (rx : RelV x u) (ty : TyOf X.K H x t) (e : PySem.W.kitOne X.K t c = some b) (h : ∀ tk,Q (.bool b) { s with toks := tk }) :
  wpAny (model X.prog X.w) A (call (.builtin "isinstance") [u,c]) Q E s := by
 cases ty with
 | non => cases (show u = Value.none from rx); exact PySem.W.kia_one PySem.W.kitx_none I.kIn True.intro e (λ z => nomatch z) h
 | bl y => cases (show u = Value.bool y from rx); exact PySem.W.kia_one PySem.W.kitx_bool I.kIn True.intro e (λ z => nomatch z) h
 | int i => obtain ⟨t,q⟩ := (show ∃ t,u = Value.int i t from rx); cases q; exact PySem.W.kia_one PySem.W.kitx_int I.kIn True.intro e (λ z => nomatch z) h
 | str y => obtain ⟨t,q⟩ := (show ∃ t,u = Value.str y t from rx); cases q; exact PySem.W.kia_one PySem.W.kitx_str I.kIn True.intro e (λ z => nomatch z) h
 | flt y => obtain ⟨t,q⟩ := (show ∃ t,u = Value.float y t from rx); cases q; exact PySem.W.kia_one PySem.W.kitx_float I.kIn True.intro e (λ z => nomatch z) h
 | @lst a xs ea =>
  cases (show u = Value.ref a from rx)
  obtain ⟨_,_,n,_,h1⟩ := (show Q2A X.prog X.w H s.heap a (.lst xs) from I.hok a _ ea)
  exact PySem.W.kia_one PySem.W.kitx_list I.kIn ⟨_,h1,rfl⟩ e (λ z => nomatch z) h
 | @frz a ob xs ea =>
  cases (show u = Value.ref a from rx)
  obtain ⟨_,_,_,n,_,h1⟩ := (show Q2A X.prog X.w H s.heap a (.frz ob (.lst xs)) from I.hok a _ ea)
  exact PySem.W.kia_one PySem.W.kitx_list I.kIn ⟨_,h1,rfl⟩ e (λ z => nomatch z) h
 | @tup a xs ea =>
  cases (show u = Value.ref a from rx)
  obtain ⟨_,_,_,p⟩ := (show Q2A X.prog X.w H s.heap a (.tup xs) from I.hok a _ ea)
  obtain ⟨o,h1,h2,_⟩ := p.t
  exact PySem.W.kia_one PySem.W.kitx_tuple I.kIn ⟨o,h1,h2⟩ e (λ z => nomatch z) h
 | @dK a kvs ea =>
  cases (show u = Value.ref a from rx)
  obtain ⟨_,_,vs,_,p⟩ := (show Q2A X.prog X.w H s.heap a (.dK kvs) from I.hok a _ ea)
  obtain ⟨o,es,ep,h1,h2,_⟩ := p
  exact PySem.W.kia_one PySem.W.kitx_dict I.kIn ⟨o,h1,h2.1⟩ e (λ z => nomatch z) h
 | @dT a kvs ea =>
  cases (show u = Value.ref a from rx)
  obtain ⟨_,_,xs,_,o,es,ep,h1,h2,_⟩ := (show Q2A X.prog X.w H s.heap a (.dT kvs) from I.hok a _ ea)
  exact PySem.W.kia_one PySem.W.kitx_dict I.kIn ⟨o,h1,h2.1⟩ e (λ z => nomatch z) h
 | @ins a C dx fs ea cl ha hn htk hm =>
  cases (show u = Value.ref a from rx)
  obtain ⟨mA,O,_⟩ := ins_get I.hok ea
  obtain ⟨od,J,_⟩ := O.look
  exact PySem.W.kia_one (PySem.W.kitx_own (cl.get _) cl.hd ha hn htk hm) I.kIn J e (λ z => nomatch z) h
end
end L2
namespace L2
open PySem PySem.Spec PyProof.Rows
structure Room (k : Nat) (A : Around) : Prop where
 hd : A.handled = none
 dp : A.depth + 3 * k + 5 < recursionLimit
 un : A.units + 16 * k + 200 < cLine
theorem Room.mono {j k : Nat} {A : Around} (r : Room k A) (h : j <= k) : Room j A := ⟨r.hd,by have := r.dp; omega,by have := r.un; omega⟩
theorem Room.deeper {k : Nat} {A : Around} (r : Room (k + 1) A) (env : Env) : Room k (A.deeper env) :=
 ⟨r.hd,by have := r.dp; show A.depth + 1 + 3 * k + 5 < _; omega,by have := r.un; show A.units + 3 + 16 * k + 200 < _; omega⟩
theorem make_depth {A : Around} {C : Addr} {us : List Value} {kw : List (Str × Value)} : (A.under (.builtin "type.__call__" ⟨.ref C :: us,kw⟩)).depth = A.depth + 1 := by
 first | rfl | simp [Around.under,Code.weight,Code.isCreation,Code.isGuard,Code.isCaller,Code.frames,Code.isFrame,guardIds]
theorem make_units {A : Around} {C : Addr} {us : List Value} {kw : List (Str × Value)} : (A.under (.builtin "type.__call__" ⟨.ref C :: us,kw⟩)).units = A.units + 1 := by
 first | rfl | simp [Around.under,Code.cUnits,Code.frames,Code.isFrame]
theorem Room.make {k : Nat} {A : Around} (r : Room (k + 1) A) (C : Addr) (us : List Value) (kw : List (Str × Value)) : Room k (A.under (.builtin "type.__call__" ⟨.ref C :: us,kw⟩)) :=
 ⟨r.hd,by have := r.dp; rw [make_depth]; omega,by have := r.un; rw [make_units]; omega⟩
theorem Room.depth {k : Nat} {A : Around} (r : Room k A) : A.depth < recursionLimit := by have := r.dp; omega
theorem Room.units {k : Nat} {A : Around} (r : Room k A) : A.units + 64 < cLine := by have := r.un; omega
def tNil : TA := λ _ H Q => Q [] H
def tCons (ta : TE) (tr : TA) : TA := λ σ H Q => ta σ H λ x H1 => tr σ H1 λ xs H2 => Q (x :: xs) H2
section
variable {X : Cx} {e : Expr} {es : List Expr} {te : TE} {t : TA} {pos : Pos}
theorem pa_nil : PA X [] tNil := λ _ _ _ _ H Q I h => Calls.spliced_nil ⟨[],H,I,.nil,h⟩
theorem Q4C (ha : PE X e te) (hr : PA X es t) (hs : starEach (e :: es) X.env = (false,eval e X.env) :: starEach es X.env := by rfl) : PA X (e :: es) (tCons te t) := by
 intro pos pins s σ H Q I h
 rw [hs]
 show wpAny _ _ (spliced ((false,eval e X.env) :: backTo pos (starEach es X.env))) _ _ s
 refine Calls.spliced_cons (thn (ha pins s σ H _ I h) λ u s1 ⟨x,H1,I1,r1,q1⟩ => ?_)
 exact thn (hr pos pins s1 σ H1 _ I1 q1) λ us s2 ⟨xs,H2,I2,r2,q2⟩ => ⟨x :: xs,H2,I2,.cons r1 r2,q2⟩
def tTup (t : TA) : TE := λ σ H Q => t σ H λ xs H1 => xs.length <= sizeLine /\ ∀ p,H1 p = none -> Q (.ref p) (upd H1 p (.tup xs))
def tLst (t : TA) : TE := λ σ H Q => t σ H λ xs H1 => xs.length <= sizeLine /\ ∀ p,H1 p = none -> Q (.ref p) (upd H1 p (.lst xs))
theorem pe_tup {x1} (h : PA X es t) : PE X (.Tuple es x1 pos) (tTup t) := by
 intro pins s σ H Q I hq
 refine wpAny_Tuple_spliced (thn (h pos pins s σ H _ I hq) λ us s1 ⟨xs,H1,I1,r,z,q⟩ => ⟨by rw [<- r.length]; exact z,?_⟩)
 have hf : H1 s1.heap.objs.size = none := I1.hok.fresh (Nat.le_refl _)
 refine ⟨.ref s1.heap.objs.size,upd H1 s1.heap.objs.size (.tup xs),I1.laid (t' := s1.toks) (λ b u e => Heap.get?_push_of_some _ e) (Nat.le_refl _) ?_,rfl,q _ hf⟩
 exact ⟨z,us,r,TupN.new _ _⟩
theorem pe_lst (h : PA X es t) : PE X (.List es pos) (tLst t) := by
 intro pins s σ H Q I hq
 refine wpAny_List_spliced (thn (h pos pins s σ H _ I hq) λ us s1 ⟨xs,H1,I1,r,z,q⟩ => ⟨by rw [<- r.length]; exact z,?_⟩)
 have hf : H1 s1.heap.objs.size = none := I1.hok.fresh (Nat.le_refl _)
 refine ⟨.ref s1.heap.objs.size,upd H1 s1.heap.objs.size (.lst xs),I1.laid (t' := s1.toks) (λ b u e => Heap.get?_push_of_some _ e) (Nat.le_refl _) ?_,rfl,q _ hf⟩
 exact ⟨z,us,0,r,Heap.get?_push_size _ rfl⟩
end
abbrev Sp := List V -> Hp -> VK -> XK -> Prop
abbrev CXT := List Env -> Hp -> Shared -> XK -> Value -> Shared -> Prop
structure Env0 (P : Program) (w : World) (K : PySem.W.Frag) (mg : Str -> Option Value) (base : Heap) (A : Around) (outer : List Env) (s : Shared) (H : Hp) : Prop where
 frames : A.frames = some outer
 mod : Mod K mg base
 bs : ∀ b o,base.get? b = some o -> s.heap.get? b = some o /\ H b = none
 bsz : base.objs.size <= s.heap.objs.size
 funs : s.heap.FunFrames base outer
 frf : ∀ b ∈ frs outer,H b = none
 hok : HOk P w H s.heap
 bare : AllBare s.gens
def CE (outer : List Env) (P : Program) (w : World) (H : Hp) (s : Shared) (Q : VK) (u : Value) (s' : Shared) : Prop :=
 ∃ v H',s'.os = s.os /\ AllBare s'.gens /\ Un (frs outer) [] H H' s.heap s'.heap /\ HOk P w H' s'.heap /\ RelV v u /\ Q v H'
def CR (CX : CXT) (outer : List Env) (P : Program) (w : World) (H : Hp) (s : Shared) (Q : VK) (E : XK) (r : Result) (s' : Shared) : Prop :=
 match r with
 | .ok (.ret u) => CE outer P w H s Q u s'
 | .ok _ => False
 | .error e => CX outer H s E e s'
structure FnOk (P : Program) (w : World) (K : PySem.W.Frag) (mg : Str -> Option Value) (base : Heap) (CX : CXT) (k : Nat) (f : Addr) (fd : FuncData) (ps : List Str) (sp : Sp) : Prop where
 len : ∀ vs H Q E,sp vs H Q E -> vs.length = ps.length
 run : ∀ (A : Around) (outer : List Env) (s : Shared) (H : Hp) (args : Args) (us : List Value) (vs : List V) (Q : VK) (E : XK),Room k A -> Env0 P w K mg base A outer s H -> BindsTo s fd args (ps.zip us) -> Vals vs us -> sp vs H Q E ->
  codeAny (model P w) A (.call (.ref f) args) (CR CX outer P w H s Q E) s
theorem FnOk.mono {P : Program} {w : World} {K : PySem.W.Frag} {mg : Str -> Option Value} {base : Heap} {CX : CXT} {j k : Nat} {f : Addr} {fd : FuncData} {ps : List Str} {sp : Sp} (F : FnOk P w K mg base CX j f fd ps sp) (h : j <= k) :
  FnOk P w K mg base CX k f fd ps sp := ⟨F.len,λ A outer s H args us vs Q E hr => F.run A outer s H args us vs Q E (hr.mono h)⟩
theorem Env0.make {P : Program} {w : World} {K : PySem.W.Frag} {mg : Str -> Option Value} {base : Heap} {A : Around} {outer : List Env} {s : Shared} {H : Hp} (e : Env0 P w K mg base A outer s H) (C : Addr) (us : List Value) (kw : List (Str × Value)) :
  Env0 P w K mg base (A.under (.builtin "type.__call__" ⟨.ref C :: us,kw⟩)) outer s H := ⟨by first | exact e.frames | (simpa [Around.under,Code.envs,Code.isFrame,pushEnvs] using e.frames),e.mod,e.bs,e.bsz,e.funs,e.frf,e.hok,e.bare⟩
section
variable {X : Cx} {pins : List (Addr × Obj)} {σ : St} {H : Hp} {s s' : Shared}
theorem Inv.env0 (I : Inv X pins σ H s) : Env0 X.prog X.w X.K X.mg X.base X.A X.stack s H :=
 ⟨I.ok.frames,I.ok.mod,I.bs,Nat.le_trans I.ok.bsz I.sz,I.stack,I.stkFree,I.hok,I.bare⟩
theorem Inv.after {Q : VK} {u : Value} (I : Inv X pins σ H s) (h : CE X.stack X.prog X.w H s Q u s') : EP X pins σ Q u s' := by
 obtain ⟨v,H',os,bare,un,hok,r,q⟩ := h
 obtain ⟨hh,g,d,t,os'⟩ := s'
 obtain rfl : os' = s.os := os
 exact ⟨v,H',I.call (h' := hh) (g' := g) (d' := d) (t' := t) (ch := []) un hok bare (λ b z => absurd z (by simp)),r,q⟩
end
def tCall (sp : Sp) (dvs : List V) (E : XK) (t : TA) : TE := λ σ H Q => t σ H λ vs H1 => sp (vs ++ dvs) H1 Q E
def tMeth (C : Addr) (m : Str) (sp : Sp) (dvs : List V) (E : XK) (ta : TE) (t : TA) : TE := λ σ H Q => ta σ H λ x H1 => ∃ a dx fs,x = .ref a /\ H1 a = some (.ins C dx fs) /\ fs.lookup m = none /\
 t σ H1 λ vs H2 => sp (x :: (vs ++ dvs)) H2 Q E
def tMake (C : Addr) (sp : Sp) (dvs : List V) (E : XK) (t : TA) : TE := λ σ H Q => t σ H λ vs H1 => ∀ x dx,H1 x = none -> H1 dx = none -> dx ≠ x ->
 sp (.ref x :: (vs ++ dvs)) (upd (upd H1 dx (.own x)) x (.ins C dx [])) (λ v H2 => v = .non /\ Q (.ref x) H2) E
def Q0C (K : PySem.W.Frag) (fd : FuncData) (ps : List Str) (ds : List Value) : Prop :=
 ∀ (s : Shared) (us : List Value),K.In s.heap -> (us ++ ds).length = ps.length -> BindsTo s fd ⟨us,[]⟩ (ps.zip (us ++ ds))
theorem Q0C.all {K : PySem.W.Frag} {fd : FuncData} {ps : List Str} (h : ∀ us : List Value,us.length = ps.length -> bindArgs fd ⟨us,[]⟩ = pure (ps.zip us)) : Q0C K fd ps [] := λ s us _ hl => by
 rw [List.append_nil] at hl ⊢
 exact .of_eq (h us hl)
def Passes (CX : CXT) (X : Cx) (E : XK) : Prop := ∀ (pins : List (Addr × Obj)) (σ : St) (H : Hp) (s : Shared) (e : Value) (s' : Shared),Inv X pins σ H s -> CX X.stack H s E e s' -> X.xe e s'
section
variable {X : Cx} {CX : CXT} {k : Nat} {f C : Addr} {fd : FuncData} {ps : List Str} {sp : Sp} {dvs : List V} {ds : List Value} {E : XK} {x m : Str} {p pos apos : Pos} {e o : Expr} {es : List Expr} {ta : TE} {t : TA}
theorem run_fn {pins : List (Addr × Obj)} {σ : St} {H : Hp} {s : Shared} {Q : VK} {us : List Value} {vs : List V} (F : FnOk X.prog X.w X.K X.mg X.base CX k f fd ps sp) (hr : Room k X.A) (hb : Q0C X.K fd ps ds) (hd : Vals dvs ds) (hx : Passes CX X E)
  (I : Inv X pins σ H s) (r : Vals vs us) (h : sp (vs ++ dvs) H Q E) : wpAny (model X.prog X.w) X.A (call (.ref f) us) (EP X pins σ Q) X.xe s := by
 have r2 : Vals (vs ++ dvs) (us ++ ds) := r.append hd
 have hl : (us ++ ds).length = ps.length := by rw [<- r2.length]; exact F.len _ _ _ _ h
 refine wpAny_call (codeAny_mono (F.run X.A X.stack s H ⟨us,[]⟩ (us ++ ds) (vs ++ dvs) Q E hr I.env0 (hb s us I.kIn hl) r2 h) λ r s' hq => ?_)
 cases r with
 | error e => exact hx pins σ H s e s' I hq
 | ok fl =>
  cases fl with
  | ret u => exact I.after hq
  | next => exact False.elim hq
  | brk => exact False.elim hq
  | cont => exact False.elim hq
theorem pe_call (F : FnOk X.prog X.w X.K X.mg X.base CX k f fd ps sp) (hr : Room k X.A) (hg : Gl X x) (hm : X.mg x = some (.ref f)) (hk : PySem.W.keepIn X.K (.ref f) = true) (hb : Q0C X.K fd ps ds) (hd : Vals dvs ds) (hx : Passes CX X E)
  (ha : PA X (e :: es) t) (hdb : (x == ("__debug__" : Str)) = false := by decide) (he : starEach (e :: es) X.env = (false,eval e X.env) :: starEach es X.env := by rfl) (hpl : (backTo pos (starEach es X.env)).any (·.1) = false := by rfl) :
  PE X (.Call (.Name x p) (e :: es) [] pos) (tCall sp dvs E t) := by
 intro pins s σ H Q I h
 refine wpAny_Call_Name_kw (ld_glob I hg hm ?_ hdb)
 refine PySem.W.callWith_K (h₀ := X.base) I.ok.mod.kin hk (thn (ha pos pins s σ H _ I h) λ us s1 ⟨vs,H1,I1,r,q⟩ => ⟨I1.kIn,?_⟩) he hpl
 exact run_fn F hr hb hd hx I1 r q
theorem pe_meth {pl : Sem Bool} (he : PE X o ta) (c : Cls X.K C) (hm : Meth X.K C m f) (F : FnOk X.prog X.w X.K X.mg X.base CX k f fd ps sp) (hr : Room k X.A) (hb : Q0C X.K fd ps ds) (hd : Vals dvs ds) (hx : Passes CX X E) (ha : PA X (e :: es) t)
  (hst : starEach (e :: es) X.env = (false,eval e X.env) :: starEach es X.env := by rfl) (hpl : (backTo pos (starEach es X.env)).any (·.1) = false := by rfl)
  (ht : eval (.Call (.Attribute o m apos) (e :: es) [] pos) X.env = (do
   let ov <- eval o X.env
   standAt apos.atName
   let (f,first) <- holding [ov] (getMethod ov m pl)
   callWith pos f first (backTo pos (starEach (e :: es) X.env)) (backToKw pos (keywordEach [] X.env))) := by rfl) :
  PE X (.Call (.Attribute o m apos) (e :: es) [] pos) (tMeth C m sp dvs E ta t) := by
 intro pins s σ H Q I h
 refine PySem.W.methodCall_KW (pl := pl) (thn (he pins s σ H _ I h) λ u s1 ⟨x,H1,I1,rx,a,dx,fs,ex,ea,l,q⟩ => ?_) ht
 subst ex
 obtain rfl : u = Value.ref a := rx
 refine getmeth_ok I1 ea c hm l ?_
 refine PySem.W.callWith_K (first := [.ref a]) (h₀ := X.base) I.ok.mod.kin hm.kp (thn (ha pos pins s1 σ H1 _ I1 q) λ us s2 ⟨vs,H2,I2,r,q2⟩ => ⟨I2.kIn,?_⟩) hst hpl
 exact run_fn (us := .ref a :: us) (vs := .ref a :: vs) F hr hb hd hx I2 (.cons rfl r) q2
theorem pe_meth0 {pl : Sem Bool} (he : PE X o ta) (c : Cls X.K C) (hm : Meth X.K C m f) (F : FnOk X.prog X.w X.K X.mg X.base CX k f fd ps sp) (hr : Room k X.A) (hb : Q0C X.K fd ps ds) (hd : Vals dvs ds) (hx : Passes CX X E)
  (ht : eval (.Call (.Attribute o m apos) [] [] pos) X.env = (do
   let ov <- eval o X.env
   standAt apos.atName
   let (f,first) <- holding [ov] (getMethod ov m pl)
   callWith pos f first (backTo pos (starEach [] X.env)) (backToKw pos (keywordEach [] X.env))) := by rfl) :
  PE X (.Call (.Attribute o m apos) [] [] pos) (tMeth C m sp dvs E ta tNil) := by
 intro pins s σ H Q I h
 refine PySem.W.methodCall_KW (pl := pl) (thn (he pins s σ H _ I h) λ u s1 ⟨x,H1,I1,rx,a,dx,fs,ex,ea,l,q⟩ => ?_) ht
 subst ex
 obtain rfl : u = Value.ref a := rx
 refine getmeth_ok I1 ea c hm l ?_
 exact PySem.W.callWith_K0 (first := [.ref a]) I1.kIn hm.kp (run_fn (us := [.ref a]) (vs := [.ref a]) F hr hb hd hx I1 (.cons rfl .nil) q)
structure Mk (K : PySem.W.Frag) (C f : Addr) : Prop where
 makes : PySem.W.makesIn K C = true
 init : PySem.W.findIn K (.ref C) "__init__" = some (some (.ref f))
 fn : PySem.W.isFn K (.ref f) = true
 kp : PySem.W.keepIn K (.ref C) = true
theorem run_make {pins : List (Addr × Obj)} {σ : St} {H : Hp} {s : Shared} {Q : VK} {us : List Value} {vs : List V} (M : Mk X.K C f) (F : FnOk X.prog X.w X.K X.mg X.base CX k f fd ps sp) (hr : Room (k + 1) X.A) (hb : Q0C X.K fd ps ds) (hd : Vals dvs ds)
  (hx : Passes CX X E) (I : Inv X pins σ H s) (r : Vals vs us)
  (h : ∀ x dx,H x = none -> H dx = none -> dx ≠ x -> sp (.ref x :: (vs ++ dvs)) (upd (upd H dx (.own x)) x (.ins C dx [])) (λ v H2 => v = .non /\ Q (.ref x) H2) E) :
  wpAny (model X.prog X.w) X.A (call (.ref C) us) (EP X pins σ Q) X.xe s := by
 have hq := h (s.heap.objs.size + 1) s.heap.objs.size (I.hok.fresh (Nat.le_succ _)) (I.hok.fresh (Nat.le_refl _)) (Nat.ne_of_lt (Nat.lt_succ_self _))
 have I2 := Inv.made (C := C) I
 have r2 : Vals (V.ref (s.heap.objs.size + 1) :: (vs ++ dvs)) (Value.ref (s.heap.objs.size + 1) :: (us ++ ds)) := .cons rfl (r.append hd)
 have hl : (Value.ref (s.heap.objs.size + 1) :: us ++ ds).length = ps.length := by
  have e := r2.length
  rw [F.len _ _ _ _ hq] at e
  exact e.symm
 refine wpAny_call (make_map (f := f) I.kIn M.makes M.init (beq_iff_eq.mp M.fn) (codeAny_mono (F.run _ X.stack _ _ ⟨Value.ref (s.heap.objs.size + 1) :: us,[]⟩ (Value.ref (s.heap.objs.size + 1) :: (us ++ ds)) _ _ E (hr.make C us [])
  (I2.env0.make C us []) (hb _ (Value.ref (s.heap.objs.size + 1) :: us) I2.kIn hl) r2 hq) λ r s' hq' => ?_))
 cases r with
 | error e => exact hx pins σ _ _ e s' I2 hq'
 | ok fl =>
  cases fl with
  | ret u =>
   obtain ⟨v,H',I3,rv,ev,q3⟩ := I2.after hq'
   subst ev
   exact ⟨rv,⟨V.ref (s.heap.objs.size + 1),H',I3,rfl,q3⟩⟩
  | next => exact False.elim hq'
  | brk => exact False.elim hq'
  | cont => exact False.elim hq'
theorem pe_make (M : Mk X.K C f) (F : FnOk X.prog X.w X.K X.mg X.base CX k f fd ps sp) (hr : Room (k + 1) X.A) (hg : Gl X x) (hm : X.mg x = some (.ref C)) (hb : Q0C X.K fd ps ds) (hd : Vals dvs ds) (hx : Passes CX X E)
  (ha : PA X (e :: es) t) (hdb : (x == ("__debug__" : Str)) = false := by decide) (he : starEach (e :: es) X.env = (false,eval e X.env) :: starEach es X.env := by rfl) (hpl : (backTo pos (starEach es X.env)).any (·.1) = false := by rfl) :
  PE X (.Call (.Name x p) (e :: es) [] pos) (tMake C sp dvs E t) := by
 intro pins s σ H Q I h
 refine wpAny_Call_Name_kw (ld_glob I hg hm ?_ hdb)
 refine PySem.W.callWith_K (h₀ := X.base) I.ok.mod.kin M.kp (thn (ha pos pins s σ H _ I h) λ us s1 ⟨vs,H1,I1,r,q⟩ => ⟨I1.kIn,?_⟩) he hpl
 exact run_make M F hr hb hd hx I1 r q
end
section
variable {X : Cx} {CX : CXT} {k : Nat} {f C : Addr} {fd : FuncData} {ps ks : List Str} {sp : Sp} {E : XK} {x m : Str} {p pos apos kpos : Pos} {e o : Expr} {es : List Expr} {kws : List Keyword} {te ta : TE} {t tk : TA} {nm : Option Str}
variable {g : List Value -> List Value -> List Value} {gV : List V -> List V -> List V}
end
structure Q0n (N P : List Str) (sc : Scope) : Prop where
 kind : sc.kind = .function
 co : sc.isCoroutine = false
 gen : sc.isGenerator = false
 nd : N.Nodup
 pre : N.take P.length = P
 par : ∀ x ∈ P,sc.names.lookup x = some .local \/ sc.names.lookup x = some .cell
 nofree : ∀ y ∈ sc.names,y.2 ≠ .free
theorem bindL_out {kindOf : Str -> Option NameKind} {x : Str} : ∀ {binds : List (Str × Value)} {m : Str -> Option Value},(∀ v,(x,v) ∉ binds) -> bindL kindOf binds m x = m x
 | [],_,_ => rfl
 | (n,v) :: r,m,h => by
  unfold bindL
  rw [bindL_out λ w hw => h w (List.mem_cons_of_mem _ hw)]
  split
  ·have : x ≠ n := by rintro rfl; exact h v List.mem_cons_self
   simp [this]
  ·rfl
theorem bindC_out {kindOf : Str -> Option NameKind} {x : Str} : ∀ {binds : List (Str × Value)} {m : Str -> Option Value},(∀ v,(x,v) ∉ binds) -> bindC kindOf binds m x = m x
 | [],_,_ => rfl
 | (n,v) :: r,m,h => by
  unfold bindC
  rw [bindC_out λ w hw => h w (List.mem_cons_of_mem _ hw)]
  split
  ·rfl
  ·have : x ≠ n := by rintro rfl; exact h v List.mem_cons_self
   simp [this]
theorem bindL_get {kindOf : Str -> Option NameKind} {x : Str} {v : Value} : ∀ {P : List Str} {vs : List Value} {i : Nat} {m : Str -> Option Value},P.Nodup -> P[i]? = some x -> vs[i]? = some v -> kindOf x = some .local ->
  bindL kindOf (P.zip vs) m x = some v
 | [],_,_,_,_,h,_,_ => by simp at h
 | _ :: _,[],_,_,_,_,h,_ => by simp at h
 | p :: P,w :: vs,0,m,nd,h1,h2,hk => by
  simp at h1 h2; subst h1; subst h2
  show bindL kindOf ((p,w) :: P.zip vs) m p = _
  unfold bindL
  rw [bindL_out λ v hv => (List.nodup_cons.mp nd).1 (List.of_mem_zip hv).1,if_pos hk]
  simp
 | p :: P,w :: vs,i + 1,m,nd,h1,h2,hk => by
  show bindL kindOf ((p,w) :: P.zip vs) m x = _
  unfold bindL
  exact bindL_get (i := i) (List.nodup_cons.mp nd).2 (by simpa using h1) (by simpa using h2) hk
theorem bindC_get {kindOf : Str -> Option NameKind} {x : Str} {v : Value} : ∀ {P : List Str} {vs : List Value} {i : Nat} {m : Str -> Option Value},P.Nodup -> P[i]? = some x -> vs[i]? = some v -> kindOf x ≠ some .local ->
  bindC kindOf (P.zip vs) m x = some v
 | [],_,_,_,_,h,_,_ => by simp at h
 | _ :: _,[],_,_,_,_,h,_ => by simp at h
 | p :: P,w :: vs,0,m,nd,h1,h2,hk => by
  simp at h1 h2; subst h1; subst h2
  show bindC kindOf ((p,w) :: P.zip vs) m p = _
  unfold bindC
  rw [bindC_out λ v hv => (List.nodup_cons.mp nd).1 (List.of_mem_zip hv).1,if_neg hk]
  simp
 | p :: P,w :: vs,i + 1,m,nd,h1,h2,hk => by
  show bindC kindOf ((p,w) :: P.zip vs) m x = _
  unfold bindC
  exact bindC_get (i := i) (List.nodup_cons.mp nd).2 (by simpa using h1) (by simpa using h2) hk
def start (N : List Str) (vs : List V) : St := vs.map some ++ List.replicate (N.length - vs.length) none
def cxOf (CX : CXT) (P : Program) (w : World) (K : PySem.W.Frag) (mg : Str -> Option Value) (base : Heap) (N : List Str) (qual : Str) (scope : Scope) (f : Addr) (cd : Value) (A : Around) (outer : List Env) (s : Shared) (H : Hp) (E : XK) : Cx where
 prog := P
 w := w
 K := K
 mg := mg
 base := base
 A := A.deeper (envOfC qual scope s.heap.objs.size f cd)
 N := N
 s₀ := s
 H₀ := H
 env := envOfC qual scope s.heap.objs.size f cd
 outer := outer
 stack := envOfC qual scope s.heap.objs.size f cd :: outer
 ex := []
 calm := true
 fn := λ _ => true
 pn := []
 xe := λ e s' => wpAny (model P w) (A.deeper (envOfC qual scope s.heap.objs.size f cd)) (leaving (envOfC qual scope s.heap.objs.size f cd) e) (λ _ s'' => CX outer H s E e s'') (λ e' s'' => CX outer H s E e' s'') s'
theorem cell_has {sc : Scope} {n : Nat} {x : Str} (h : sc.names.lookup x = some .cell) : ∃ c,(cellsFrom n sc.names []).lookup x = some c := by
 have q := PySem.W.cellsFrom_some sc.names n [] (.inl h)
 exact Option.isSome_iff_exists.mp q
theorem inv_start {CX : CXT} {P : Program} {w : World} {K : PySem.W.Frag} {mg : Str -> Option Value} {base : Heap} {N ps : List Str} {qual : Str} {scope : Scope} {f : Addr} {cd : Value} {A : Around} {outer : List Env} {s s1 : Shared} {H : Hp} {E : XK} {us : List Value} {vs : List V}
  (S : Q0n N ps scope) (hd : A.handled = none) (e0 : Env0 P w K mg base A outer s H) (hl : vs.length = ps.length) (r : Vals vs us)
  (x : InCallC s s.heap.objs.size (bindL (envOfC qual scope s.heap.objs.size f cd).kindOf (ps.zip us) λ _ => none) (cellsFrom (s.heap.objs.size + 1) scope.names []) (bindC (envOfC qual scope s.heap.objs.size f cd).kindOf (ps.zip us) λ _ => none) s1) :
  Inv (cxOf CX P w K mg base N qual scope f cd A outer s H E) [] (start N vs) H s1 := by
 have hpl : ps.length <= N.length := by have := congrArg List.length S.pre; rw [List.length_take] at this; omega
 obtain ⟨h1,tk,rfl,hk⟩ := x.done
 have noA : ∀ b : Addr,b ∉ (cxOf CX P w K mg base N qual scope f cd A outer s H E).ex := λ b z => absurd (show b ∈ ([] : List Addr) from z) (by simp)
 refine ⟨⟨e0.mod,S.kind,rfl,rfl,Nat.le_refl _,λ y z c h1 h2 => ?_,λ y hy => ?_,λ y c _ h => ?_,λ _ => hd,Around.frames_deeper e0.frames,.inr ⟨rfl,rfl⟩,λ b z => absurd z (noA b),e0.bs,e0.bsz,λ b _ _ => noA b,λ b z => absurd z (noA b),e0.funs,e0.frf⟩,
  rfl,e0.bare,Un.kept hk,⟨_,x.toInCall.ns,λ i y v h1 h2 h3 => ?_⟩,λ y c h => ⟨_,x.cell y c h⟩,e0.hok.fresh (Nat.le_refl _),λ y c h => ?_,λ p hp => absurd (show p ∈ ([] : List (Addr × Obj)) from hp) (by simp),e0.hok.kept hk,?_⟩
 ·exact name_of_addr x.apart (PySem.mem_of_lookup h1) (PySem.mem_of_lookup h2)
 ·have hy : scope.names.lookup y = some .cell \/ scope.names.lookup y = some .free := hy
  rcases hy with hy | hy
  ·exact cell_has hy
  ·exact absurd rfl (S.nofree _ (PySem.mem_of_lookup hy))
 ·exact Nat.le_of_lt (x.above y c (PySem.mem_of_lookup h))
 ·have hi : i < vs.length := by
   unfold start at h2
   by_cases hi : i < vs.length
   ·exact hi
   ·rw [List.getElem?_append_right (by simpa using hi)] at h2
    rw [List.getElem?_replicate] at h2
    split at h2 <;> cases h2
  have ha : vs[i]? = some v := by
   unfold start at h2
   rw [List.getElem?_append_left (by simpa using hi),List.getElem?_map] at h2
   cases e : vs[i]? with
   | none => rw [e] at h2; cases h2
   | some a => rw [e] at h2; cases h2; rfl
  obtain ⟨u,hu,rv⟩ := r.get ha
  have hp : ps[i]? = some y := by
   rw [<- S.pre,List.getElem?_take_of_lt (by omega)]; exact h1
  have ndP : ps.Nodup := by rw [<- S.pre]; exact S.nd.sublist (List.take_sublist _ _)
  refine ⟨u,rv,?_⟩
  rcases S.par y (List.mem_of_getElem? hp) with k | k
  ·exact .inl ⟨k,bindL_get ndP hp hu k⟩
  ·obtain ⟨c,e⟩ := cell_has (n := s.heap.objs.size + 1) k
   refine .inr ⟨.inl k,c,e,?_⟩
   have q := x.cell y c e
   rw [bindC_get ndP hp hu (by show scope.names.lookup y ≠ _; rw [k]; decide)] at q
   exact q
 ·exact e0.hok.fresh (Nat.le_of_lt (x.above y c (PySem.mem_of_lookup h)))
 ·unfold start
  show _ = N.length
  rw [List.length_append,List.length_map,List.length_replicate]
  omega
theorem fn_of {CX : CXT} {P : Program} {w : World} {K : PySem.W.Frag} {mg : Str -> Option Value} {base : Heap} {k : Nat} {f : Addr} {name qual : Str} {params : Arguments} {body : List Stmt} {scope : Scope} {dV kV doc pm cdv ct oc : Value} {an od : Option Addr}
  {osl : Array (Option Value)} {N ps : List Str} {sp : Sp} (lk : K.lookup f = some ⟨oc,od,.func (PySem.W.fnOf name qual params body scope dV kV doc pm an cdv ct),osl⟩) (hcd : PySem.W.codeIn K cdv qual = true) (S : Q0n N ps scope)
  (len : ∀ vs H Q E,sp vs H Q E -> vs.length = ps.length)
  (hbody : ∀ (A : Around) (outer : List Env) (s : Shared) (H : Hp) (vs : List V) (Q : VK) (E : XK),Room k (A.deeper (envOfC qual scope s.heap.objs.size f cdv)) -> sp vs H Q E ->
   ∃ t,PSs (cxOf CX P w K mg base N qual scope f cdv A outer s H E) body t /\ t { nx := λ _ H' => Q .non H',rt := Q } (start N vs) H) :
  FnOk P w K mg base CX (k + 1) f (PySem.W.fnOf name qual params body scope dV kV doc pm an cdv ct) ps sp := by
 refine ⟨len,λ A outer s H args us vs Q E hr e0 hb r hsp => ?_⟩
 have hl := len _ _ _ _ hsp
 have KX : K.In s.heap := e0.mod.kin.keeps λ b o e => (e0.bs b o e).1
 have lim : s.heap.NoLimit := e0.mod.nolimit.keeps λ b o e => (e0.bs b o e).1
 have hkind : ∀ y ∈ ps.zip us,scope.names.lookup y.1 = some .local \/ (scope.names.lookup y.1 = some .cell /\ ((cellsFrom (s.heap.objs.size + 1) scope.names []).lookup y.1).isSome = true) := λ ⟨n,v⟩ hy => by
  rcases S.par n (List.of_mem_zip hy).1 with q | q
  ·exact .inl q
  ·exact .inr ⟨q,PySem.W.cellsFrom_some _ _ _ (.inl q)⟩
 refine codeAny_call_function hr.depth (KX _ _ lk) rfl S.co S.gen rfl (PySem.W.codeRec_of KX hcd) (hb _ _ _ _ ?_)
 refine wpAny_newFunctionEnv_cells S.kind hkind λ env he s1 x => ?_
 subst he
 refine ⟨lim.keeps x.toInCall.keep,codeAny_func ?_⟩
 obtain ⟨t,ht,hq⟩ := hbody A outer s H vs Q E (hr.deeper _) hsp
 have I : Inv (cxOf CX P w K mg base N qual scope f cdv A outer s H E) [] (start N vs) H s1 := inv_start S hr.hd e0 hl r x
 refine wpAny_mono (ht [] s1 (start N vs) H _ I hq) (λ fl s' hs => ?_) λ e s' hs => hs
 have fin : ∀ {σ' : St} {H' : Hp} {v : V} {u : Value},Inv (cxOf CX P w K mg base N qual scope f cdv A outer s H E) [] σ' H' s' -> RelV v u -> Q v H' -> CE outer P w H s Q u s' :=
  λ {σ' H' v u} J rv q => ⟨v,H',J.os,J.bare,J.base,J.hok,rv,q⟩
 cases fl with
 | ret u =>
  obtain ⟨v,σ',H',J,rv,q⟩ := hs
  exact fin J rv q
 | next =>
  obtain ⟨σ',H',J,q⟩ := hs
  exact fin (v := V.non) (u := Value.none) J rfl q
 | brk =>
  obtain ⟨_,_,_,q⟩ := hs
  exact False.elim q
 | cont =>
  obtain ⟨_,_,_,q⟩ := hs
  exact False.elim q
end L2
namespace L2
open PySem PySem.Spec PyProof.Rows
section
variable {X : Cx} {x : Str} {p pos : Pos} {e : Expr} {es : List Expr} {t : TA} {id T : String} {r : List V -> Hp -> VK -> Prop}
def tCB (r : List V -> Hp -> VK -> Prop) (t : TA) : TE := λ σ H Q => t σ H λ vs H1 => r vs H1 Q
theorem pe_callB (hc : CallR X (.builtin id) r) (hg : Gl X x) (hm : X.mg x = none) (hv : bootBuiltins x = some (.builtin id)) (ha : PA X (e :: es) t) (hn : x ≠ "__name__" := by decide) (hdb : (x == ("__debug__" : Str)) = false := by decide)
  (he : starEach (e :: es) X.env = (false,eval e X.env) :: starEach es X.env := by rfl) (hpl : (backTo pos (starEach es X.env)).any (·.1) = false := by rfl) : PE X (.Call (.Name x p) (e :: es) [] pos) (tCB r t) := by
 intro pins s σ H Q I h
 refine wpAny_Call_Name_kw (Q4L I hg hm hv ?_ hn hdb)
 exact PyProof.Rows.callWith_builtin1 (thn (ha pos pins s σ H _ I h) λ us s1 ⟨vs,H1,I1,r1,q1⟩ => hc pins s1 σ H1 vs us Q I1 r1 q1) he hpl
theorem pe_callTy (hc : CallR X (.type T) r) (hg : Gl X x) (hm : X.mg x = none) (hv : bootBuiltins x = some (.type T)) (ha : PA X (e :: es) t) (hn : x ≠ "__name__" := by decide) (hdb : (x == ("__debug__" : Str)) = false := by decide)
  (he : starEach (e :: es) X.env = (false,eval e X.env) :: starEach es X.env := by rfl) (hpl : (backTo pos (starEach es X.env)).any (·.1) = false := by rfl) : PE X (.Call (.Name x p) (e :: es) [] pos) (tCB r t) := by
 intro pins s σ H Q I h
 refine wpAny_Call_Name_kw (Q4L I hg hm hv ?_ hn hdb)
 exact PyProof.Rows.callWith_type1 (thn (ha pos pins s σ H _ I h) λ us s1 ⟨vs,H1,I1,r1,q1⟩ => hc pins s1 σ H1 vs us Q I1 r1 q1) he hpl
end
end L2
namespace HT
open PySem PyProof.Rows
def lexLt : List Int -> List Int -> Bool
 | [],[] => false
 | [],_ :: _ => true
 | _ :: _,[] => false
 | x :: xs,y :: ys => if x = y then lexLt xs ys else decide (x < y)
section
open PySem.SeqAt
open PySem.AutoSeq1 (wpAny_loadPart')
open PySem.MeetsSeq PySem.MeetsSeq2 PySem.MeetsSeq3
end
section
variable {prog : Program} {w : World} {A : Around} {E : Value -> Shared -> Prop} {s : Shared}
end
end HT
namespace L2
open PySem PySem.Spec PyProof.Rows
abbrev TO := St -> Hp -> (Option Int -> Hp -> Prop) -> Prop
section
variable {X : Cx} {e : Expr} {te : TE} {lo hi : Option Expr} {tl th : TO} {pos p2 : Pos}
end
end L2
namespace L2
open PySem PySem.Spec PyProof.Rows
def ixN (n : Nat) (i : Int) : Option Nat := if 0 <= i then (if i < n then some i.toNat else none) else if -(n : Int) <= i then some (i + n).toNat else none
def atI {α : Type} (xs : List α) (i : Int) : Option α := (ixN xs.length i).bind λ j => xs[j]?
theorem ixN_seq {n : Nat} {i : Int} {j : Nat} (h : ixN n i = some j) : seqIndex? i n = some j /\ j < n /\ -(n : Int) <= i /\ i < n := by
 unfold ixN at h
 by_cases h0 : 0 <= i
 ·rw [if_pos h0] at h
  by_cases h1 : i < n
  ·rw [if_pos h1] at h
   have e : i.toNat = j := Option.some.inj h
   exact ⟨by rw [seqIndex_of h0 h1,e],by omega,by omega,h1⟩
  ·rw [if_neg h1] at h; cases h
 ·rw [if_neg h0] at h
  by_cases h1 : -(n : Int) <= i
  ·rw [if_pos h1] at h
   have e : (i + n).toNat = j := Option.some.inj h
   exact ⟨by rw [seqIndex_neg (by omega) h1,e],by omega,h1,by omega⟩
  ·rw [if_neg h1] at h; cases h
theorem atI_get {α : Type} {xs : List α} {i : Int} {v : α} (h : atI xs i = some v) : ∃ j,seqIndex? i xs.length = some j /\ xs[j]? = some v /\ j < xs.length /\ -(xs.length : Int) <= i /\ i < xs.length := by
 unfold atI at h
 cases e : ixN xs.length i with
 | none => rw [e] at h; cases h
 | some j =>
  rw [e] at h
  obtain ⟨h1,h2,h3,h4⟩ := ixN_seq e
  exact ⟨j,h1,h,h2,h3,h4⟩
theorem Q4G {α : Type} {xs : List α} {j : Nat} {v : α} (h : xs[j]? = some v) : atI xs (j : Int) = some v := by
 have hj : j < xs.length := (List.getElem?_eq_some_iff.mp h).1
 have e : ixN xs.length (j : Int) = some j := by
  unfold ixN
  rw [if_pos (by omega),if_pos (by omega)]; simp
 unfold atI; rw [e]; exact h
def PlainIx (b : Expr) : Prop := ∀ o i,subscripted b false o i = operate [o,i] (getItem o i)
def IxR (X : Cx) (r : R2) : Prop :=
 ∀ (value slice : Expr) (pins : List (Addr × Obj)) (s : Shared) (σ : St) (H : Hp) (x y : V) (v u : Value) (Q : VK),Inv X pins σ H s -> RelV x v -> RelV y u -> r x y H Q ->
  subscripted slice false v u = operate [v,u] (getItem v u) -> wpAny (model X.prog X.w) X.A (subscriptTail value slice v u) (EP X pins σ Q) X.xe s
def MtR (X : Cx) (id : String) (r : V -> List V -> Hp -> VK -> Prop) : Prop :=
 ∀ (pins : List (Addr × Obj)) (s : Shared) (σ : St) (H : Hp) (x : V) (xs : List V) (v : Value) (us : List Value) (Q : VK),Inv X pins σ H s -> RelV x v -> Vals xs us -> r x xs H Q ->
  wpAny (model X.prog X.w) X.A (call (.builtin id) (v :: us)) (EP X pins σ Q) X.xe s
section
variable {X : Cx} {a b : Expr} {ta tb : TE} {pos : Pos}
def rIxL (K : PySem.W.Frag) : R2 := λ x y H Q => ∃ p xs i v,x = .ref p /\ y = .int i /\ SqL K H p xs /\ atI xs i = some v /\ Q v H
def rIxT (K : PySem.W.Frag) : R2 := λ x y H Q => ∃ p xs i v,x = .ref p /\ y = .int i /\ SqT K H p xs /\ atI xs i = some v /\ Q v H
theorem ix_list : IxR X (rIxL X.K) := by
 intro value slice pins s σ H x y v u Q I rx ry h hs
 obtain ⟨p,xs,i,z,rfl,rfl,hq,he,q⟩ := h
 cases rx
 obtain ⟨t,rfl⟩ := ry
 obtain ⟨its,r,pl,hz⟩ := I.list hq
 obtain ⟨j,h1,h2,h3,h4,h5⟩ := atI_get he
 obtain ⟨w,ew,rw'⟩ := r.get h2
 have hl := r.length
 have hn := line63
 have fin : EP X pins σ Q w s := ⟨z,H,I,rw',q⟩
 by_cases h0 : 0 <= i
 ·have hj : i.toNat = j := by
   rw [seqIndex_of h0 h5] at h1
   exact Option.some.inj h1
  exact item_listR pl.isList h0 (by omega) (by rw [hj]; simpa using ew) fin hs
 ·have hj : (i + (its.toArray.size : Int)).toNat = j := by
   rw [seqIndex_neg (by omega) h4] at h1
   rw [List.size_toArray,<- hl]
   exact Option.some.inj h1
  exact subscriptTail_builtinR (x := w) pl.isList.typeIs slot_list_getitem.lookup
   (wpAny_getItem_list_neg (Q := λ r s' => r = w /\ EP X pins σ Q r s') pl.isList (by omega) (by rw [List.size_toArray] <;> omega) (by omega) (by rw [hj]; simpa using ew) ⟨rfl,fin⟩) hs
theorem ix_tup : IxR X (rIxT X.K) := by
 intro value slice pins s σ H x y v u Q I rx ry h hs
 obtain ⟨p,xs,i,z,rfl,rfl,hq,he,q⟩ := h
 cases rx
 obtain ⟨t,rfl⟩ := ry
 obtain ⟨its,r,pl,hz⟩ := I.tuple hq
 obtain ⟨j,h1,h2,h3,h4,h5⟩ := atI_get he
 obtain ⟨w,ew,rw'⟩ := r.get h2
 have hl := r.length
 have hn := line63
 have fin : EP X pins σ Q w s := ⟨z,H,I,rw',q⟩
 exact subscriptTail_builtinR (x := w) pl.typeIs slot_tuple_getitem.lookup
  (getItem_tuple (j := j) (Q := λ r s' => r = w /\ EP X pins σ Q r s') pl (by omega) (by omega) (by rw [List.size_toArray,<- hl]; exact h1) (by simpa using ew) ⟨rfl,fin⟩) hs
theorem call_len_seq : CallR X (.builtin "len") (λ xs H Q => ∃ p ys,xs = [.ref p] /\ (SqL X.K H p ys \/ SqT X.K H p ys) /\ Q (.int ys.length) H) := by
 intro pins s σ H xs us Q I r h
 obtain ⟨p,ys,rfl,hq,q⟩ := h
 obtain ⟨u,rfl,rx⟩ := vals1 r
 cases rx
 have hn := line63
 rcases hq with hq | hq
 ·obtain ⟨its,r',pl,hz⟩ := I.list hq
  have hlen := r'.length
  exact Calls.call_len_list pl.isList (by simp only [List.size_toArray] <;> omega) ⟨.int ys.length,H,I.tok _,⟨s.toks + 1,by rw [List.size_toArray,hlen]⟩,q⟩
 ·obtain ⟨its,r',pl,hz⟩ := I.tuple hq
  have hlen := r'.length
  exact len_tuple pl (by simp only [List.size_toArray] <;> omega) ⟨.int ys.length,H,I.tok _,⟨s.toks + 1,by rw [List.size_toArray,hlen]⟩,q⟩
theorem call_list_of : CallR X (.type "list") (λ xs H Q => ∃ p ys,xs = [.ref p] /\ (SqL X.K H p ys \/ SqT X.K H p ys) /\ ∀ l,H l = none -> Q (.ref l) (upd H l (.lst ys))) := by
 intro pins s σ H xs us Q I r h
 obtain ⟨p,ys,rfl,hq,q⟩ := h
 obtain ⟨u,rfl,rx⟩ := vals1 r
 cases rx
 have fin : ∀ (its : List Value),Vals ys its -> ys.length <= sizeLine -> ∀ (h' : Heap) (c' : Nat),(∀ b o',s.heap.get? b = some o' -> h'.get? b = some o') ->
   h'.get? s.heap.objs.size = some { cls := .type "list",dict := none,data := .seq its.toArray c',slots := #[] } -> EP X pins σ Q (.ref s.heap.objs.size) { s with heap := h' } := λ its r' hz h' c' kp e =>
  ⟨.ref s.heap.objs.size,_,I.laid (t' := s.toks) kp (Nat.le_refl _) (show Q2A X.prog X.w _ h' _ (.lst ys) from ⟨hz,its,c',r',e⟩),rfl,q _ (I.hok.fresh (Nat.le_refl _))⟩
 rcases hq with hq | hq
 ·obtain ⟨its,r',pl,hz⟩ := I.list hq
  have hlen := r'.length
  obtain ⟨o,ho,hc,n,hd⟩ := pl.isList
  exact call_list_seq p (.inl rfl) ho hc hd (λ h' c' kp e => fin its r' hz h' c' kp e) (by simp only [List.size_toArray] <;> omega)
 ·obtain ⟨its,r',pl,hz⟩ := I.tuple hq
  have hlen := r'.length
  obtain ⟨o,ho,hc,n,hd⟩ := pl
  exact call_list_seq p (.inr rfl) ho hc hd (λ h' c' kp e => fin its r' hz h' c' kp e) (by simp only [List.size_toArray] <;> omega)
theorem call_tuple_of : CallR X (.type "tuple") (λ xs H Q => ∃ p ys,xs = [.ref p] /\ ((SqL X.K H p ys /\ ∀ l,H l = none -> Q (.ref l) (upd H l (.tup ys))) \/ (SqT X.K H p ys /\ Q (.ref p) H))) := by
 intro pins s σ H xs us Q I r h
 obtain ⟨p,ys,rfl,h⟩ := h
 obtain ⟨u,rfl,rx⟩ := vals1 r
 cases rx
 rcases h with ⟨hq,q⟩ | ⟨hq,q⟩
 ·obtain ⟨its,r',pl,hz⟩ := I.list hq
  have hlen := r'.length
  refine call_tuple_list pl.isList (λ h' kp => ?_) (by simp only [List.size_toArray] <;> omega)
  have I1 : Inv X pins σ H { s with heap := h' } := I.kept (t' := s.toks) kp
  have I2 : Inv X pins σ (upd H h'.objs.size (.tup ys)) { s with heap := h'.push { cls := .type "tuple",data := .seq its.toArray } } :=
   I1.laid (t' := s.toks) (λ b o e => Heap.get?_push_of_some _ e) (Nat.le_refl _) (show Q2A X.prog X.w _ _ _ (.tup ys) from ⟨hz,its,r',TupN.new _ _⟩)
  exact ⟨.ref h'.objs.size,_,I2,rfl,q _ (I1.hok.fresh (Nat.le_refl _))⟩
 ·obtain ⟨its,r',pl,hz⟩ := I.tuple hq
  exact call_tuple_same pl ⟨.ref p,H,I,rfl,q⟩
def tyV (K : PySem.W.Frag) (T : String) (x : V) (H : Hp) : Prop := match x with
 | .str _ => T = "str"
 | .int _ => T = "int"
 | .ref p => (T = "list" /\ ∃ xs,SqL K H p xs) \/ (T = "tuple" /\ ∃ xs,SqT K H p xs) \/
   (T = "dict" /\ ((∃ kvs,H p = some (.dK kvs)) \/ ∃ kvs,H p = some (.dT kvs))) \/ (T = "set" /\ ∃ S n,H p = some (.set S n))
 | _ => False
theorem tyV_is {pins : List (Addr × Obj)} {σ : St} {H : Hp} {s : Shared} {T : String} {x : V} {v : Value} (I : Inv X pins σ H s) (r : RelV x v) (ty : tyV X.K T x H) :
  s.TypeIs v T /\ ∀ a,v = .ref a -> ∃ ob,s.heap.get? a = some ob /\ ob.dict = none := by
 cases x with
 | str z =>
  obtain ⟨t,rfl⟩ := r
  cases (show T = "str" from ty)
  exact ⟨typeIs_str s z t,λ _ e => nomatch e⟩
 | int i =>
  obtain ⟨t,rfl⟩ := r
  cases (show T = "int" from ty)
  exact ⟨typeIs_int s i t,λ _ e => nomatch e⟩
 | ref p =>
  cases r
  rcases ty with ⟨rfl,xs,hq⟩ | ⟨rfl,xs,hq⟩ | ⟨rfl,hk⟩ | ⟨rfl,S,n,hk⟩
  ·obtain ⟨its,_,pl,_⟩ := I.list hq
   refine ⟨pl.isList.typeIs,λ a e => ?_⟩
   cases e
   obtain ⟨o,n,e,c,hd,_⟩ := pl
   exact ⟨o,e,hd⟩
  ·obtain ⟨its,_,⟨o,e1,hd,hc,_⟩,_⟩ := I.tupN hq
   refine ⟨⟨o,e1,hc⟩,λ a e => ?_⟩
   cases e
   exact ⟨o,e1,hd⟩
  ·have z : ∃ o,s.heap.get? p = some o /\ o.ExactDict := by
    rcases hk with ⟨kvs,hk⟩ | ⟨kvs,hk⟩
    ·obtain ⟨_,_,_,_,o,_,_,e,ex,_⟩ := I.hok p _ hk
     exact ⟨o,e,ex⟩
    ·obtain ⟨_,_,_,_,o,_,_,e,ex,_⟩ := I.hok p _ hk
     exact ⟨o,e,ex⟩
   obtain ⟨o,e,ex⟩ := z
   refine ⟨⟨o,e,ex.1⟩,λ a e2 => ?_⟩
   cases e2
   exact ⟨o,e,ex.2.1⟩
  ·obtain ⟨o,_,_,_,e,ex,_⟩ := I.hok p _ hk
   refine ⟨⟨o,e,ex.1⟩,λ a e2 => ?_⟩
   cases e2
   exact ⟨o,e,ex.2.1⟩
 | _ => exact False.elim ty
def tBM (K : PySem.W.Frag) (T : String) (r : V -> List V -> Hp -> VK -> Prop) (to : TE) (t : TA) : TE := λ σ H Q => to σ H λ x H1 => tyV K T x H1 /\ t σ H1 λ xs H2 => r x xs H2 Q
variable {o e : Expr} {es : List Expr} {to : TE} {t : TA} {name : Str} {apos cpos : Pos} {T id : String} {r : V -> List V -> Hp -> VK -> Prop}
theorem pe_bm (pa : PlainAttrs T) (slot : Slot T name id) (hty : typeOf (.builtin id) = pure (.type "method_descriptor")) (hm : MtR X id r) (ho : PE X o to) (ha : PA X (e :: es) t)
  (hbase : attributeBase o name X.env (eval o X.env) = eval o X.env := by rfl)
  (hfew : ((backTo cpos (starEach (e :: es) X.env)).all (λ x => !x.1) && (backToKw cpos (keywordEach [] X.env)).all (λ x => x.1.isSome)
   && decide ((e :: es).length + ([] : List Keyword).length + (if ([] : List Keyword).isEmpty then 0 else 1) < 30)) = true := by rfl)
  (hline : (apos.endLine == cpos.line) = true := by rfl) (hs : starEach (e :: es) X.env = (false,eval e X.env) :: starEach es X.env := by rfl) (hplain : (backTo cpos (starEach es X.env)).any (·.1) = false := by rfl) :
  PE X (.Call (.Attribute o name apos) (e :: es) [] cpos) (tBM X.K T r to t) := by
 intro pins s σ H Q I h
 refine wpAny_Call_method_late hbase hfew hline rfl (thn (ho pins s σ H _ I h) λ v s1 ⟨x,H1,I1,r1,ty,q1⟩ => ?_)
 obtain ⟨h1,h2⟩ := tyV_is I1 r1 ty
 refine ⟨T,id,pa,slot,hty,h1,h2,?_⟩
 have hA := ha cpos pins s1 σ H1 _ I1 q1
 rw [hs] at hA ⊢
 refine Calls.callWith_builtin (by show (false || (backTo cpos (starEach es X.env)).any (·.1)) = false; rw [hplain] <;> rfl) (Calls.evalArgs_plain ?_)
 exact thn hA λ us s2 ⟨vs,H2,I2,r2,q2⟩ => hm pins s2 σ H2 x vs v us Q I2 r1 r2 q2
end
end L2
namespace L2
open PySem PySem.Spec PyProof.Rows
def MtM (X : Cx) (id : String) (r : V -> List V -> Hp -> VK -> Prop) : Prop :=
 ∀ (pins : List (Addr × Obj)) (s : Shared) (σ : St) (H : Hp) (x : V) (xs : List V) (v : Value) (us : List Value) (Q : VK),Inv X pins σ H s -> RelV x v -> Vals xs us -> r x xs H Q ->
  wpAny (model X.prog X.w) X.A (call (.builtin id) (v :: us)) (EP X pins σ Q) X.xe s
theorem Vals.one : ∀ {x : V} {us : List Value},Vals [x] us -> ∃ u,us = [u] /\ RelV x u
 | _,_,.cons r .nil => ⟨_,rfl,r⟩
theorem Vals.rep {xs : List V} {us : List Value} (h : Vals xs us) : ∀ k : Nat,Vals (List.replicate k xs).flatten (List.replicate k us).flatten
 | 0 => .nil
 | k + 1 => by
  rw [List.replicate_succ,List.replicate_succ,List.flatten_cons,List.flatten_cons]
  exact Vals.append h (Vals.rep h k)
theorem foldl_rep (its : List Value) : ∀ (k : Nat) (acc : List Value),
  List.foldl (λ x1 x2 => x1 ++ x2) acc.toArray (List.replicate k its.toArray) = (acc ++ (List.replicate k its).flatten).toArray
 | 0,acc => by simp
 | k + 1,acc => by
  have e : acc.toArray ++ its.toArray = (acc ++ its).toArray := by simp
  have e2 : (acc ++ its) ++ (List.replicate k its).flatten = acc ++ (List.replicate (k + 1) its).flatten := by
   rw [List.replicate_succ,List.flatten_cons,List.append_assoc]
  rw [<- e2,<- foldl_rep its k (acc ++ its),<- e,List.replicate_succ,List.foldl_cons]
section
variable {X : Cx} {pins : List (Addr × Obj)} {σ : St} {H : Hp} {s : Shared} {l b : Addr} {xs ys zs : List V}
theorem Inv.lset {its its' : List Value} {n : Nat} {f : Array Value -> Array Value} {t' : Nat} (I : Inv X pins σ H s) (hH : H l = some (.lst xs))
  (e : s.heap.get? l = some { cls := .type "list",data := .seq its.toArray n }) (hf : f its.toArray = its'.toArray) (hv : Vals ys its') (hz : ys.length <= sizeLine) :
  Inv X pins σ (upd H l (.lst ys)) { s with heap := s.heap.update l (Obj.mapSeq f),toks := t' } := by
 have q := PySem.IsL.update e f
 rw [hf] at q
 refine I.write (x := l) (e := l) (by rw [hH]; exact trivial) (.inl rfl) (λ b' u hb hu => (Heap.get?_update_other s.heap (Obj.mapSeq f) (Ne.symm hb)).trans hu) ⟨_,q⟩ ?_
 exact ⟨hz,its',_,hv,q⟩
theorem Inv.lstM (I : Inv X pins σ H s) (hH : H l = some (.lst xs)) : xs.length <= sizeLine /\ ∃ (its : List Value) (n : Nat),Vals xs its /\ xs.length = its.length /\ s.heap.get? l = some { cls := .type "list",data := .seq its.toArray n } := by
 obtain ⟨z,its,n,r,e⟩ := I.hok l _ hH
 exact ⟨z,its,n,r,r.length,e⟩
end
section
variable {X : Cx}
def rAppend : V -> List V -> Hp -> VK -> Prop := λ x vs H Q => ∃ l xs y,x = .ref l /\ vs = [y] /\ H l = some (.lst xs) /\ xs.length < sizeLine /\ Q .non (upd H l (.lst (xs ++ [y])))
theorem mt_append : MtM X "list.append" rAppend := by
 intro pins s σ H x vs v us Q I rx rv h
 obtain ⟨l,xs,y,rfl,rfl,hH,hz,q⟩ := h
 cases rx
 obtain ⟨u,rfl,ru⟩ := rv.one
 obtain ⟨z,its,n,r,hl,e⟩ := I.lstM hH
 refine call_meets F.slot_list_append ⟨_,e,rfl⟩ F.entry_list_append (F.args_list_append_2 _ _) (PySem.list_append l its.toArray n u (by rw [List.size_toArray]; omega)) ⟨e,?_⟩
 refine ⟨.non,_,I.lset (its' := its ++ [u]) hH e (by simp) (r.append (.cons ru .nil)) ?_,rfl,q⟩
 rw [List.length_append,List.length_singleton]
 omega
theorem len_rep {α : Type} (xs : List α) (k : Nat) : (List.replicate k xs).flatten.length = k * xs.length := by
 induction k with
 | zero => simp
 | succ k ih => rw [List.replicate_succ,List.flatten_cons,List.length_append,ih,Nat.succ_mul,Nat.add_comm]
end
section
variable {prog : Program} {w : World} {A : Around} {E : Value -> Shared -> Prop} {s : Shared}
end
section
variable {X : Cx}
end
end L2
namespace Att
open PySem PySem.W PySem.Calls PyProof.Rows
theorem ints_of_wellAll {P : Params} {h : Heap} : ∀ (ns : List Int) (vs : List Value),WellAll P h vs (ns.map WData.int) -> IntsAre vs ns := by
 intro ns
 induction ns with
 | nil =>
  intro vs w
  rw [List.map_nil] at w
  cases w
  exact .nil
 | cons n ns ih =>
  intro vs w
  rw [List.map_cons] at w
  cases w with
  | cons a b =>
   cases a
   exact .cons _ _ (ih _ b)
theorem script_of {l : OpenLaw} {n : Nat} (hn : l.most = some n) {P : Params} {h : Heap} {args : List WData} {vals : List Value}
  (hpre : l.row.toRowW.claim.pre args = true) (hwl : WellAll P h vals args) :
  ∃ a vs ns,vals = [Value.ref a] /\ args = [WData.list (ns.map WData.int)] /\ h.get? a = some { cls := .type "list",data := .seq vs.toArray } /\ IntsAre vs ns /\ ns.length <= n := by
 have hsh : WShape.hasAll [] args [.list .int] = true := (pre_splitW hpre).1
 have hc : l.pre.holds [] { args := args } = true := (pre_splitW hpre).2
 obtain ⟨d,r,rfl,h1,h2⟩ := hasAllW_cons hsh
 obtain rfl := hasAllW_nil h2
 obtain ⟨xs,rfl,h3⟩ := hasW_list h1
 obtain ⟨ns,rfl⟩ := items_int h3
 have hlen : ns.length <= n := by
  unfold OpenLaw.pre at hc
  have h4 : (WTm.not (.lt (.lit (.int (n : Int))) (.len (.arg 0)))).holds [] { args := [.list (ns.map .int)] } = true := by
   have h4 := (holds_andW hc).1
   rw [hn] at h4
   exact h4
  have h5 := condW_of h4 (w_not (w_lt w_lit (w_len_list (w_arg rfl))))
  rw [List.length_map] at h5
  refine Nat.le_of_not_lt λ q => ?_
  have q' : (n : Int) < ((ns.length : Nat) : Int) := by omega
  first
   | (rw [decide_eq_true q'] at h5; exact absurd h5 (by decide))
   | (simp at h5; omega)
 cases hwl with
 | cons w1 w2 =>
  cases w2
  cases w1 with
  | list ho hall => exact ⟨_,_,ns,rfl,rfl,ho,ints_of_wellAll ns _ hall,hlen⟩
theorem post_true (l : OpenLaw) (args : List WData) : l.row.toRowW.claim.post args (.bool true) args = true :=
 postW_of (r := l.row.toRowW) (X := (true == true))
  (show WShape.has [] (.bool true) .bool = true by first | rfl | decide | simp [WShape.has,WShape.arms,WShape.armsAll])
  (show (WTm.eq .res (.lit (.bool true))).value [] { args := args,res := some (.bool true),after := args } = some (.bool (true == true)) from w_eq_bool (w_res rfl) w_lit) rfl
theorem attach_call {l : OpenLaw} {n : Nat} {q : Program} {loose : List Str} {XP : (Str -> Option Value) -> Heap -> Prop} {YP : World -> Heap -> Prop} {d : DefRec}
  (hn : l.most = some n) (hdf : d.params.defaults = [])
  (call : ∀ (w : World) (s₀ s₁ : Shared) (mg mb : Str -> Option Value) (fa : Addr) (o : Obj) (pm cd doc : Value) (a : Addr) (vs : List Value) (ns : List Int),
   Ground q loose [] XP w s₀ mg mb s₁.heap -> YP w s₁.heap ->
   s₁.heap.get? fa = some o -> o.data = .func (docDef d.name d.params d.body d.scope pm cd doc) -> s₁.heap.CodeRec cd d.name -> mg d.name = some (.ref fa) ->
   s₁.heap.get? a = some { cls := .type "list",data := .seq vs.toArray } -> IntsAre vs ns -> ns.length <= n -> s₁.gens = #[] ->
   codeAny (model l.prog w) callerA (.call (.ref fa) ⟨[.ref a],[]⟩) (λ r s' => r = .ok (.ret (.bool true)) /\ OldK s₁.heap s'.heap /\ s'.os = s₁.os /\ AllBare s'.gens) s₁) :
  WalkO q loose XP YP l.row.toRowW d [] (λ f vs => PySem.call f vs) := by
 intro w s₀ s₁ mg mb G Y fa o pm cd doc dV kV ho hd hcd hD hmg hg args vals as hpre hlay hrd hwl hlo
 obtain rfl : dV = .none := Dflts.none hD hdf
 obtain rfl : kV = .none := Dflts.noKw hD
 obtain ⟨a,vs,ns,rfl,rfl,hobj,hints,hlen⟩ := script_of hn hpre hwl
 refine enter_call (codeAny_mono (call w s₀ s₁ mg mb fa o pm cd doc a vs ns G Y ho (fd_plain hd) hcd hmg hobj hints hlen hg) λ r s' hq => ?_)
 obtain ⟨rfl,h2,h3,h4⟩ := hq
 exact ⟨.inl ⟨.bool true,.bool true,[],rfl,λ _ => rfl,.bool true,post_true l _,λ _ => ⟨List.Pairwise.nil,λ _ hm => (nomatch hm)⟩⟩,h2,h3,h4⟩
section
variable {prog : Program} {w : World} {A : Around} {E : Value -> Shared -> Prop} {s : Shared} {K : Frag}
end
end Att
namespace L2
open PySem PySem.Spec PyProof.Rows
theorem vals_ints : ∀ {vs : List Value} {ns : List Int},IntsAre vs ns -> Vals (ns.map V.int) vs
 | _,_,.nil => .nil
 | _,_,.cons n t h => .cons ⟨t,rfl⟩ (vals_ints h)
def Only (H : Hp) : Prop := ∀ b,H b = none \/ ∃ o xs,H b = some (.frz o (.lst xs))
theorem law_call {P : Program} {w : World} {K : PySem.W.Frag} {mg mb : Str -> Option Value} {CX : CXT} {k : Nat} {fa a : Addr} {fd : FuncData} {x : Str} {sp : Sp} {s₁ : Shared} {vs : List Value} {ns : List Int}
  (KX : K.In s₁.heap) (hns : s₁.heap.Ns mainGlobals mg) (hb : s₁.heap.Ns builtinsNs mb) (hbb : ∀ x : Str,x ≠ "__name__" -> mb x = bootBuiltins x) (hlim : s₁.heap.NoLimit) (hg : s₁.gens = #[])
  (ha : s₁.heap.get? a = some { cls := .type "list",data := .seq vs.toArray }) (hi : IntsAre vs ns) (hl : ns.length <= sizeLine) (hr : Room k callerA)
  (F : ∀ base : Heap,K.In base -> base.Ns mainGlobals mg -> FnOk P w K mg base CX k fa fd [x] sp) (hbind : ∀ (s : Shared) (u : Value),BindsTo s fd ⟨[u],[]⟩ [(x,u)])
  (hsp : ∀ H : Hp,Only H -> SqL K H a (ns.map V.int) -> sp [.ref a] H (λ v _ => v = .bl true) λ _ _ _ => False)
  (hCX : ∀ H e s',CX [] H s₁ (λ _ _ _ => False) e s' -> False) :
  codeAny (model P w) callerA (.call (.ref fa) ⟨[.ref a],[]⟩) (λ r s' => r = .ok (.ret (.bool true)) /\ OldK s₁.heap s'.heap /\ s'.os = s₁.os /\ AllBare s'.gens) s₁ := by
 have rv := vals_ints hi
 have lenV := hi.length
 -- from an abstract heap in which nothing but the script may be tracked
 have core : ∀ H : Hp,Only H -> SqL K H a (ns.map V.int) -> HOk P w H s₁.heap -> (∀ b,H b ≠ none -> b = a) -> (H a ≠ none -> K.lookup a = none) ->
   codeAny (model P w) callerA (.call (.ref fa) ⟨[.ref a],[]⟩) (λ r s' => r = .ok (.ret (.bool true)) /\ OldK s₁.heap s'.heap /\ s'.os = s₁.os /\ AllBare s'.gens) s₁ := by
  intro H hO hS hok hA hK
  have base_of : ∀ {b : Addr} {o : Obj},s₁.heap.get? b = some o -> H b = none -> (hidT s₁.heap H).get? b = some o := λ e n => hidT_get e n
  have noA : ∀ {b : Addr} {o : Obj} {es : Array DictEntry} {ep : Nat},s₁.heap.get? b = some o -> o.data = .dict es ep -> H b = none := λ {b o es ep} e d => by
   cases q : H b with
   | none => rfl
   | some u =>
    have e' : b = a := hA b (by rw [q]; simp)
    subst e'
    rw [ha] at e; cases e
    have d' : Data.seq vs.toArray _ = Data.dict es ep := d
    cases d'
  have nsK : ∀ {b : Addr} {m : Str -> Option Value},s₁.heap.Ns b m -> (hidT s₁.heap H).Ns b m := λ {b m} ⟨o,es,ep,e,d,r⟩ => ⟨o,es,ep,base_of e (noA e d),d,r⟩
  have hKb : K.In (hidT s₁.heap H) := λ b o e => base_of (KX b o e) (by
   cases q : H b with
   | none => rfl
   | some u =>
    have e' : b = a := hA b (by rw [q]; simp)
    subst e'
    rw [hK (by rw [q]; simp)] at e; cases e)
  have hM : Mod K mg (hidT s₁.heap H) := ⟨hKb,nsK hns,⟨mb,nsK hb,hbb⟩,let ⟨mc,h1,h2⟩ := hlim; ⟨mc,nsK h1,h2⟩⟩
  have e0 : Env0 P w K mg (hidT s₁.heap H) callerA [] s₁ H := ⟨rfl,hM,λ b o e => of_hidT e,Nat.le_of_eq (hidT_size _ _),trivial,λ b hb => absurd (show b ∈ ([] : List Addr) from hb) (by simp),hok,.of_eq hg⟩
  refine codeAny_mono ((F _ hKb (nsK hns)).run callerA [] s₁ H ⟨[.ref a],[]⟩ [.ref a] [.ref a] _ _ hr e0 (hbind s₁ (.ref a)) (.cons rfl .nil) (hsp H hO hS)) λ r s' h => ?_
  cases r with
  | error e => exact (hCX H e s' h).elim
  | ok fl =>
   cases fl with
   | next => exact False.elim h
   | brk => exact False.elim h
   | cont => exact False.elim h
   | ret u =>
    obtain ⟨v,H',os,bare,un,hok',r',q⟩ := h
    have q' : v = .bl true := q
    subst q'
    obtain rfl : u = Value.bool true := r'
    refine ⟨rfl,OldK.of_keep λ b o e => ?_,os,bare⟩
    cases q : H b with
    | none => exact un.keep b o e q (by intro z; exact absurd (show b ∈ ([] : List Addr) from z) (by simp)) (by simp)
    | some u =>
     rcases hO b with z | ⟨ob,xs,z⟩
     ·rw [q] at z; cases z
     ·have z2 := un.frzs b ob _ z
      obtain ⟨e1,_⟩ := hok b _ z
      obtain ⟨e2,_⟩ := hok' b _ z2
      rw [e] at e1; cases e1
      exact e2
 cases hk : K.lookup a with
 | some o =>
  -- the script is one of the module's own objects
  have e := KX a o hk
  rw [ha] at e
  cases e
  refine core (λ _ => none) (λ _ => .inl rfl) (.inr ⟨_,vs.toArray,_,hk,rfl,rfl,rfl,by rw [List.size_toArray,lenV]; exact hl,by simpa using rv⟩) (λ b u z => by have z' : (none : Option HO) = some u := z; cases z') (λ b z => absurd rfl z) λ z => absurd rfl z
 | none =>
  refine core (λ b => if b = a then some (.frz { cls := .type "list",data := .seq vs.toArray } (.lst (ns.map V.int))) else none) (λ b => ?_) (.inl (.inr ⟨{ cls := .type "list",data := .seq vs.toArray },if_pos rfl⟩)) (λ b u z => ?_) (λ b z => ?_) λ _ => hk
  ·by_cases hb : b = a
   ·exact .inr ⟨_,_,if_pos hb⟩
   ·exact .inl (if_neg hb)
  ·by_cases hb : b = a
   ·have z' := (if_pos hb).symm.trans z
    cases z'
    subst hb
    exact ⟨ha,by rw [List.length_map]; exact hl,vs,_,rv,ha⟩
   ·have z' := (if_neg hb).symm.trans z
    cases z'
  ·by_cases hb : b = a
   ·exact hb
   ·exact absurd (if_neg hb) z
end L2
namespace L2
open PySem PySem.Spec PyProof.Rows
theorem walk_of {l : PySem.W.OpenLaw} {n k : Nat} {q : Program} {loose : List Str} {XP : (Str -> Option Value) -> Heap -> Prop} {YP : World -> Heap -> Prop} {d : DefRec} {K : Params -> PySem.W.Frag} {CX : World -> CXT} {sp : World -> Sp} {x : Str}
  (hn : l.most = some n) (hn2 : n <= sizeLine) (hdf : d.params.defaults = []) (hr : Room k callerA)
  (hY : ∀ (w : World) (h : Heap),YP w h -> (K w.params).In h)
  (F : ∀ (w : World) (mg : Str -> Option Value) (fa : Addr) (h : Heap),(K w.params).In h -> h.Ns mainGlobals mg -> mg d.name = some (.ref fa) ->
   ∃ fd : FuncData,(∀ (s : Shared) (u : Value),BindsTo s fd ⟨[u],[]⟩ [(x,u)]) /\
    ∀ base : Heap,(K w.params).In base -> base.Ns mainGlobals mg -> FnOk l.prog w (K w.params) mg base (CX w) k fa fd [x] (sp w))
  (hsp : ∀ (w : World) (H : Hp) (a : Addr) (ns : List Int),ns.length <= n -> Only H -> SqL (K w.params) H a (ns.map V.int) -> sp w [.ref a] H (λ v _ => v = .bl true) λ _ _ _ => False)
  (hCX : ∀ (w : World) (H : Hp) (s : Shared) (e : Value) (s' : Shared),CX w [] H s (λ _ _ _ => False) e s' -> False) :
  PySem.W.WalkO q loose XP YP l.row.toRowW d [] (λ f vs => PySem.call f vs) := by
 refine Att.attach_call hn hdf λ w s₀ s₁ mg mb fa o pm cd doc a vs ns G Y ho hd hcd hmg hobj hints hlen hg => ?_
 have KX := hY w _ Y
 obtain ⟨fd,hb,hF⟩ := F w mg fa _ KX G.T.g hmg
 exact law_call KX G.T.g G.T.b G.T.builtins G.T.nolimit hg hobj hints (Nat.le_trans hlen hn2) hr hF hb (λ H hO hS => hsp w H a ns hlen hO hS) λ H e s' => hCX w H s₁ e s'
end L2
namespace L2
open PySem PySem.Spec PyProof.Rows
def Q0B (s : Stmt) (j : Nat) : Stmt := match s with
 | .ClassDef _ _ _ body _ _ _ _ _ _ _ => body.getD j (.Pass ⟨0,0,0,0⟩)
 | _ => .Pass ⟨0,0,0,0⟩
def Q0l (s : Stmt) : Arguments := match s with
 | .FunctionDef _ a _ _ _ _ _ _ _ _ => a
 | _ => { posonlyargs := [],args := [],vararg := none,kwonlyargs := [],kw_defaults := [],kwarg := none,defaults := [] }
def Q0k (s : Stmt) : List Stmt := match s with
 | .FunctionDef _ _ b _ _ _ _ _ _ _ => b
 | _ => []
def Q0d (s : Stmt) : Scope := match s with
 | .FunctionDef _ _ _ _ _ _ sc _ _ _ => sc
 | _ => { kind := .function,names := [],isGenerator := false,isCoroutine := false }
abbrev CX0 : CXT := λ _ _ _ _ _ _ => False
abbrev E0 : XK := λ _ _ _ => False
theorem pass0 {X : Cx} : Passes CX0 X E0 := λ _ _ _ _ _ _ _ h => h.elim
structure Fun (K : PySem.W.Frag) (x qual : Str) (st : Stmt) (f : Addr) (fd : FuncData) : Prop where
 ex : ∃ (oc : Value) (od : Option Addr) (kV doc pm : Value) (an : Option Addr) (cdv ct : Value) (osl : Array (Option Value)),
  fd = PySem.W.fnOf x qual (Q0l st) (Q0k st) (Q0d st) .none kV doc pm an cdv ct /\ K.lookup f = some ⟨oc,od,.func fd,osl⟩ /\ PySem.W.codeIn K cdv qual = true
 kp : PySem.W.keepIn K (.ref f) = true
section
variable {P : Program} {w : World} {K : PySem.W.Frag} {mg : Str -> Option Value} {base : Heap}
theorem Fun.ok {x qual : Str} {st : Stmt} {f : Addr} {fd : FuncData} {N ps : List Str} {k : Nat} {sp : Sp} (F : Fun K x qual st f fd) (S : Q0n N ps (Q0d st)) (len : ∀ vs H Q E,sp vs H Q E -> vs.length = ps.length)
  (hbody : ∀ (cdv : Value) (A : Around) (outer : List Env) (s : Shared) (H : Hp) (vs : List V) (Q : VK) (E : XK),Room k (A.deeper (envOfC qual (Q0d st) s.heap.objs.size f cdv)) -> sp vs H Q E ->
   ∃ t,PSs (cxOf CX0 P w K mg base N qual (Q0d st) f cdv A outer s H E).nox (Q0k st) t /\ t { nx := λ _ H' => Q .non H',rt := Q } (start N vs) H) : FnOk P w K mg base CX0 (k + 1) f fd ps sp := by
 obtain ⟨oc,od,kV,doc,pm,an,cdv,ct,osl,rfl,lk,hcd⟩ := F.ex
 refine fn_of lk hcd S len λ A outer s H vs Q E hr hsp => ?_
 obtain ⟨t,h,q⟩ := hbody cdv A outer s H vs Q E hr hsp
 exact ⟨t,h.nox,q⟩
theorem Fun.binds {x qual : Str} {st : Stmt} {f : Addr} {fd : FuncData} {ps : List Str} (F : Fun K x qual st f fd)
  (h : ∀ (kV doc pm : Value) (an : Option Addr) (cdv ct : Value) (us : List Value),us.length = ps.length -> bindArgs (PySem.W.fnOf x qual (Q0l st) (Q0k st) (Q0d st) .none kV doc pm an cdv ct) ⟨us,[]⟩ = pure (ps.zip us)) : Q0C K fd ps [] := by
 obtain ⟨oc,od,kV,doc,pm,an,cdv,ct,osl,rfl,lk,hcd⟩ := F.ex
 exact .all (h kV doc pm an cdv ct)
theorem Q0r {x qual : Str} {st : Stmt} {f : Addr} {oc : Value} {od an : Option Addr} {osl : Array (Option Value)} {kV doc pm cdv ct : Value} (l : K.lookup f = some ⟨oc,od,.func (PySem.W.fnOf x qual (Q0l st) (Q0k st) (Q0d st) .none kV doc pm an cdv ct),osl⟩)
  (c : PySem.W.codeIn K cdv qual = true) (k : PySem.W.keepIn K (.ref f) = true) : Fun K x qual st f (PySem.W.fnOf x qual (Q0l st) (Q0k st) (Q0d st) .none kV doc pm an cdv ct) := ⟨⟨oc,od,kV,doc,pm,an,cdv,ct,osl,rfl,l,c⟩,k⟩
end
theorem hu_of {A : Around} {k : Nat} (hr : Room k A) : A.units + 1 < cLine := Nat.lt_of_le_of_lt (Nat.add_le_add_left (by decide : 1 <= 64) _) hr.units
section
variable {X : Cx}
end
theorem iteF {A B : Prop} (h : B) : if false = true then A else B := by
 rw [if_neg Bool.false_ne_true]
 exact h
theorem iteT {A B : Prop} (h : A) : if true = true then A else B := by
 rw [if_pos rfl]
 exact h
def Same (H H' : Hp) : Prop := ∀ b o,H b = some o -> H' b = some o
theorem Same.refl (H : Hp) : Same H H := λ _ _ h => h
theorem Same.trans {H H1 H2 : Hp} (a : Same H H1) (b : Same H1 H2) : Same H H2 := λ c o h => b c o (a c o h)
theorem Same.free {H H' : Hp} (e : Same H H') {l : Addr} (h : H' l = Option.none) : H l = Option.none := by
 cases q : H l with
 | none => rfl
 | some o =>
  rw [e l o q] at h
  cases h
theorem Same.seq {K : PySem.W.Frag} {H H' : Hp} {a : Addr} {xs : List V} (e : Same H H') (h : SqL K H a xs) : SqL K H' a xs := by
 rcases h with (h | ⟨o,h⟩) | h
 ·exact .inl (.inl (e _ _ h))
 ·exact .inl (.inr ⟨o,e _ _ h⟩)
 ·exact .inr h
end L2
namespace L2
open PySem PySem.Spec PyProof.Rows
section
variable {κ : Type} [DecidableEq κ]
end
section
variable {P : Program} {w : World} {H : Hp} {h : Heap} {a : Addr}
end
section
variable {X : Cx} {pins : List (Addr × Obj)} {σ : St} {H : Hp} {s : Shared} {a : Addr} {y v : V} {u r : Value} {o : Option V} {A : Around} {E : Value -> Shared -> Prop}
end
section
variable {X : Cx} {pins : List (Addr × Obj)} {σ : St} {H : Hp} {s : Shared} {a : Addr} {kvs : List (Key × V)} {k : Key} {u : Value} {A : Around} {E : Value -> Shared -> Prop}
end
section
variable {X : Cx} {o i e value : Expr} {pos pos' tpos : Pos} {td ty tv : TE}
end
section
variable {X : Cx} {pos : Pos}
end
def tPairs : List (TE × TE) -> St -> Hp -> (List (V × V) -> Hp -> Prop) -> Prop
 | [],_,H,Q => Q [] H
 | (tk,tv) :: r,σ,H,Q => tk σ H λ x H1 => tv σ H1 λ y H2 => tPairs r σ H2 λ ps H3 => Q ((x,y) :: ps) H3
structure M1 (X : Cx) (o : Expr) (m : Str) (apos : Pos) (e : Expr) (cpos : Pos) : Prop where
 base : attributeBase o m X.env (eval o X.env) = eval o X.env
 few : ((backTo cpos (starEach [e] X.env)).all (λ x => !x.1) && (backToKw cpos (keywordEach [] X.env)).all (λ x => x.1.isSome)
  && decide (([e] : List Expr).length + ([] : List Keyword).length + (if ([] : List Keyword).isEmpty then 0 else 1) < 30)) = true
 line : (apos.endLine == cpos.line) = true
 trees : backTo cpos (starEach [e] X.env) = [(false,eval e X.env)]
structure M2 (X : Cx) (o : Expr) (m : Str) (apos : Pos) (e f : Expr) (cpos : Pos) : Prop where
 base : attributeBase o m X.env (eval o X.env) = eval o X.env
 few : ((backTo cpos (starEach [e,f] X.env)).all (λ x => !x.1) && (backToKw cpos (keywordEach [] X.env)).all (λ x => x.1.isSome)
  && decide (([e,f] : List Expr).length + ([] : List Keyword).length + (if ([] : List Keyword).isEmpty then 0 else 1) < 30)) = true
 line : (apos.endLine == cpos.line) = true
 trees : backTo cpos (starEach [e,f] X.env) = [(false,eval e X.env),(false,eval f X.env)]
section
variable {X : Cx} {pins : List (Addr × Obj)} {σ : St} {H : Hp} {s : Shared} {a : Addr} {y d : V} {u r : Value} {o : Option V} {A : Around} {E : Value -> Shared -> Prop}
end
section
variable {X : Cx} {o e f : Expr} {apos cpos : Pos} {td ty tx : TE}
end
section
variable {X : Cx} {pins : List (Addr × Obj)} {σ : St} {H : Hp} {s : Shared} {a : Addr} {kvs : List (Key × V)} {A : Around} {E : Value -> Shared -> Prop}
end
section
variable {X : Cx} {pins : List (Addr × Obj)} {σ : St} {H : Hp} {s : Shared} {a : Addr} {y : V} {u : Value} {A : Around} {E : Value -> Shared -> Prop}
end
section
variable {X : Cx}
end
section
variable {κ : Type} [DecidableEq κ]
end
end L2
namespace DL
open PySem PySem.Spec PyProof.Rows L2
inductive D where
 | non | bl (b : Bool) | int (i : Int) | str (x : Str) | tup (xs : List D) | lst (xs : List D) | scr (xs : List D) | ptr (n : Nat) | ty (n : String) | fn (a : Addr) | dct (ks : List Key) (xs : List D)
structure Wd where
 g : Hp
 l : List Addr
structure Ext (G G' : Wd) : Prop where
 g : Same G.g G'.g
 l : ∃ t,G'.l = G.l ++ t
theorem Ext.refl (G : Wd) : Ext G G := ⟨Same.refl _,[],(List.append_nil _).symm⟩
theorem Ext.trans {G G' G'' : Wd} (a : Ext G G') (b : Ext G' G'') : Ext G G'' := ⟨a.g.trans b.g,by
 obtain ⟨t,e⟩ := a.l; obtain ⟨u,e'⟩ := b.l; exact ⟨t ++ u,by rw [e',e,List.append_assoc]⟩⟩
theorem Ext.at {G G' : Wd} {n : Nat} {a : Addr} (e : Ext G G') (h : G.l[n]? = some a) : G'.l[n]? = some a := by
 obtain ⟨t,e⟩ := e.l
 rw [e,List.getElem?_append_left (List.getElem?_eq_some_iff.mp h).1,h]
mutual
inductive Is (K : PySem.W.Frag) (G : Wd) : D -> V -> Prop
 | non : Is K G .non .non
 | bl (b : Bool) : Is K G (.bl b) (.bl b)
 | int (i : Int) : Is K G (.int i) (.int i)
 | str (x : Str) : Is K G (.str x) (.str x)
 | tup {a : Addr} {ds : List D} {vs : List V} (h : SqT K G.g a vs) (r : Iss K G ds vs) : Is K G (.tup ds) (.ref a)
 | lst {a : Addr} {ds : List D} {vs : List V} (h : G.g a = some (.lst vs)) (r : Iss K G ds vs) : Is K G (.lst ds) (.ref a)
 | scr {a : Addr} {ds : List D} {vs : List V} (h : SqL K G.g a vs) (r : Iss K G ds vs) : Is K G (.scr ds) (.ref a)
 | ptr {a : Addr} (n : Nat) (h : G.l[n]? = some a) : Is K G (.ptr n) (.ref a)
 | ty (n : String) : Is K G (.ty n) (.ty n)
 | fn (a : Addr) : Is K G (.fn a) (.ref a)
 | dct {a : Addr} {ks : List Key} {ds : List D} {vs : List V} {ob : Obj} (h : G.g a = some (.frz ob (.dK (ks.zip vs)))) (hl : ks.length = vs.length) (r : Iss K G ds vs) : Is K G (.dct ks ds) (.ref a)
inductive Iss (K : PySem.W.Frag) (G : Wd) : List D -> List V -> Prop
 | nil : Iss K G [] []
 | cons {d : D} {v : V} {ds : List D} {vs : List V} (h : Is K G d v) (r : Iss K G ds vs) : Iss K G (d :: ds) (v :: vs)
end
theorem Q1D {K : PySem.W.Frag} {H H' : Hp} {a : Addr} {xs : List V} (e : Same H H') (h : SqT K H a xs) : SqT K H' a xs := by
 rcases h with (h | ⟨o,h⟩) | h
 ·exact .inl (.inl (e _ _ h))
 ·exact .inl (.inr ⟨o,e _ _ h⟩)
 ·exact .inr h
mutual
theorem Is.ext {K : PySem.W.Frag} {G G' : Wd} (e : Ext G G') : ∀ {d : D} {v : V},Is K G d v -> Is K G' d v
 | _,_,.non => .non
 | _,_,.bl b => .bl b
 | _,_,.int i => .int i
 | _,_,.str x => .str x
 | _,_,.tup h r => .tup (Q1D e.g h) (Iss.ext e r)
 | _,_,.lst h r => .lst (e.g _ _ h) (Iss.ext e r)
 | _,_,.scr h r => .scr (e.g.seq h) (Iss.ext e r)
 | _,_,.ptr n h => .ptr n (e.at h)
 | _,_,.ty n => .ty n
 | _,_,.fn n => .fn n
 | _,_,.dct h hl r => .dct (e.g _ _ h) hl (Iss.ext e r)
theorem Iss.ext {K : PySem.W.Frag} {G G' : Wd} (e : Ext G G') : ∀ {ds : List D} {vs : List V},Iss K G ds vs -> Iss K G' ds vs
 | _,_,.nil => .nil
 | _,_,.cons h r => .cons (Is.ext e h) (Iss.ext e r)
end
section
variable {K : PySem.W.Frag} {G G' : Wd}
theorem Iss.length : ∀ {ds : List D} {vs : List V},Iss K G ds vs -> ds.length = vs.length
 | _,_,.nil => rfl
 | _,_,.cons _ r => by rw [List.length_cons,List.length_cons,r.length]
theorem Iss.append : ∀ {ds es : List D} {vs us : List V},Iss K G ds vs -> Iss K G es us -> Iss K G (ds ++ es) (vs ++ us)
 | _,_,_,_,.nil,q => q
 | _,_,_,_,.cons h r,q => .cons h (Iss.append r q)
theorem Iss.get : ∀ {ds : List D} {vs : List V} {i : Nat} {d : D},Iss K G ds vs -> ds[i]? = some d -> ∃ v,vs[i]? = some v /\ Is K G d v
 | _,_,_,_,.nil,e => by simp at e
 | _,_,0,_,.cons h r,e => by simp at e; subst e; exact ⟨_,rfl,h⟩
 | _,_,i + 1,d,.cons h r,e => by
  obtain ⟨v,e1,h1⟩ := Iss.get (i := i) (d := d) r (by simpa using e)
  exact ⟨v,by simpa using e1,h1⟩
theorem Iss.getV : ∀ {ds : List D} {vs : List V} {i : Nat} {v : V},Iss K G ds vs -> vs[i]? = some v -> ∃ d,ds[i]? = some d /\ Is K G d v
 | _,_,_,_,.nil,e => by simp at e
 | _,_,0,_,.cons h r,e => by simp at e; subst e; exact ⟨_,rfl,h⟩
 | _,_,i + 1,d,.cons h r,e => by
  obtain ⟨v,e1,h1⟩ := Iss.getV (i := i) (v := d) r (by simpa using e)
  exact ⟨v,by simpa using e1,h1⟩
theorem Iss.ints : ∀ {ns : List Int},Iss K G (ns.map D.int) (ns.map V.int)
 | [] => .nil
 | n :: ns => .cons (.int n) (Iss.ints (ns := ns))
theorem Iss.toInts : ∀ {ns : List Int} {vs : List V},Iss K G (ns.map D.int) vs -> vs = ns.map V.int
 | [],_,.nil => rfl
 | n :: ns,_,.cons h r => by cases h; rw [Iss.toInts r]; rfl
end
def _root_.L2.ctxOf (o : Obj) : Option Value := match o.data with | .fields vs => vs[2]? | _ => none
inductive MO where
 | lst (xs : List D)
 | ins (C : Addr) (fs : List (Str × D))

 | exc (C : Addr) (fs : List (Str × D)) (h : Option Addr := none)

 | dct (ks : List Key) (xs : List D)

 | pin (ob : Obj) (vs : List V) (ks : List Key) (xs : List D)
abbrev Sto := List (Option MO)
inductive FsIs (K : PySem.W.Frag) (G : Wd) : List (Str × D) -> List (Str × V) -> Prop
 | nil : FsIs K G [] []
 | cons {f : Str} {d : D} {v : V} {fs : List (Str × D)} {vs : List (Str × V)} (h : Is K G d v) (r : FsIs K G fs vs) : FsIs K G ((f,d) :: fs) ((f,v) :: vs)
theorem FsIs.ext {K : PySem.W.Frag} {G G' : Wd} (e : Ext G G') : ∀ {fs : List (Str × D)} {vs : List (Str × V)},FsIs K G fs vs -> FsIs K G' fs vs
 | _,_,.nil => .nil
 | _,_,.cons h r => .cons (h.ext e) (FsIs.ext e r)
def MOk (K : PySem.W.Frag) (G : Wd) (H : Hp) (p : Addr) : MO -> Prop
 | .lst xs => ∃ vs,H p = some (.lst vs) /\ Iss K G xs vs
 | .ins C fs => ∃ dx vs,H p = some (.ins C dx vs) /\ FsIs K G fs vs
 | .exc C fs h => ∃ ob,H p = some (.ext λ h => h.get? p = some ob) /\ (ob.cls = .ref C /\ ∃ ws,ob.data = .fields ws) /\ (fs = [] \/ ∃ dx vs,ob.dict = some dx /\ G.g dx = some (.xd vs) /\ FsIs K G fs vs) /\ ∀ a,h = some a -> p = a /\ L2.ctxOf ob = some .none
 | .dct ks xs => ∃ vs,H p = some (.dK (ks.zip vs)) /\ ks.length = vs.length /\ Iss K G xs vs
 | .pin ob vs ks xs => H p = some (.frz ob (.dK (ks.zip vs))) /\ ks.length = vs.length /\ Iss K G xs vs
structure SA (K : PySem.W.Frag) (G : Wd) (H : Hp) (O : Sto) : Prop where
 sub : Same G.g H
 len : G.l.length = O.length
 nd : G.l.Nodup
 liv : ∀ a ∈ G.l,∃ o,H a = some o
 mt : ∀ (n : Nat) (m : MO),O[n]? = some (some m) -> ∃ a,G.l[n]? = some a /\ G.g a = none /\ MOk K G H a m
section
variable {K : PySem.W.Frag} {G G' : Wd} {H H' : Hp} {O : Sto}
theorem MOk.ext {p : Addr} {m : MO} (e : Ext G G') (q : H' p = H p) (h : MOk K G H p m) : MOk K G' H' p m := by
 cases m with
 | lst xs => obtain ⟨vs,h1,h2⟩ := h; exact ⟨vs,by rw [q]; exact h1,h2.ext e⟩
 | ins C fs => obtain ⟨dx,vs,h1,h2⟩ := h; exact ⟨dx,vs,by rw [q]; exact h1,h2.ext e⟩
 | exc C fs ha =>
  obtain ⟨ob,h1,h2,h3,h4⟩ := h
  refine ⟨ob,by rw [q]; exact h1,h2,h3.imp id ?_,h4⟩
  rintro ⟨dx,vs,a1,a2,a3⟩
  exact ⟨dx,vs,a1,e.g _ _ a2,a3.ext e⟩
 | dct ks xs => obtain ⟨vs,h1,hl,h2⟩ := h; exact ⟨vs,by rw [q]; exact h1,hl,h2.ext e⟩
 | pin ob vs ks xs => obtain ⟨h1,hl,h2⟩ := h; exact ⟨by rw [q]; exact h1,hl,h2.ext e⟩
theorem MOk.some {p : Addr} {m : MO} (h : MOk K G H p m) : ∃ o,H p = some o := by
 cases m with
 | lst xs => obtain ⟨vs,h1,h2⟩ := h; exact ⟨_,h1⟩
 | ins C fs => obtain ⟨dx,vs,h1,h2⟩ := h; exact ⟨_,h1⟩
 | exc C fs ha => obtain ⟨ob,h1,_⟩ := h; exact ⟨_,h1⟩
 | dct ks xs => obtain ⟨vs,h1,_⟩ := h; exact ⟨_,h1⟩
 | pin ob vs ks xs => exact ⟨_,h.1⟩
theorem SA.free {p : Addr} (s : SA K G H O) (h : H p = none) : G.g p = none := s.sub.free h
theorem SA.grow (s : SA K G H O) (e : Same H H') : SA K G H' O :=
 ⟨s.sub.trans e,s.len,s.nd,λ a ha => let ⟨o,h⟩ := s.liv a ha; ⟨o,e _ _ h⟩,λ n m h => by
  obtain ⟨a,h1,h2,h3⟩ := s.mt n m h
  obtain ⟨o,h4⟩ := h3.some
  exact ⟨a,h1,h2,h3.ext (Ext.refl _) (by rw [h4,e _ _ h4])⟩⟩
theorem Q4h {p : Addr} {o : HO} (h : H p = none) : Same H (upd H p o) := λ b u q => by
 rw [Q0x]; exact q
 rintro rfl; rw [h] at q; cases q
theorem SA.laid {p : Addr} {o : HO} (s : SA K G H O) (h : H p = none) : Ext G ⟨upd G.g p o,G.l⟩ /\ SA K ⟨upd G.g p o,G.l⟩ (upd H p o) O := by
 have e : Ext G ⟨upd G.g p o,G.l⟩ := ⟨Q4h (s.free h),[],(List.append_nil _).symm⟩
 refine ⟨e,⟨λ b u q => ?_,s.len,s.nd,λ a ha => let ⟨o,q⟩ := s.liv a ha; ⟨o,Q4h h _ _ q⟩,λ n m hq => ?_⟩⟩
 ·by_cases hb : b = p
  ·subst hb
   have q : upd G.g b o b = some u := q
   rw [Q0z] at q; rw [Q0z]; exact q
  ·have q : upd G.g p o b = some u := q
   rw [Q0x hb] at q ⊢; exact s.sub b u q
 ·obtain ⟨a,h1,h2,h3⟩ := s.mt n m hq
  have ne : a ≠ p := by
   rintro rfl; obtain ⟨o,h4⟩ := h3.some; rw [h] at h4; cases h4
  exact ⟨a,h1,by show upd G.g p o a = none; rw [Q0x ne]; exact h2,h3.ext e (Q0x ne)⟩
theorem SA.new {p : Addr} {o : HO} {m : MO} (s : SA K G H O) (h : H p = none) (r : MOk K ⟨G.g,G.l ++ [p]⟩ (upd H p o) p m) : Ext G ⟨G.g,G.l ++ [p]⟩ /\ SA K ⟨G.g,G.l ++ [p]⟩ (upd H p o) (O ++ [some m]) := by
 have e : Ext G ⟨G.g,G.l ++ [p]⟩ := ⟨Same.refl _,[p],rfl⟩
 have hp : p ∉ G.l := λ z => by obtain ⟨o,q⟩ := s.liv p z; rw [h] at q; cases q
 refine ⟨e,⟨s.sub.trans (Q4h h),?_,?_,?_,?_⟩⟩
 ·simp [s.len]
 ·exact List.nodup_append.mpr ⟨s.nd,List.nodup_cons.mpr ⟨List.not_mem_nil,List.nodup_nil⟩,λ a ha b hb => by
   rw [List.mem_singleton] at hb; subst hb; rintro rfl; exact hp ha⟩
 ·intro a ha
  rcases List.mem_append.mp ha with ha | ha
  ·obtain ⟨u,q⟩ := s.liv a ha; exact ⟨u,Q4h h _ _ q⟩
  ·rw [List.mem_singleton] at ha; subst ha; exact ⟨_,Q0z⟩
 ·intro n m' hq
  by_cases hn : n < O.length
  ·rw [List.getElem?_append_left hn] at hq
   obtain ⟨a,h1,h2,h3⟩ := s.mt n m' hq
   have ne : a ≠ p := by rintro rfl; exact hp (List.mem_of_getElem? h1)
   exact ⟨a,e.at h1,h2,h3.ext e (Q0x ne)⟩
  ·have e1 : n = O.length := by
    have := (List.getElem?_eq_some_iff.mp hq).1
    rw [List.length_append,List.length_singleton] at this
    omega
   subst e1
   rw [List.getElem?_append_right (Nat.le_refl _),Nat.sub_self] at hq
   cases hq
   exact ⟨p,by show (G.l ++ [p])[O.length]? = _; rw [<- s.len,List.getElem?_append_right (Nat.le_refl _),Nat.sub_self]; rfl,s.free h,r⟩
theorem SA.put {n : Nat} {p : Addr} {o : HO} {m m' : MO} (s : SA K G H O) (h : O[n]? = some (some m)) (hp : G.l[n]? = some p) (r : MOk K G (upd H p o) p m') : SA K G (upd H p o) (O.set n (some m')) := by
 obtain ⟨a,h1,h2,h3⟩ := s.mt n m h
 obtain rfl : p = a := Option.some.inj (hp.symm.trans h1)
 refine ⟨λ b u q => ?_,by simp [s.len],s.nd,λ b hb => ?_,λ k m2 hk => ?_⟩
 ·rw [Q0x]; exact s.sub b u q
  rintro rfl; rw [h2] at q; cases q
 ·by_cases hbp : b = p
  ·subst hbp; exact ⟨_,Q0z⟩
  ·obtain ⟨u,q⟩ := s.liv b hb; exact ⟨u,by rw [Q0x hbp]; exact q⟩
 ·by_cases hkn : n = k
  ·subst hkn
   rw [List.getElem?_set_self (List.getElem?_eq_some_iff.mp h).1] at hk
   cases hk
   exact ⟨p,hp,h2,r⟩
  ·rw [List.getElem?_set_ne hkn] at hk
   obtain ⟨b,g1,g2,g3⟩ := s.mt k m2 hk
   have ne : b ≠ p := by
    rintro rfl
    exact hkn ((List.getElem?_inj (List.getElem?_eq_some_iff.mp hp).1 s.nd).mp (hp.trans g1.symm))
   exact ⟨b,g1,g2,g3.ext (Ext.refl _) (Q0x ne)⟩
end
abbrev Rho := List (Option D)
structure EnvR (K : PySem.W.Frag) (G : Wd) (σ : L2.St) (ρ : Rho) : Prop where
 len : σ.length = ρ.length
 get : ∀ (i : Nat) (d : D),ρ[i]? = some (some d) -> ∃ v,σ[i]? = some (some v) /\ Is K G d v
theorem EnvR.ext {K : PySem.W.Frag} {G G' : Wd} {σ : L2.St} {ρ : Rho} (e : Ext G G') (h : EnvR K G σ ρ) : EnvR K G' σ ρ :=
 ⟨h.len,λ i d q => let ⟨v,h1,h2⟩ := h.get i d q; ⟨v,h1,h2.ext e⟩⟩
theorem EnvR.set {K : PySem.W.Frag} {G : Wd} {σ : L2.St} {ρ : Rho} {d : D} {v : V} (i : Nat) (h : EnvR K G σ ρ) (q : Is K G d v) : EnvR K G (σ.set i (some v)) (ρ.set i (some d)) := by
 refine ⟨by simp [h.len],λ j e hj => ?_⟩
 by_cases hij : i = j
 ·subst hij
  by_cases hl : i < ρ.length
  ·rw [List.getElem?_set_self hl] at hj
   cases hj
   exact ⟨v,List.getElem?_set_self (by rw [h.len]; exact hl),q⟩
  ·rw [List.getElem?_eq_none (by simp; omega)] at hj; cases hj
 ·rw [List.getElem?_set_ne hij] at hj ⊢
  exact h.get j e hj
def Ev (X : Cx) (ρ : Rho) (O : Sto) (e : Expr) (R : D -> Sto -> Prop) : Prop :=
 ∀ G,PE X e (λ σ H Q => SA X.K G H O /\ EnvR X.K G σ ρ /\ ∀ v d O' G' H',Ext G G' -> SA X.K G' H' O' -> Is X.K G' d v -> R d O' -> Q v H')
def EvP (X : Cx) (ρ : Rho) (O : Sto) (e : Expr) (d : D) : Prop :=
 ∀ G,PE X e (λ σ H Q => SA X.K G H O /\ EnvR X.K G σ ρ /\ ∀ v G' H',Ext G G' -> SA X.K G' H' O -> Is X.K G' d v -> Q v H')
def EvT (X : Cx) (ρ : Rho) (O : Sto) (e : Expr) (b : Bool) : Prop :=
 ∀ G,PT X e (λ σ H Q => SA X.K G H O /\ EnvR X.K G σ ρ /\ ∀ G' H',Ext G G' -> SA X.K G' H' O -> Q b H')
def EvW (X : Cx) (ρ : Rho) (O : Sto) (e : Expr) (b : Bool) : Prop :=
 ∀ G,PW X e (λ σ H Q => SA X.K G H O /\ EnvR X.K G σ ρ /\ ∀ G' H',Ext G G' -> SA X.K G' H' O -> Q b H')
def EvAs (X : Cx) (ρ : Rho) (O : Sto) (es : List Expr) (R : List D -> Sto -> Prop) : Prop :=
 ∀ G,PA X es (λ σ H Q => SA X.K G H O /\ EnvR X.K G σ ρ /\ ∀ vs ds O' G' H',Ext G G' -> SA X.K G' H' O' -> Iss X.K G' ds vs -> R ds O' -> Q vs H')
theorem _root_.L2.PE.imp {X : Cx} {e : Expr} {t u : TE} (h : PE X e t) (k : ∀ σ H Q,u σ H Q -> t σ H Q) : PE X e u := λ pins s σ H Q I q => h pins s σ H Q I (k _ _ _ q)
theorem _root_.L2.PT.imp {X : Cx} {e : Expr} {t u : TT} (h : PT X e t) (k : ∀ σ H Q,u σ H Q -> t σ H Q) : PT X e u := λ pins s σ H Q I q => h pins s σ H Q I (k _ _ _ q)
theorem _root_.L2.PA.imp {X : Cx} {es : List Expr} {t u : TA} (h : PA X es t) (k : ∀ σ H Q,u σ H Q -> t σ H Q) : PA X es u := λ pos pins s σ H Q I q => h pos pins s σ H Q I (k _ _ _ q)
theorem _root_.L2.PS.imp {X : Cx} {e : Stmt} {t u : TS} (h : PS X e t) (k : ∀ D σ H,u D σ H -> t D σ H) : PS X e u := λ pins s σ H D I q => h pins s σ H D I (k _ _ _ q)
theorem _root_.L2.PSs.imp {X : Cx} {e : List Stmt} {t u : TS} (h : PSs X e t) (k : ∀ D σ H,u D σ H -> t D σ H) : PSs X e u := λ pins s σ H D I q => h pins s σ H D I (k _ _ _ q)
section
variable {X : Cx} {ρ : Rho} {O : Sto} {e a b c : Expr} {d da db : D} {R : D -> Sto -> Prop} {pos : Pos}
theorem EvP.ev (h : EvP X ρ O e d) (r : R d O) : Ev X ρ O e R := λ G => (h G).imp λ σ H Q ⟨s,n,k⟩ => ⟨s,n,λ v G' H' e1 s' i => k v d O G' H' e1 s' i r⟩
theorem Ev.evp (h : Ev X ρ O e λ d' O' => d' = d /\ O' = O) : EvP X ρ O e d := λ G => (h G).imp λ σ H Q ⟨s,n,k⟩ => ⟨s,n,λ v d' O' G' H' e1 s' i r => by obtain ⟨rfl,rfl⟩ := r; exact k v G' H' e1 s' i⟩
theorem EvP.cast {d' : D} (h : EvP X ρ O e d) (q : d = d') : EvP X ρ O e d' := q ▸ h
theorem EvW.t (h : EvW X ρ O e b') : EvT X ρ O e b' := λ G => (h G).pt
theorem EvT.cast {k k' : Bool} (h : EvT X ρ O e k) (q : k = k') : EvT X ρ O e k' := q ▸ h
theorem Q0a (i : Nat) {x : Str} {p : Pos} (hr : ρ[i]? = some (some d) := by rfl) (hN : X.N[i]? = some x := by rfl) (hv : Vis X.env.scope x := by first | exact Or.inl rfl | exact Or.inr (Or.inl rfl) | exact Or.inr (Or.inr rfl))
  (hd : (x == ("__debug__" : Str)) = false := by decide) (hcd : (x == ("__classdict__" : Str)) = false := by decide) : EvP X ρ O (.Name x p) d := λ G =>
 PE.imp (pe_var hN hv hd hcd) λ σ H Q ⟨s,n,k⟩ => by
  obtain ⟨v,e1,i1⟩ := n.get i d hr
  exact ⟨v,e1,k v G H (Ext.refl _) s i1⟩
theorem Q0f {i : Int} {j : Nat} : EvP X ρ O (.Constant (.int i) j pos) (.int i) := λ G => PE.imp pe_int λ σ H Q ⟨s,n,k⟩ => k _ G H (Ext.refl _) s (.int i)
theorem ev_bl {i : Bool} {j : Nat} : EvP X ρ O (.Constant (.bool i) j pos) (.bl i) := λ G => PE.imp pe_bl λ σ H Q ⟨s,n,k⟩ => k _ G H (Ext.refl _) s (.bl i)
theorem Q2Z {j : Nat} : EvP X ρ O (.Constant .none j pos) .non := λ G => PE.imp pe_non λ σ H Q ⟨s,n,k⟩ => k _ G H (Ext.refl _) s .non
theorem ev_str {x : Str} {j : Nat} : EvP X ρ O (.Constant (.str x) j pos) (.str x) := λ G => PE.imp pe_str λ σ H Q ⟨s,n,k⟩ => k _ G H (Ext.refl _) s (.str x)
def Op2 (X : Cx) (O : Sto) (f : Value -> Value -> Sem Value) (da db d : D) : Prop :=
 ∀ G,OpR X f (λ v u H Q => SA X.K G H O /\ Is X.K G da v /\ Is X.K G db u /\ ∀ w G' H',Ext G G' -> SA X.K G' H' O -> Is X.K G' d w -> Q w H')
theorem Op2.of {f : Value -> Value -> Sem Value} {r : R2} (ho : OpR X f r)
  (k : ∀ G v u H Q,SA X.K G H O -> Is X.K G da v -> Is X.K G db u -> (∀ w G' H',Ext G G' -> SA X.K G' H' O -> Is X.K G' d w -> Q w H') -> r v u H Q) : Op2 X O f da db d :=
 λ G pins s σ H x y v u Q I rx ry ⟨h1,h2,h3,h4⟩ => ho pins s σ H x y v u Q I rx ry (k G _ _ _ _ h1 h2 h3 h4)
theorem Q0j {op : Operator} (ha : EvP X ρ O a da) (hb : EvP X ρ O b db) (ho : Op2 X O (binaryOp op) da db d) : EvP X ρ O (.BinOp a op b pos) d := λ G pins s σ H Q I ⟨h1,h2,h3⟩ =>
 wpAny_BinOp (binT (ta := λ σ H Q => SA X.K G H O /\ EnvR X.K G σ ρ /\ ∀ v G' H',Ext G G' -> SA X.K G' H' O -> Is X.K G' da v -> Q v H') (ha G)
  (tb := λ σ H Q => ∃ G1 v0,SA X.K G1 H O /\ EnvR X.K G1 σ ρ /\ ∀ v G' H',Ext G1 G' -> SA X.K G' H' O -> Is X.K G' db v -> Q v H') (λ pins s σ H Q I ⟨G1,_,q⟩ => hb G1 pins s σ H Q I q) I
  (R := λ x y H2 => ∃ G2,Ext G G2 /\ SA X.K G2 H2 O /\ Is X.K G2 da x /\ Is X.K G2 db y)
  ⟨h1,h2,λ v G1 H1 e1 s1 i1 => ⟨G1,(0 : Nat),s1,h2.ext e1,λ u G2 H2 e2 s2 i2 => ⟨G2,e1.trans e2,s2,i1.ext e2,i2⟩⟩⟩
  λ v u s2 x y H2 I2 rx ry ⟨G2,e2,s2',i1,i2⟩ => ho G2 pins s2 σ H2 x y v u Q I2 rx ry ⟨s2',i1,i2,λ w G3 H3 e3 s3 i3 => h3 w G3 H3 (e2.trans e3) s3 i3⟩)
theorem o_int {f : Value -> Value -> Sem Value} {g : Int -> Int -> Int} {i j : Int} (ho : OpR X f (rI0 λ i j => .int (g i j))) : Op2 X O f (.int i) (.int j) (.int (g i j)) :=
 .of ho λ G v u H Q s h1 h2 k => by cases h1; cases h2; exact ⟨i,j,rfl,rfl,k _ G H (Ext.refl _) s (.int _)⟩
theorem o_intC {f : Value -> Value -> Sem Value} {C : Int -> Int -> Prop} {g : Int -> Int -> Int} {i j : Int} (ho : OpR X f (rI C λ i j => .int (g i j))) (hc : C i j) : Op2 X O f (.int i) (.int j) (.int (g i j)) :=
 .of ho λ G v u H Q s h1 h2 k => by cases h1; cases h2; exact ⟨i,j,rfl,rfl,hc,k _ G H (Ext.refl _) s (.int _)⟩
theorem o_intB {f : Value -> Value -> Sem Value} {g : Int -> Int -> Bool} {i j : Int} (ho : OpR X f (rI0 λ i j => .bl (g i j))) : Op2 X O f (.int i) (.int j) (.bl (g i j)) :=
 .of ho λ G v u H Q s h1 h2 k => by cases h1; cases h2; exact ⟨i,j,rfl,rfl,k _ G H (Ext.refl _) s (.bl _)⟩
theorem Q1P {i j : Int} : Op2 X O (binaryOp .Add) (.int i) (.int j) (.int (i + j)) := o_int op_add
theorem o_sub {i j : Int} : Op2 X O (binaryOp .Sub) (.int i) (.int j) (.int (i - j)) := o_int op_sub
theorem op_mulG : OpR X (binaryOp .Mult) (rI IntMulOk λ i j => .int (i * j)) := opI λ _ _ _ _ _ _ _ hc q => mul_int q hc
theorem Q1O {i j : Int} (h : IntMulOk i j) : Op2 X O (binaryOp .Mult) (.int i) (.int j) (.int (i * j)) := o_intC op_mulG h
theorem Q3H {i j : Int} (h : CDiv i j) : Op2 X O (binaryOp .FloorDiv) (.int i) (.int j) (.int (i / j)) := o_intC op_fdiv h
theorem Q2f {i j : Int} (h : 0 < j) : Op2 X O (binaryOp .Mod) (.int i) (.int j) (.int (i % j)) := o_intC (C := λ _ j => 0 < j) op_mod h
theorem cmp_lt {i j : Int} : Op2 X O (compareOp .Lt) (.int i) (.int j) (.bl (decide (i < j))) := o_intB op_lt
theorem cmp_le {i j : Int} : Op2 X O (compareOp .LtE) (.int i) (.int j) (.bl (decide (i <= j))) := o_intB op_le
theorem cmp_gt {i j : Int} : Op2 X O (compareOp .Gt) (.int i) (.int j) (.bl (decide (j < i))) := o_intB op_gt
theorem cmp_ge {i j : Int} : Op2 X O (compareOp .GtE) (.int i) (.int j) (.bl (decide (j <= i))) := o_intB op_ge
theorem dec_V {i j : Int} : decide (V.int i = V.int j) = decide (i = j) := by
 by_cases h : i = j
 ·subst h; rw [decide_eq_true rfl,decide_eq_true rfl]
 ·rw [decide_eq_false h,decide_eq_false]; intro z; injection z with z; exact h z
theorem Q0M {i j : Int} : Op2 X O (compareOp .Eq) (.int i) (.int j) (.bl (decide (i = j))) :=
 .of op_eq λ G v u H Q s h1 h2 k => by cases h1; cases h2; exact ⟨rfl,by rw [dec_V]; exact k _ G H (Ext.refl _) s (.bl _)⟩
theorem Q3X {i j : Int} : Op2 X O (compareOp .NotEq) (.int i) (.int j) (.bl (!decide (i = j))) :=
 .of op_ne λ G v u H Q s h1 h2 k => by cases h1; cases h2; exact ⟨rfl,by rw [dec_V]; exact k _ G H (Ext.refl _) s (.bl _)⟩
def isN : D -> Bool
 | .non => true
 | _ => false
theorem isN_of {K : PySem.W.Frag} {G : Wd} {v : V} (h : Is K G d v) : decide (v = V.non) = isN d := by
 cases h <;> first | rfl | exact decide_eq_false (λ z => by cases z)
theorem Q4o : Op2 X O (compareOp .Is) da .non (.bl (isN da)) :=
 .of op_isN λ G v u H Q s h1 h2 k => by cases h2; exact ⟨rfl,by rw [isN_of h1]; exact k _ G H (Ext.refl _) s (.bl _)⟩
theorem cmp_isnot : Op2 X O (compareOp .IsNot) da .non (.bl (!isN da)) :=
 .of op_notN λ G v u H Q s h1 h2 k => by cases h2; exact ⟨rfl,by rw [isN_of h1]; exact k _ G H (Ext.refl _) s (.bl _)⟩
theorem Q3a {op : CmpOp} (ha : EvP X ρ O a da) (hb : EvP X ρ O b db) (ho : Op2 X O (compareOp op) da db d) (hm : behindInMarks op b = false := by first | exact nomark _ | (with_unfolding_all rfl)) : EvP X ρ O (.Compare a [op] [b] pos) d := λ G pins s σ H Q I ⟨h1,h2,h3⟩ =>
 wpAny_Compare1 (binT (ta := λ σ H Q => SA X.K G H O /\ EnvR X.K G σ ρ /\ ∀ v G' H',Ext G G' -> SA X.K G' H' O -> Is X.K G' da v -> Q v H') (ha G)
  (tb := λ σ H Q => ∃ G1 v0,SA X.K G1 H O /\ EnvR X.K G1 σ ρ /\ ∀ v G' H',Ext G1 G' -> SA X.K G' H' O -> Is X.K G' db v -> Q v H') (λ pins s σ H Q I ⟨G1,_,q⟩ => hb G1 pins s σ H Q I q) I
  (R := λ x y H2 => ∃ G2,Ext G G2 /\ SA X.K G2 H2 O /\ Is X.K G2 da x /\ Is X.K G2 db y)
  ⟨h1,h2,λ v G1 H1 e1 s1 i1 => ⟨G1,(0 : Nat),s1,h2.ext e1,λ u G2 H2 e2 s2 i2 => ⟨G2,e1.trans e2,s2,i1.ext e2,i2⟩⟩⟩
  λ v u s2 x y H2 I2 rx ry ⟨G2,e2,s2',i1,i2⟩ => ho G2 pins s2 σ H2 x y v u Q I2 rx ry ⟨s2',i1,i2,λ w G3 H3 e3 s3 i3 => h3 w G3 H3 (e2.trans e3) s3 i3⟩) hm
theorem Q0A {op : CmpOp} {k : Bool} (ha : EvP X ρ O a da) (hb : EvP X ρ O b db) (ho : Op2 X O (compareOp op) da db (.bl k)) (hm : behindInMarks op b = false := by first | exact nomark _ | (with_unfolding_all rfl)) : EvT X ρ O (.Compare a [op] [b] pos) k := λ G pins s σ H Q I ⟨h1,h2,h3⟩ => by
 refine wpAny_isTrue_Compare1 (thn (ha G pins s σ H _ I ⟨h1,h2,λ v G1 H1 e1 s1 i1 => (⟨G1,e1,s1,i1⟩ : ∃ G1,Ext G G1 /\ SA X.K G1 H1 O /\ Is X.K G1 da v)⟩) λ v s1 ⟨x,H1,I1,r1,G1,e1,sa1,i1⟩ =>
  thn (hb G1 pins s1 σ H1 _ I1 ⟨sa1,h2.ext e1,λ u G2 H2 e2 s2 i2 => (⟨G2,e2,s2,i2⟩ : ∃ G2,Ext G1 G2 /\ SA X.K G2 H2 O /\ Is X.K G2 db u)⟩) λ u s2 ⟨y,H2,I2,r2,G2,e2,sa2,i2⟩ =>
  thn (ho G2 pins s2 σ H2 x y v u _ I2 r1 r2 ⟨sa2,i1.ext e2,i2,λ w G3 H3 e3 s3 i3 => (⟨G3,e3,s3,i3⟩ : ∃ G3,Ext G2 G3 /\ SA X.K G3 H3 O /\ Is X.K G3 (.bl k) w)⟩) λ c s3 ⟨z,H3,I3,r3,G3,e3,sa3,i3⟩ => ?_) hm
 cases i3
 cases r3
 exact wpAny_truthy_bool ⟨H3,I3,h3 G3 H3 ((e1.trans e2).trans e3) sa3⟩
theorem Q3c {k : Bool} (ha : EvP X ρ O a (.bl k)) (he : ∀ whole,isTrue a X.env whole = (do let v <- whole; standAt a.pos; holding [v] (truthy v)) := by intro _; rfl) : EvT X ρ O a k := λ G =>
 (pt_truth (ha G) he).imp λ σ H Q ⟨h1,h2,h3⟩ => ⟨h1,h2,λ v G' H' e1 s1 i1 => by cases i1; exact ⟨k,rfl,h3 G' H' e1 s1⟩⟩
theorem Q2u {k : Bool} (ha : EvT X ρ O a k) : EvT X ρ O (.UnaryOp .Not a pos) (!k) := λ G =>
 (pt_not (ha G)).imp λ σ H Q ⟨h1,h2,h3⟩ => ⟨h1,h2,λ G' H' e1 s1 => h3 G' H' e1 s1⟩
theorem ew_and1 {k : Bool} (ha : EvT X ρ O a k) : EvW X ρ O (.BoolOp .And [a] pos) k := λ G => pw_and1 (ha G)
theorem Q4M {k : Bool} (ha : EvT X ρ O a k) : EvW X ρ O (.BoolOp .Or [a] pos) k := λ G => pw_or1 (ha G)
theorem ew_and {k l : Bool} {rest : List Expr} (ha : EvT X ρ O a k) (hb : k = true -> EvW X ρ O (.BoolOp .And (b :: rest) pos) l) : EvW X ρ O (.BoolOp .And (a :: b :: rest) pos) (k && l) := λ G wh pins s σ H Q I ⟨h1,h2,h3⟩ => by
 refine isTrue_and (thn (ha G pins s σ H (λ c H1 => c = k /\ ∃ G1,Ext G G1 /\ SA X.K G1 H1 O) I ⟨h1,h2,λ G1 H1 e1 s1 => ⟨rfl,G1,e1,s1⟩⟩) ?_)
 rintro c s1 ⟨H1,I1,rfl,G1,e1,sa1⟩
 cases c with
 | false => exact ⟨H1,I1,h3 G1 H1 e1 sa1⟩
 | true => exact hb rfl G1 wh pins s1 σ H1 Q I1 ⟨sa1,h2.ext e1,λ G2 H2 e2 s2 => h3 G2 H2 (e1.trans e2) s2⟩
theorem ew_or {k l : Bool} {rest : List Expr} (ha : EvT X ρ O a k) (hb : k = false -> EvW X ρ O (.BoolOp .Or (b :: rest) pos) l) : EvW X ρ O (.BoolOp .Or (a :: b :: rest) pos) (k || l) := λ G wh pins s σ H Q I ⟨h1,h2,h3⟩ => by
 refine isTrue_or (thn (ha G pins s σ H (λ c H1 => c = k /\ ∃ G1,Ext G G1 /\ SA X.K G1 H1 O) I ⟨h1,h2,λ G1 H1 e1 s1 => ⟨rfl,G1,e1,s1⟩⟩) ?_)
 rintro c s1 ⟨H1,I1,rfl,G1,e1,sa1⟩
 cases c with
 | true => exact ⟨H1,I1,h3 G1 H1 e1 sa1⟩
 | false => exact hb rfl G1 wh pins s1 σ H1 Q I1 ⟨sa1,h2.ext e1,λ G2 H2 e2 s2 => h3 G2 H2 (e1.trans e2) s2⟩
theorem Q3K {op : BoolOp} (ha : EvP X ρ O a d) : EvP X ρ O (.BoolOp op [a] pos) d := λ G => pe_one (ha G)
theorem Q3L {k l : Bool} {rest : List Expr} (ha : EvP X ρ O a (.bl k)) (hb : k = true -> EvP X ρ O (.BoolOp .And (b :: rest) pos) (.bl l)) : EvP X ρ O (.BoolOp .And (a :: b :: rest) pos) (.bl (k && l)) := λ G pins s σ H Q I ⟨h1,h2,h3⟩ => by
 refine BoolOp_and (thn (ha G pins s σ H (λ v H1 => ∃ G1,Ext G G1 /\ SA X.K G1 H1 O /\ Is X.K G1 (.bl k) v) I ⟨h1,h2,λ v G1 H1 e1 s1 i1 => ⟨G1,e1,s1,i1⟩⟩) ?_)
 rintro v s1 ⟨x,H1,I1,r1,G1,e1,sa1,i1⟩
 cases i1
 cases r1
 refine wpAny_truthy_bool ?_
 cases k with
 | false => exact ⟨.bl false,H1,I1,rfl,h3 _ G1 H1 e1 sa1 (.bl _)⟩
 | true => exact hb rfl G1 pins s1 σ H1 Q I1 ⟨sa1,h2.ext e1,λ w G2 H2 e2 s2 i2 => h3 w G2 H2 (e1.trans e2) s2 i2⟩
theorem ev_or {k l : Bool} {rest : List Expr} (ha : EvP X ρ O a (.bl k)) (hb : k = false -> EvP X ρ O (.BoolOp .Or (b :: rest) pos) (.bl l)) : EvP X ρ O (.BoolOp .Or (a :: b :: rest) pos) (.bl (k || l)) := λ G pins s σ H Q I ⟨h1,h2,h3⟩ => by
 refine BoolOp_or (thn (ha G pins s σ H (λ v H1 => ∃ G1,Ext G G1 /\ SA X.K G1 H1 O /\ Is X.K G1 (.bl k) v) I ⟨h1,h2,λ v G1 H1 e1 s1 i1 => ⟨G1,e1,s1,i1⟩⟩) ?_)
 rintro v s1 ⟨x,H1,I1,r1,G1,e1,sa1,i1⟩
 cases i1
 cases r1
 refine wpAny_truthy_bool ?_
 cases k with
 | true => exact ⟨.bl true,H1,I1,rfl,h3 _ G1 H1 e1 sa1 (.bl _)⟩
 | false => exact hb rfl G1 pins s1 σ H1 Q I1 ⟨sa1,h2.ext e1,λ w G2 H2 e2 s2 i2 => h3 w G2 H2 (e1.trans e2) s2 i2⟩
theorem ev_not {k : Bool} (ha : EvP X ρ O a (.bl k)) : EvP X ρ O (.UnaryOp .Not a pos) (.bl (!k)) := λ G => (pe_not (ha G)).imp λ σ H Q ⟨h1,h2,h3⟩ => ⟨h1,h2,λ v G1 H1 e1 s1 i1 => by
 cases i1
 exact ⟨k,rfl,h3 _ G1 H1 e1 s1 (.bl _)⟩⟩
theorem ev_if {k : Bool} (hc : EvT X ρ O c k) (ha : k = true -> EvP X ρ O a da) (hb : k = false -> EvP X ρ O b db) : EvP X ρ O (.IfExp c a b pos) (if k = true then da else db) := λ G pins s σ H Q I ⟨h1,h2,h3⟩ => by
 cases k with
 | true =>
  exact (pe_ifExp (tA := λ σ H Q => SA X.K G H O /\ EnvR X.K G σ ρ /\ ∀ G' H',Ext G G' -> SA X.K G' H' O -> Q true H') (hc G) (λ pins s σ H Q I (q : ∃ G1,SA X.K G1 H O /\ EnvR X.K G1 σ ρ /\ ∀ v G' H',Ext G1 G' -> SA X.K G' H' O -> Is X.K G' da v -> Q v H') => let ⟨G1,q⟩ := q; ha rfl G1 pins s σ H Q I q)
   (λ pins s σ H Q I (q : False) => q.elim)) pins s σ H Q I ⟨h1,h2,λ G1 H1 e1 s1 => iteT ⟨G1,s1,h2.ext e1,λ v G2 H2 e2 s2 i2 => h3 v G2 H2 (e1.trans e2) s2 i2⟩⟩
 | false =>
  exact (pe_ifExp (tA := λ σ H Q => SA X.K G H O /\ EnvR X.K G σ ρ /\ ∀ G' H',Ext G G' -> SA X.K G' H' O -> Q false H') (hc G) (λ pins s σ H Q I (q : False) => q.elim)
   (λ pins s σ H Q I (q : ∃ G1,SA X.K G1 H O /\ EnvR X.K G1 σ ρ /\ ∀ v G' H',Ext G1 G' -> SA X.K G' H' O -> Is X.K G' db v -> Q v H') => let ⟨G1,q⟩ := q; hb rfl G1 pins s σ H Q I q)) pins s σ H Q I ⟨h1,h2,λ G1 H1 e1 s1 => iteF ⟨G1,s1,h2.ext e1,λ v G2 H2 e2 s2 i2 => h3 v G2 H2 (e1.trans e2) s2 i2⟩⟩
theorem ev_chain {op op' : CmpOp} {k l : Bool} {dc : D} (ha : EvP X ρ O a da) (hb : EvP X ρ O b db) (hc : EvP X ρ O c dc) (ho : Op2 X O (compareOp op) da db (.bl k)) (ho' : k = true -> Op2 X O (compareOp op') db dc (.bl l))
  (hm : lastMarks [op,op'] [b,c] = false := by with_unfolding_all rfl) : EvP X ρ O (.Compare a [op,op'] [b,c] pos) (.bl (k && l)) := λ G pins s σ H Q I ⟨h1,h2,h3⟩ => by
 refine Compare_chain (thn (ha G pins s σ H (λ v H1 => ∃ G1,Ext G G1 /\ SA X.K G1 H1 O /\ Is X.K G1 da v) I ⟨h1,h2,λ v G1 H1 e1 s1 i1 => ⟨G1,e1,s1,i1⟩⟩) ?_) hm
 rintro v s1 ⟨x,H1,I1,r1,G1,e1,sa1,i1⟩
 refine chain_link (thn (hb G1 pins s1 σ H1 (λ v H2 => ∃ G2,Ext G1 G2 /\ SA X.K G2 H2 O /\ Is X.K G2 db v) I1 ⟨sa1,h2.ext e1,λ v G2 H2 e2 s2 i2 => ⟨G2,e2,s2,i2⟩⟩) ?_)
 rintro u s2 ⟨y,H2,I2,r2,G2,e2,sa2,i2⟩
 refine thn (ho G2 pins s2 σ H2 x y v u (λ w H3 => ∃ G3,Ext G2 G3 /\ SA X.K G3 H3 O /\ Is X.K G3 (.bl k) w) I2 r1 r2 ⟨sa2,i1.ext e2,i2,λ w G3 H3 e3 s3 i3 => ⟨G3,e3,s3,i3⟩⟩) ?_
 rintro w s3 ⟨z,H3,I3,r3,G3,e3,sa3,i3⟩
 cases i3
 cases r3
 refine wpAny_truthy_bool ?_
 cases k with
 | false => exact ite_ff ⟨.bl false,H3,I3,rfl,h3 _ G3 H3 ((e1.trans e2).trans e3) sa3 (.bl _)⟩
 | true =>
  refine ite_tt (chain_last (thn (hc G3 pins s3 σ H3 (λ v H4 => ∃ G4,Ext G3 G4 /\ SA X.K G4 H4 O /\ Is X.K G4 dc v) I3 ⟨sa3,h2.ext ((e1.trans e2).trans e3),λ v G4 H4 e4 s4 i4 => ⟨G4,e4,s4,i4⟩⟩) ?_))
  rintro q s4 ⟨z',H4,I4,r4,G4,e4,sa4,i4⟩
  exact ho' rfl G4 pins s4 σ H4 y z' u q Q I4 r2 r4 ⟨sa4,i2.ext (e3.trans e4),i4,λ w G5 H5 e5 s5 i5 => h3 w G5 H5 ((((e1.trans e2).trans e3).trans e4).trans e5) s5 i5⟩
theorem et_chain {op op' : CmpOp} {k l : Bool} {dc : D} (ha : EvP X ρ O a da) (hb : EvP X ρ O b db) (hc : EvP X ρ O c dc) (ho : Op2 X O (compareOp op) da db (.bl k)) (ho' : k = true -> Op2 X O (compareOp op') db dc (.bl l))
  (hm : lastMarks [op,op'] [b,c] = false := by with_unfolding_all rfl) : EvT X ρ O (.Compare a [op,op'] [b,c] pos) (k && l) := λ G pins s σ H Q I ⟨h1,h2,h3⟩ => by
 refine isTrue_chain (thn (ha G pins s σ H (λ v H1 => ∃ G1,Ext G G1 /\ SA X.K G1 H1 O /\ Is X.K G1 da v) I ⟨h1,h2,λ v G1 H1 e1 s1 i1 => ⟨G1,e1,s1,i1⟩⟩) ?_) hm
 rintro v s1 ⟨x,H1,I1,r1,G1,e1,sa1,i1⟩
 refine test_link (thn (hb G1 pins s1 σ H1 (λ v H2 => ∃ G2,Ext G1 G2 /\ SA X.K G2 H2 O /\ Is X.K G2 db v) I1 ⟨sa1,h2.ext e1,λ v G2 H2 e2 s2 i2 => ⟨G2,e2,s2,i2⟩⟩) ?_)
 rintro u s2 ⟨y,H2,I2,r2,G2,e2,sa2,i2⟩
 refine thn (ho G2 pins s2 σ H2 x y v u (λ w H3 => ∃ G3,Ext G2 G3 /\ SA X.K G3 H3 O /\ Is X.K G3 (.bl k) w) I2 r1 r2 ⟨sa2,i1.ext e2,i2,λ w G3 H3 e3 s3 i3 => ⟨G3,e3,s3,i3⟩⟩) ?_
 rintro w s3 ⟨z,H3,I3,r3,G3,e3,sa3,i3⟩
 cases i3
 cases r3
 refine wpAny_truthy_bool ?_
 cases k with
 | false => exact ite_ff ⟨H3,I3,h3 G3 H3 ((e1.trans e2).trans e3) sa3⟩
 | true =>
  refine ite_tt (test_last (thn (hc G3 pins s3 σ H3 (λ v H4 => ∃ G4,Ext G3 G4 /\ SA X.K G4 H4 O /\ Is X.K G4 dc v) I3 ⟨sa3,h2.ext ((e1.trans e2).trans e3),λ v G4 H4 e4 s4 i4 => ⟨G4,e4,s4,i4⟩⟩) ?_))
  rintro q s4 ⟨z',H4,I4,r4,G4,e4,sa4,i4⟩
  refine thn (ho' rfl G4 pins s4 σ H4 y z' u q (λ w H5 => ∃ G5,Ext G4 G5 /\ SA X.K G5 H5 O /\ Is X.K G5 (.bl l) w) I4 r2 r4 ⟨sa4,i2.ext (e3.trans e4),i4,λ w G5 H5 e5 s5 i5 => ⟨G5,e5,s5,i5⟩⟩) ?_
  rintro q' s5 ⟨z2,H5,I5,r5,G5,e5,sa5,i5⟩
  cases i5
  cases r5
  exact wpAny_truthy_bool ⟨H5,I5,h3 G5 H5 ((((e1.trans e2).trans e3).trans e4).trans e5) sa5⟩
end
def LV (O : Sto) (d : D) (xs : List D) : Prop := d = .lst xs \/ d = .scr xs \/ ∃ n,d = .ptr n /\ O[n]? = some (some (.lst xs))
def LT (O : Sto) (d : D) (xs : List D) : Prop := LV O d xs \/ d = .tup xs
theorem LV.sq {K : PySem.W.Frag} {G : Wd} {H : Hp} {O : Sto} {d : D} {xs : List D} {v : V} (h : LV O d xs) (s : SA K G H O) (i : Is K G d v) : ∃ a vs,v = .ref a /\ SqL K H a vs /\ Iss K G xs vs := by
 rcases h with rfl | rfl | ⟨p,rfl,h⟩
 ·cases i with | lst h r => exact ⟨_,_,rfl,SqL.of (s.sub _ _ h),r⟩
 ·cases i with | scr h r => exact ⟨_,_,rfl,s.sub.seq h,r⟩
 ·cases i with
  | ptr _ q =>
   obtain ⟨a,e,_,vs,h1,h2⟩ := s.mt p _ h
   obtain rfl := Option.some.inj (q.symm.trans e)
   exact ⟨_,vs,rfl,SqL.of h1,h2⟩
theorem tup_sq {K : PySem.W.Frag} {G : Wd} {H : Hp} {O : Sto} {xs : List D} {v : V} (s : SA K G H O) (i : Is K G (.tup xs) v) : ∃ a vs,v = .ref a /\ SqT K H a vs /\ Iss K G xs vs := by
 cases i with | tup h r => exact ⟨_,_,rfl,Q1D s.sub h,r⟩
def EvPs (X : Cx) (ρ : Rho) (O : Sto) (es : List Expr) (ds : List D) : Prop :=
 ∀ G,PA X es (λ σ H Q => SA X.K G H O /\ EnvR X.K G σ ρ /\ ∀ vs G' H',Ext G G' -> SA X.K G' H' O -> Iss X.K G' ds vs -> Q vs H')
section
variable {X : Cx} {ρ : Rho} {O : Sto} {e a b c : Expr} {es : List Expr} {d da db : D} {ds : List D} {R : D -> Sto -> Prop} {pos p : Pos} {x : Str}
theorem Q0e : EvPs X ρ O [] [] := λ G => PA.imp pa_nil λ σ H Q ⟨h1,h2,h3⟩ => h3 _ G H (Ext.refl _) h1 .nil
theorem Q0b (he : EvP X ρ O e d) (hs : EvPs X ρ O es ds) (hst : starEach (e :: es) X.env = (false,eval e X.env) :: starEach es X.env := by rfl) : EvPs X ρ O (e :: es) (d :: ds) := λ G =>
 PA.imp (Q4C (he G) (t := λ σ H Q => ∃ G1,SA X.K G1 H O /\ EnvR X.K G1 σ ρ /\ ∀ vs G' H',Ext G1 G' -> SA X.K G' H' O -> Iss X.K G' ds vs -> Q vs H') (λ pos pins s σ H Q I ⟨G1,q⟩ => hs G1 pos pins s σ H Q I q) hst)
  λ σ H Q ⟨h1,h2,h3⟩ => ⟨h1,h2,λ v G1 H1 e1 s1 i1 => ⟨G1,s1,h2.ext e1,λ vs G2 H2 e2 s2 i2 => h3 _ G2 H2 (e1.trans e2) s2 (.cons (i1.ext e2) i2)⟩⟩
theorem es_consA {R : List D -> Sto -> Prop} (he : Ev X ρ O e λ d O1 => EvAs X ρ O1 es λ ds O2 => R (d :: ds) O2) (hst : starEach (e :: es) X.env = (false,eval e X.env) :: starEach es X.env := by rfl) : EvAs X ρ O (e :: es) R := λ G =>
 PA.imp (Q4C (he G) (t := λ σ H Q => ∃ G1 d O1,SA X.K G1 H O1 /\ EnvR X.K G1 σ ρ /\ (EvAs X ρ O1 es λ ds O2 => R (d :: ds) O2) /\ ∀ vs ds O2 G' H',Ext G1 G' -> SA X.K G' H' O2 -> Iss X.K G' ds vs -> R (d :: ds) O2 -> Q vs H') (λ pos pins s σ H Q I ⟨G1,d,O1,q1,q2,q3,q4⟩ => q3 G1 pos pins s σ H Q I ⟨q1,q2,q4⟩) hst)
  λ σ H Q ⟨h1,h2,h3⟩ => ⟨h1,h2,λ v d O1 G1 H1 e1 s1 i1 r1 => ⟨G1,d,O1,s1,h2.ext e1,r1,λ vs ds O2 G2 H2 e2 s2 i2 r2 => h3 _ (d :: ds) O2 G2 H2 (e1.trans e2) s2 (.cons (i1.ext e2) i2) r2⟩⟩
theorem EvPs.as {R : List D -> Sto -> Prop} (h : EvPs X ρ O es ds) (r : R ds O) : EvAs X ρ O es R := λ G => PA.imp (h G) λ σ H Q ⟨h1,h2,h3⟩ => ⟨h1,h2,λ vs G' H' e1 s1 i1 => h3 vs ds O G' H' e1 s1 i1 r⟩
theorem Q2D {x1 : Nat} (h : EvPs X ρ O es ds) (hz : ds.length <= sizeLine := by exact Nat.le_of_ble_eq_true rfl) : EvP X ρ O (.Tuple es x1 pos) (.tup ds) := λ G =>
 PE.imp (pe_tup (h G)) λ σ H Q ⟨h1,h2,h3⟩ => ⟨h1,h2,λ vs G1 H1 e1 s1 i1 => ⟨by rw [<- i1.length]; exact hz,λ p hp => by
  obtain ⟨e2,s2⟩ := s1.laid (o := .tup vs) hp
  exact h3 _ _ _ (e1.trans e2) s2 (.tup (SqT.of Q0z) (i1.ext e2))⟩⟩
theorem ev_lst (h : EvPs X ρ O es ds) (hz : ds.length <= sizeLine := by exact Nat.le_of_ble_eq_true rfl) : EvP X ρ O (.List es pos) (.lst ds) := λ G =>
 PE.imp (pe_lst (h G)) λ σ H Q ⟨h1,h2,h3⟩ => ⟨h1,h2,λ vs G1 H1 e1 s1 i1 => ⟨by rw [<- i1.length]; exact hz,λ p hp => by
  obtain ⟨e2,s2⟩ := s1.laid (o := .lst vs) hp
  exact h3 _ _ _ (e1.trans e2) s2 (.lst Q0z (i1.ext e2))⟩⟩
theorem ev_lstM (h : EvPs X ρ O es ds) (k : R (.ptr O.length) (O ++ [some (.lst ds)])) (hz : ds.length <= sizeLine := by exact Nat.le_of_ble_eq_true rfl) : Ev X ρ O (.List es pos) R := λ G =>
 PE.imp (pe_lst (h G)) λ σ H Q ⟨h1,h2,h3⟩ => ⟨h1,h2,λ vs G1 H1 e1 s1 i1 => ⟨by rw [<- i1.length]; exact hz,λ p hp => by
  have e : Ext G1 ⟨G1.g,G1.l ++ [p]⟩ := ⟨Same.refl _,[p],rfl⟩
  obtain ⟨e2,s2⟩ := s1.new (m := .lst ds) hp ⟨vs,Q0z,i1.ext e⟩
  refine h3 _ _ _ _ _ (e1.trans e2) s2 (.ptr _ ?_) k
  rw [<- s1.len,List.getElem?_append_right (Nat.le_refl _),Nat.sub_self]; rfl⟩⟩
theorem ixN_len {xs : List D} {vs : List V} {K : PySem.W.Frag} {G : Wd} {i : Int} (r : Iss K G xs vs) (h : atI xs i = some d) : ∃ v,atI vs i = some v /\ Is K G d v := by
 unfold atI at h ⊢
 rw [<- r.length]
 cases q : ixN xs.length i with
 | none => rw [q] at h; cases h
 | some j =>
  rw [q] at h
  exact r.get h
theorem ev_ixL {xs : List D} {i : Int} (ha : EvP X ρ O a da) (hl : LV O da xs) (hb : EvP X ρ O b (.int i)) (hi : atI xs i = some d) (hs : PlainIx b := by intro _ _; rfl) : EvP X ρ O (.Subscript a b pos) d := λ G pins s σ H Q I ⟨h1,h2,h3⟩ =>
 Subscript_ (binT (ta := λ σ H Q => SA X.K G H O /\ EnvR X.K G σ ρ /\ ∀ v G' H',Ext G G' -> SA X.K G' H' O -> Is X.K G' da v -> Q v H') (ha G)
  (tb := λ σ H Q => ∃ G1,SA X.K G1 H O /\ EnvR X.K G1 σ ρ /\ ∀ v G' H',Ext G1 G' -> SA X.K G' H' O -> Is X.K G' (.int i) v -> Q v H') (λ pins s σ H Q I ⟨G1,q⟩ => hb G1 pins s σ H Q I q) I
  (R := λ x y H2 => ∃ G2,Ext G G2 /\ SA X.K G2 H2 O /\ Is X.K G2 da x /\ Is X.K G2 (.int i) y)
  ⟨h1,h2,λ v G1 H1 e1 s1 i1 => ⟨G1,s1,h2.ext e1,λ u G2 H2 e2 s2 i2 => ⟨G2,e1.trans e2,s2,i1.ext e2,i2⟩⟩⟩
  λ v u s2 x y H2 I2 rx ry ⟨G2,e2,s2',i1,i2⟩ => by
   obtain ⟨p,vs,rfl,q,r⟩ := hl.sq s2' i1
   cases i2
   obtain ⟨w,hw,iw⟩ := ixN_len r hi
   exact ix_list a b pins s2 σ H2 _ _ v u Q I2 rx ry ⟨p,vs,i,w,rfl,rfl,q,hw,h3 w G2 H2 e2 s2' iw⟩ (hs _ _))
theorem Q2E {xs : List D} {i : Int} (ha : EvP X ρ O a (.tup xs)) (hb : EvP X ρ O b (.int i)) (hi : atI xs i = some d) (hs : PlainIx b := by intro _ _; rfl) : EvP X ρ O (.Subscript a b pos) d := λ G pins s σ H Q I ⟨h1,h2,h3⟩ =>
 Subscript_ (binT (ta := λ σ H Q => SA X.K G H O /\ EnvR X.K G σ ρ /\ ∀ v G' H',Ext G G' -> SA X.K G' H' O -> Is X.K G' (.tup xs) v -> Q v H') (ha G)
  (tb := λ σ H Q => ∃ G1,SA X.K G1 H O /\ EnvR X.K G1 σ ρ /\ ∀ v G' H',Ext G1 G' -> SA X.K G' H' O -> Is X.K G' (.int i) v -> Q v H') (λ pins s σ H Q I ⟨G1,q⟩ => hb G1 pins s σ H Q I q) I
  (R := λ x y H2 => ∃ G2,Ext G G2 /\ SA X.K G2 H2 O /\ Is X.K G2 (.tup xs) x /\ Is X.K G2 (.int i) y)
  ⟨h1,h2,λ v G1 H1 e1 s1 i1 => ⟨G1,s1,h2.ext e1,λ u G2 H2 e2 s2 i2 => ⟨G2,e1.trans e2,s2,i1.ext e2,i2⟩⟩⟩
  λ v u s2 x y H2 I2 rx ry ⟨G2,e2,s2',i1,i2⟩ => by
   obtain ⟨p,vs,rfl,q,r⟩ := tup_sq s2' i1
   cases i2
   obtain ⟨w,hw,iw⟩ := ixN_len r hi
   exact ix_tup a b pins s2 σ H2 _ _ v u Q I2 rx ry ⟨p,vs,i,w,rfl,rfl,q,hw,h3 w G2 H2 e2 s2' iw⟩ (hs _ _))
def Q2w (X : Cx) (O : Sto) (f : Value) (ds : List D) (d : D) : Prop :=
 ∀ G,CallR X f (λ vs H Q => SA X.K G H O /\ Iss X.K G ds vs /\ ∀ w G' H',Ext G G' -> SA X.K G' H' O -> Is X.K G' d w -> Q w H')
theorem Q2w.of {f : Value} {r : List V -> Hp -> VK -> Prop} (ho : CallR X f r)
  (k : ∀ G vs H Q,SA X.K G H O -> Iss X.K G ds vs -> (∀ w G' H',Ext G G' -> SA X.K G' H' O -> Is X.K G' d w -> Q w H') -> r vs H Q) : Q2w X O f ds d :=
 λ G pins s σ H xs us Q I r ⟨h1,h2,h3⟩ => ho pins s σ H xs us Q I r (k G _ _ _ h1 h2 h3)
theorem Q0v {id : String} (hm : X.mg x = none) (ha : EvPs X ρ O (e :: es) ds) (hc : Q2w X O (.builtin id) ds d) (hg : Gl X x := by rfl) (hv : bootBuiltins x = some (.builtin id) := by first | rfl | decide +kernel) (hn : x ≠ "__name__" := by decide) (hdb : (x == ("__debug__" : Str)) = false := by decide)
  (he : starEach (e :: es) X.env = (false,eval e X.env) :: starEach es X.env := by rfl) (hpl : (backTo pos (starEach es X.env)).any (·.1) = false := by rfl) : EvP X ρ O (.Call (.Name x p) (e :: es) [] pos) d := λ G =>
 PE.imp (pe_callB (r := λ vs H Q => ∃ G1,SA X.K G1 H O /\ Iss X.K G1 ds vs /\ ∀ w G' H',Ext G1 G' -> SA X.K G' H' O -> Is X.K G' d w -> Q w H') (λ pins s σ H xs us Q I r ⟨G1,q⟩ => hc G1 pins s σ H xs us Q I r q) hg hm hv (ha G) hn hdb he hpl)
  λ σ H Q ⟨h1,h2,h3⟩ => ⟨h1,h2,λ vs G1 H1 e1 s1 i1 => ⟨G1,s1,i1,λ w G2 H2 e2 s2 i2 => h3 w G2 H2 (e1.trans e2) s2 i2⟩⟩
theorem Q0K {T : String} (hm : X.mg x = none) (ha : EvPs X ρ O (e :: es) ds) (hc : Q2w X O (.type T) ds d) (hg : Gl X x := by rfl) (hv : bootBuiltins x = some (.type T) := by first | rfl | decide +kernel) (hn : x ≠ "__name__" := by decide) (hdb : (x == ("__debug__" : Str)) = false := by decide)
  (he : starEach (e :: es) X.env = (false,eval e X.env) :: starEach es X.env := by rfl) (hpl : (backTo pos (starEach es X.env)).any (·.1) = false := by rfl) : EvP X ρ O (.Call (.Name x p) (e :: es) [] pos) d := λ G =>
 PE.imp (pe_callTy (r := λ vs H Q => ∃ G1,SA X.K G1 H O /\ Iss X.K G1 ds vs /\ ∀ w G' H',Ext G1 G' -> SA X.K G' H' O -> Is X.K G' d w -> Q w H') (λ pins s σ H xs us Q I r ⟨G1,q⟩ => hc G1 pins s σ H xs us Q I r q) hg hm hv (ha G) hn hdb he hpl)
  λ σ H Q ⟨h1,h2,h3⟩ => ⟨h1,h2,λ vs G1 H1 e1 s1 i1 => ⟨G1,s1,i1,λ w G2 H2 e2 s2 i2 => h3 w G2 H2 (e1.trans e2) s2 i2⟩⟩
theorem Q3q {xs : List D} (h : LT O d xs) : Q2w X O (.builtin "len") [d] (.int xs.length) := .of call_len_seq λ G vs H Q s i k => by
 cases i with
 | cons i r =>
  cases r
  rcases h with h | rfl
  ·obtain ⟨p,vs,rfl,q,r⟩ := h.sq s i
   exact ⟨p,vs,rfl,.inl q,by rw [<- r.length]; exact k _ G H (Ext.refl _) s (.int _)⟩
  ·obtain ⟨p,vs,rfl,q,r⟩ := tup_sq s i
   exact ⟨p,vs,rfl,.inr q,by rw [<- r.length]; exact k _ G H (Ext.refl _) s (.int _)⟩
theorem Q1G {xs : List D} (h : LT O d xs) : Q2w X O (.type "tuple") [d] (.tup xs) := .of call_tuple_of λ G vs H Q s i k => by
 cases i with
 | cons i r =>
  cases r
  rcases h with h | rfl
  ·obtain ⟨p,vs,rfl,q,r⟩ := h.sq s i
   refine ⟨p,vs,rfl,.inl ⟨q,λ l hl => ?_⟩⟩
   obtain ⟨e4,s4⟩ := s.laid (o := .tup vs) hl
   exact k _ _ _ e4 s4 (.tup (SqT.of Q0z) (r.ext e4))
  ·obtain ⟨p,vs,rfl,q,r⟩ := tup_sq s i
   exact ⟨p,vs,rfl,.inr ⟨q,k _ G H (Ext.refl _) s i⟩⟩
theorem c_list {xs : List D} (h : LT O d xs) : Q2w X O (.type "list") [d] (.lst xs) := .of call_list_of λ G vs H Q s i k => by
 cases i with
 | cons i r =>
  cases r
  rcases h with h | rfl
  ·obtain ⟨p,vs,rfl,q,r⟩ := h.sq s i
   refine ⟨p,vs,rfl,.inl q,λ l hl => ?_⟩
   obtain ⟨e4,s4⟩ := s.laid (o := .lst vs) hl
   exact k _ _ _ e4 s4 (.lst Q0z (r.ext e4))
  ·obtain ⟨p,vs,rfl,q,r⟩ := tup_sq s i
   refine ⟨p,vs,rfl,.inr q,λ l hl => ?_⟩
   obtain ⟨e4,s4⟩ := s.laid (o := .lst vs) hl
   exact k _ _ _ e4 s4 (.lst Q0z (r.ext e4))
theorem c_abs {i : Int} : Q2w X O (.builtin "abs") [.int i] (.int (if i < 0 then -i else i)) := .of call_abs λ G vs H Q s h k => by
 cases h with | cons h r => cases r; cases h; exact ⟨i,rfl,k _ G H (Ext.refl _) s (.int _)⟩
theorem c_max {i j : Int} (hc : X.calm = true := by rfl) : Q2w X O (.builtin "max") [.int i,.int j] (.int (if j > i then j else i)) := .of (call_max2 hc) λ G vs H Q s h k => by
 cases h with | cons h r => cases r with | cons h' r => cases r; cases h; cases h'; exact ⟨i,j,rfl,k _ G H (Ext.refl _) s (.int _)⟩
theorem c_min {i j : Int} (hc : X.calm = true := by rfl) : Q2w X O (.builtin "min") [.int i,.int j] (.int (if j < i then j else i)) := .of (call_min2 hc) λ G vs H Q s h k => by
 cases h with | cons h r => cases r with | cons h' r => cases r; cases h; cases h'; exact ⟨i,j,rfl,k _ G H (Ext.refl _) s (.int _)⟩
theorem c_intB {b : Bool} : Q2w X O (.type "int") [.bl b] (.int (if b then 1 else 0)) := .of call_int1 λ G vs H Q s h k => by
 cases h with | cons h r => cases r; cases h; exact .inr ⟨b,rfl,k _ G H (Ext.refl _) s (.int _)⟩
abbrev SpD := List D -> Sto -> (D -> Sto -> Prop) -> Prop
def toSp (K : PySem.W.Frag) (sp : SpD) : Sp := λ vs H Q _ => ∃ G O ds R,SA K G H O /\ Iss K G ds vs /\ sp ds O R /\ ∀ v d O' G' H',Ext G G' -> SA K G' H' O' -> Is K G' d v -> R d O' -> Q v H'
structure Q0m (P : Program) (w : World) (K : PySem.W.Frag) (mg : Str -> Option Value) (base : Heap) (k : Nat) (x : Str) (sp : SpD) : Prop where
 ex : ∃ f fd ps,FnOk P w K mg base CX0 k f fd ps (toSp K sp) /\ mg x = some (.ref f) /\ PySem.W.keepIn K (.ref f) = true /\ Q0C K fd ps []
theorem ev_callA {k : Nat} {sp : SpD} (F : Q0m X.prog X.w X.K X.mg X.base k x sp) (hr : Room k X.A) (ha : EvAs X ρ O (e :: es) λ ds O1 => sp ds O1 R) (hg : Gl X x := by rfl) (hdb : (x == ("__debug__" : Str)) = false := by decide)
  (he : starEach (e :: es) X.env = (false,eval e X.env) :: starEach es X.env := by rfl) (hpl : (backTo pos (starEach es X.env)).any (·.1) = false := by rfl) : Ev X ρ O (.Call (.Name x p) (e :: es) [] pos) R := λ G => by
 obtain ⟨f,fd,ps,h1,h2,h3,h4⟩ := F.ex
 refine PE.imp (pe_call h1 hr hg h2 h3 h4 .nil pass0 (ha G) hdb he hpl) λ σ H Q ⟨q1,q2,q3⟩ => ⟨q1,q2,λ vs ds O1 G1 H1 e1 s1 i1 r1 => ?_⟩
 show toSp X.K sp (vs ++ []) H1 Q E0
 rw [List.append_nil]
 exact ⟨G1,O1,ds,R,s1,i1,r1,λ v d O' G' H' e2 s2 i2 r2 => q3 v d O' G' H' (e1.trans e2) s2 i2 r2⟩
theorem Q1R {k : Nat} {sp : SpD} (F : Q0m X.prog X.w X.K X.mg X.base k x sp) (hr : Room k X.A) (ha : EvPs X ρ O (e :: es) ds) (hs : sp ds O R) (hg : Gl X x := by rfl) (hdb : (x == ("__debug__" : Str)) = false := by decide)
  (he : starEach (e :: es) X.env = (false,eval e X.env) :: starEach es X.env := by rfl) (hpl : (backTo pos (starEach es X.env)).any (·.1) = false := by rfl) : Ev X ρ O (.Call (.Name x p) (e :: es) [] pos) R :=
 ev_callA F hr (ha.as hs) hg hdb he hpl
def Q0i (f : List D -> D -> Prop) : SpD := λ ds O R => ∃ d,f ds d /\ R d O
theorem Q0g {k : Nat} {f : List D -> D -> Prop} (F : Q0m X.prog X.w X.K X.mg X.base k x (Q0i f)) (hr : Room k X.A) (ha : EvPs X ρ O (e :: es) ds) (hs : f ds d) (hg : Gl X x := by rfl) (hdb : (x == ("__debug__" : Str)) = false := by decide)
  (he : starEach (e :: es) X.env = (false,eval e X.env) :: starEach es X.env := by rfl) (hpl : (backTo pos (starEach es X.env)).any (·.1) = false := by rfl) : EvP X ρ O (.Call (.Name x p) (e :: es) [] pos) d :=
 (Q1R F hr ha ⟨d,hs,rfl,rfl⟩ hg hdb he hpl).evp
end
structure Post where
 nx : Rho -> Sto -> Prop
 rt : D -> Sto -> Prop
 bk : Rho -> Sto -> Prop := λ _ _ => False
 ct : Rho -> Sto -> Prop := λ _ _ => False
def Goes (K : PySem.W.Frag) (G : Wd) (N : Rho -> Sto -> Prop) (n : L2.St -> Hp -> Prop) : Prop := ∀ σ ρ O G' H,Ext G G' -> SA K G' H O -> EnvR K G' σ ρ -> N ρ O -> n σ H
structure Conts (K : PySem.W.Frag) (G : Wd) (P : Post) (E : Ends) : Prop where
 nx : Goes K G P.nx E.nx
 rt : ∀ v d O G' H,Ext G G' -> SA K G' H O -> Is K G' d v -> P.rt d O -> E.rt v H
 bk : Goes K G P.bk E.bk
 ct : Goes K G P.ct E.ct
theorem Goes.ext {K : PySem.W.Frag} {G G' : Wd} {N : Rho -> Sto -> Prop} {n : L2.St -> Hp -> Prop} (h : Goes K G N n) (e : Ext G G') : Goes K G' N n := λ σ ρ O G2 H e2 => h σ ρ O G2 H (e.trans e2)
theorem Conts.ext {K : PySem.W.Frag} {G G' : Wd} {P : Post} {E : Ends} (h : Conts K G P E) (e : Ext G G') : Conts K G' P E := ⟨h.nx.ext e,λ v d O G2 H e2 => h.rt v d O G2 H (e.trans e2),h.bk.ext e,h.ct.ext e⟩
def Ex (X : Cx) (ρ : Rho) (O : Sto) (st : Stmt) (P : Post) : Prop := ∀ G,PS X st (λ E σ H => SA X.K G H O /\ EnvR X.K G σ ρ /\ Conts X.K G P E)
def Exs (X : Cx) (ρ : Rho) (O : Sto) (st : List Stmt) (P : Post) : Prop := ∀ G,PSs X st (λ E σ H => SA X.K G H O /\ EnvR X.K G σ ρ /\ Conts X.K G P E)
section
variable {X : Cx} {ρ : Rho} {O : Sto} {e a b c : Expr} {es : List Expr} {d da db : D} {ds : List D} {R : D -> Sto -> Prop} {pos p : Pos} {x : Str} {st : Stmt} {rest body orelse : List Stmt} {P : Post}
theorem Q0p (h : P.nx ρ O) : Exs X ρ O [] P := λ G => PSs.imp pss_nil λ E σ H ⟨h1,h2,h3⟩ => h3.nx σ ρ O G H (Ext.refl _) h1 h2 h
theorem Q0c (h : Ex X ρ O st { P with nx := λ ρ' O' => Exs X ρ' O' rest P }) : Exs X ρ O (st :: rest) P := λ G =>
 PSs.imp (pss_cons (h G) (u := λ E σ H => ∃ G1 ρ1 O1,SA X.K G1 H O1 /\ EnvR X.K G1 σ ρ1 /\ Exs X ρ1 O1 rest P /\ Conts X.K G1 P E) (λ pins s σ H E I ⟨G1,ρ1,O1,q1,q2,q3,q4⟩ => q3 G1 pins s σ H E I ⟨q1,q2,q4⟩)) λ E σ H ⟨h1,h2,h3⟩ =>
  ⟨h1,h2,⟨λ σ1 ρ1 O1 G1 H1 e1 s1 n1 q1 => ⟨G1,ρ1,O1,s1,n1,q1,h3.ext e1⟩,h3.rt,h3.bk,h3.ct⟩⟩
theorem xs_seq (M : Rho -> Sto -> Prop) (h : Ex X ρ O st { P with nx := M }) (k : ∀ ρ' O',M ρ' O' -> Exs X ρ' O' rest P) : Exs X ρ O (st :: rest) P := Q0c λ G =>
 PS.imp (h G) λ E σ H ⟨h1,h2,h3⟩ => ⟨h1,h2,⟨λ σ1 ρ1 O1 G1 H1 e1 s1 n1 q1 => h3.nx σ1 ρ1 O1 G1 H1 e1 s1 n1 (k _ _ q1),h3.rt,h3.bk,h3.ct⟩⟩
theorem Q0y (h : Ev X ρ O e P.rt) : Ex X ρ O (.Return (some e) pos) P := λ G => PS.imp (ps_ret (h G)) λ E σ H ⟨h1,h2,h3⟩ => ⟨h1,h2,λ v d O' G' H' e1 s1 i1 r1 => h3.rt v d O' G' H' e1 s1 i1 r1⟩
theorem Q0D (h : Ev X ρ O e λ _ O' => P.nx ρ O') (hs : swapsWith e none pos.line X.env = pure false := by rfl) : Ex X ρ O (.Expr e pos) P := λ G => PS.imp (ps_expr (h G) hs) λ E σ H ⟨h1,h2,h3⟩ =>
 ⟨h1,h2,λ v d O' G' H' e1 s1 i1 r1 => h3.nx σ ρ O' G' H' e1 s1 (h2.ext e1) r1⟩
theorem x_if {k : Bool} (hc : EvT X ρ O c k) (h1 : k = true -> Exs X ρ O body P) (h2 : k = false -> Exs X ρ O orelse P) : Ex X ρ O (.If c body orelse pos) P := λ G =>
 PS.imp (ps_if (hc G) (t := λ E σ H => ∃ G1,k = true /\ SA X.K G1 H O /\ EnvR X.K G1 σ ρ /\ Conts X.K G1 P E) (λ pins s σ H E I ⟨G1,z,q⟩ => h1 z G1 pins s σ H E I q)
  (u := λ E σ H => ∃ G1,k = false /\ SA X.K G1 H O /\ EnvR X.K G1 σ ρ /\ Conts X.K G1 P E) (λ pins s σ H E I ⟨G1,z,q⟩ => h2 z G1 pins s σ H E I q)) λ E σ H ⟨q1,q2,q3⟩ =>
  ⟨q1,q2,λ G' H' e1 s1 => by
   cases k with
   | true => exact iteT ⟨G',rfl,s1,q2.ext e1,q3.ext e1⟩
   | false => exact iteF ⟨G',rfl,s1,q2.ext e1,q3.ext e1⟩⟩
def Tg (X : Cx) (tg : Expr) (d : D) (ρ ρ' : Rho) : Prop := ∀ G,PG X tg (λ v σ H Q => Is X.K G d v /\ Same G.g H /\ EnvR X.K G σ ρ /\ ∀ σ',EnvR X.K G σ' ρ' -> Q σ' H)
def Tgs (X : Cx) (tg : List Expr) (ds : List D) (ρ ρ' : Rho) : Prop := ∀ G,PGs X tg (λ vs σ H Q => Iss X.K G ds vs /\ Same G.g H /\ EnvR X.K G σ ρ /\ ∀ σ',EnvR X.K G σ' ρ' -> Q σ' H)
theorem Q0t (i : Nat) (hN : X.N.Nodup) (hi : X.N[i]? = some x := by rfl) (hx : Loc X.env.scope x := by first | exact Or.inl rfl | exact Or.inr rfl) (hf : X.fn x = true \/ X.env.scope.names.lookup x = some .local := by first | exact .inl rfl | exact .inr rfl | assumption) : Tg X (.Name x pos) d ρ (ρ.set i (some d)) := λ G pins s σ H v u Q I r ⟨h1,h2,h3,h4⟩ =>
 pg_name hN hi hx hf pins s σ H v u Q I r (h4 _ (h3.set i h1))
theorem Q1S : Tgs X [] [] ρ ρ := λ G pins s σ H vs us Q I r ⟨h1,h2,h3,h4⟩ => pgs_nil pins s σ H vs us Q I r ⟨by cases h1; rfl,h4 _ h3⟩
theorem Q0w {ρ1 ρ2 : Rho} (h : Tg X e d ρ ρ1) (k : Tgs X es ds ρ1 ρ2) (hs : (assignEach (e :: es) X.env).map (·.2) = assign e X.env :: (assignEach es X.env).map (·.2) := by rfl) : Tgs X (e :: es) (d :: ds) ρ ρ2 := λ G pins s σ H vs us Q I r ⟨h1,h2,h3,h4⟩ => by
 cases h1 with
 | cons i1 i2 =>
  exact pgs_cons (h G) (k G) hs pins s σ H _ us Q I r ⟨_,_,rfl,i1,h2,h3,λ σ' n' => ⟨i2,h2,n',h4⟩⟩
theorem Q2I {ρ1 : Rho} {k : Nat} (h : Tgs X es ds ρ ρ1) (hc : X.calm = true := by rfl) (hn : (assignEach es X.env).length = ds.length := by rfl) (hst : (assignEach es X.env).findIdx? (·.1) = none := by rfl) : Tg X (.Tuple es k pos) (.tup ds) ρ ρ1 := λ G pins s σ H v u Q I r ⟨h1,h2,h3,h4⟩ => by
 cases h1 with
 | tup q1 q2 =>
  exact pg_tup hc (h G) hn hst pins s σ H _ u Q I r ⟨_,_,rfl,Q1D h2 q1,by rw [<- q2.length],q2,h2,h3,h4⟩
theorem Q0J (i : Nat) (he : Ev X ρ O e λ d O' => P.nx (ρ.set i (some d)) O') (hN : X.N.Nodup) (hi : X.N[i]? = some x := by rfl) (hx : Loc X.env.scope x := by first | exact Or.inl rfl | exact Or.inr rfl) {p : Pos}
  (hs : swapsWith e (some (.Name x p)) pos.line X.env = pure false := by rfl) (hf : X.fn x = true \/ X.env.scope.names.lookup x = some .local := by first | exact .inl rfl | exact .inr rfl | assumption) : Ex X ρ O (.Assign [.Name x p] e pos) P := λ G =>
 PS.imp (ps_set hN hi hx (he G) hs hf) λ E σ H ⟨h1,h2,h3⟩ => ⟨h1,h2,λ v d O' G' H' e1 s1 i1 r1 => h3.nx _ _ O' G' H' e1 s1 ((h2.ext e1).set i i1) r1⟩
theorem x_append {q : Nat} {xs : List D} {apos cpos : Pos} (ho : EvP X ρ O a (.ptr q)) (hq : O[q]? = some (some (.lst xs))) (he : EvP X ρ O e d) (hz : xs.length < sizeLine) (h : P.nx ρ (O.set q (some (.lst (xs ++ [d])))))
  (hbase : attributeBase a ("append" : Str) X.env (eval a X.env) = eval a X.env := by rfl) (hline : (apos.endLine == cpos.line) = true := by rfl) (hst : starEach [e] X.env = [(false,eval e X.env)] := by rfl)
  (hsw : swapsWith (.Call (.Attribute a ("append" : Str) apos) [e] [] cpos) none pos.line X.env = pure false := by rfl) : Ex X ρ O (.Expr (.Call (.Attribute a ("append" : Str) apos) [e] [] cpos) pos) P := λ G =>
 PS.imp (ps_expr (pe_bm PySem.F.plainAttrs_list PySem.F.slot_list_append PySem.F.type_list_append mt_append (ho G)
  (Q4C (te := λ σ H Q => ∃ G1,SA X.K G1 H O /\ EnvR X.K G1 σ ρ /\ ∀ v G' H',Ext G1 G' -> SA X.K G' H' O -> Is X.K G' d v -> Q v H') (λ pins s σ H Q I ⟨G1,q⟩ => he G1 pins s σ H Q I q) pa_nil hst) hbase
  (by rw [hst]; rfl) hline hst (by rfl)) hsw) λ E σ H ⟨q1,q2,q3⟩ => ⟨q1,q2,λ v G1 H1 e1 s1 i1 => by
   cases i1 with
   | ptr _ ha =>
   obtain ⟨a1,g0,g1,vs,g2,g3⟩ := s1.mt q _ hq
   obtain rfl := Option.some.inj (ha.symm.trans g0)
   refine ⟨.inl ⟨rfl,vs,SqL.of g2⟩,G1,s1,q2.ext e1,λ w G2 H2 e2 s2 i2 => ?_⟩
   obtain ⟨a2,g7,g4,us,g5,g6⟩ := s2.mt q _ hq
   obtain rfl := Option.some.inj ((e2.at g0).symm.trans g7)
   refine ⟨_,us,w,rfl,rfl,g5,by rw [<- g6.length]; exact hz,?_⟩
   exact q3.nx σ ρ _ G2 _ (e1.trans e2) (s2.put (m' := .lst (xs ++ [d])) hq g7 ⟨_,Q0z,g6.append (.cons i2 .nil)⟩) (q2.ext (e1.trans e2)) h⟩
theorem x_while {body : List Stmt} (inv : Rho -> Sto -> Prop) (μ : Rho -> Sto -> Nat) (h0 : inv ρ O)
  (hs : ∀ ρ O,inv ρ O -> ∃ k,EvT X ρ O c k /\ (k = true -> Exs X ρ O body { P with nx := λ ρ' O' => inv ρ' O' /\ μ ρ' O' < μ ρ O,ct := λ ρ' O' => inv ρ' O' /\ μ ρ' O' < μ ρ O,bk := P.nx }) /\ (k = false -> P.nx ρ O))
  (hp : PassesOwn (model X.prog X.w) X.A X.env X.xe := by exact PassesOwn.never) : Ex X ρ O (.While c body [] pos) P := λ G =>
 PS.imp (ps_while hp (tc := λ σ H Q => ∃ G1 ρ1 O1 k,SA X.K G1 H O1 /\ EnvR X.K G1 σ ρ1 /\ EvT X ρ1 O1 c k /\ ∀ G' H',Ext G1 G' -> SA X.K G' H' O1 -> Q k H') (λ pins s σ H Q I ⟨G1,ρ1,O1,k,q1,q2,q3,q4⟩ => q3 G1 pins s σ H Q I ⟨q1,q2,q4⟩)
  (tb := λ E σ H => ∃ G1 ρ1 O1 P1,SA X.K G1 H O1 /\ EnvR X.K G1 σ ρ1 /\ Exs X ρ1 O1 body P1 /\ Conts X.K G1 P1 E) (λ pins s σ H E I ⟨G1,ρ1,O1,P1,q1,q2,q3,q4⟩ => q3 G1 pins s σ H E I ⟨q1,q2,q4⟩)) λ E σ H ⟨q1,q2,q3⟩ => by
  refine ⟨λ m σ H => ∃ G1 ρ1 O1,Ext G G1 /\ SA X.K G1 H O1 /\ EnvR X.K G1 σ ρ1 /\ inv ρ1 O1 /\ m = μ ρ1 O1,⟨_,G,ρ,O,Ext.refl _,q1,q2,h0,rfl⟩,?_⟩
  rintro m σ1 H1 ⟨G1,ρ1,O1,e1,s1,n1,v1,rfl⟩
  obtain ⟨k,t1,t2,t3⟩ := hs ρ1 O1 v1
  refine ⟨G1,ρ1,O1,k,s1,n1,t1,λ G2 H2 e2 s2 => ?_⟩
  cases k with
  | true =>
   refine iteT ⟨λ σ' H' => ∃ G3 ρ3 O3,Ext G G3 /\ SA X.K G3 H' O3 /\ EnvR X.K G3 σ' ρ3 /\ inv ρ3 O3 /\ μ ρ3 O3 < μ ρ1 O1,λ σ' H' ⟨G3,ρ3,O3,e3,s3,n3,v3,l3⟩ => ⟨_,l3,G3,ρ3,O3,e3,s3,n3,v3,rfl⟩,?_⟩
   have e12 := e1.trans e2
   refine ⟨G2,ρ1,O1,_,s2,n1.ext e2,t2 rfl,⟨λ σ' ρ' O' G3 H3 e3 s3 n3 q => ⟨G3,ρ',O',e12.trans e3,s3,n3,q⟩,λ v d O' G3 H3 e3 s3 i3 r => q3.rt v d O' G3 H3 (e12.trans e3) s3 i3 r,λ σ' ρ' O' G3 H3 e3 s3 n3 q => q3.nx σ' ρ' O' G3 H3 (e12.trans e3) s3 n3 q,
    λ σ' ρ' O' G3 H3 e3 s3 n3 q => ⟨G3,ρ',O',e12.trans e3,s3,n3,q⟩⟩⟩
  | false => exact iteF (q3.nx σ1 ρ1 O1 G2 H2 (e1.trans e2) s2 (n1.ext e2) (t3 rfl))
structure Q3b (K : PySem.W.Frag) (G : Wd) (J : It) (xs : List D) : Prop where
 go : ∀ i H,Same G.g H -> i < xs.length -> J.go i H
 stop : ∀ i H,Same G.g H -> xs.length <= i -> J.stop i H
 yld : ∀ i v H H' G2 O2,Ext G G2 -> SA K G2 H O2 -> J.yld i H v H' -> i < xs.length -> ∃ x G3,xs[i]? = some x /\ Ext G2 G3 /\ SA K G3 H' O2 /\ Is K G3 x v
def EvI (X : Cx) (ρ : Rho) (O : Sto) (tg iter : Expr) (xs : List D) : Prop :=
 ∀ G,PI X tg iter (λ σ H R => SA X.K G H O /\ EnvR X.K G σ ρ /\ ∀ J G' H',Ext G G' -> SA X.K G' H' O -> Q3b X.K G' J xs -> R J H')
theorem _root_.L2.PI.imp {X : Cx} {tg iter : Expr} {t u : TI} (h : PI X tg iter t) (k : ∀ σ H R,u σ H R -> t σ H R) : PI X tg iter u := λ pins s σ H R I q => h pins s σ H R I (k _ _ _ q)
theorem itl_yields {K : PySem.W.Frag} {G : Wd} {q : Addr} {vs : List V} {xs : List D} (h1 : SqL K G.g q vs) (r : Iss K G xs vs) : Q3b K G (Itl K q) xs where
 go := λ i H e hi => by
  obtain ⟨v,hv,_⟩ := r.get (i := i) (d := xs[i]) (by simp [hi])
  exact ⟨vs,v,e.seq h1,hv⟩
 stop := λ i H e hi => ⟨vs,e.seq h1,by rw [<- r.length]; exact hi⟩
 yld := λ i v H H' G2 O2 e s y hi => by
  obtain ⟨rfl,y⟩ := y
  obtain ⟨x,hx,ix⟩ := r.getV (y vs ((e.g.trans s.sub).seq h1))
  exact ⟨x,G2,hx,Ext.refl _,s,ix.ext e⟩
theorem itt_yields {K : PySem.W.Frag} {G : Wd} {q : Addr} {vs : List V} {xs : List D} (h1 : SqT K G.g q vs) (r : Iss K G xs vs) : Q3b K G (Itt K q) xs where
 go := λ i H e hi => by
  obtain ⟨v,hv,_⟩ := r.get (i := i) (d := xs[i]) (by simp [hi])
  exact ⟨vs,v,Q1D e h1,hv⟩
 stop := λ i H e hi => ⟨vs,Q1D e h1,by rw [<- r.length]; exact hi⟩
 yld := λ i v H H' G2 O2 e s y hi => by
  obtain ⟨rfl,y⟩ := y
  obtain ⟨x,hx,ix⟩ := r.getV (y vs (Q1D (e.g.trans s.sub) h1))
  exact ⟨x,G2,hx,Ext.refl _,s,ix.ext e⟩
theorem ei_lst {tg : Expr} {xs : List D} (h : EvP X ρ O e (.lst xs)) : EvI X ρ O tg e xs := λ G => PI.imp (pi_list (h G)) λ σ H R ⟨h1,h2,h3⟩ => ⟨h1,h2,λ v G1 H1 e1 s1 i1 => by
 cases i1 with
 | lst q r => exact ⟨_,rfl,⟨_,SqL.of (s1.sub _ _ q)⟩,h3 _ G1 H1 e1 s1 (itl_yields (SqL.of q) r)⟩⟩
theorem ei_scr {tg : Expr} {xs : List D} (h : EvP X ρ O e (.scr xs)) : EvI X ρ O tg e xs := λ G => PI.imp (pi_list (h G)) λ σ H R ⟨h1,h2,h3⟩ => ⟨h1,h2,λ v G1 H1 e1 s1 i1 => by
 cases i1 with
 | scr q r => exact ⟨_,rfl,⟨_,s1.sub.seq q⟩,h3 _ G1 H1 e1 s1 (itl_yields q r)⟩⟩
theorem ei_tup {tg : Expr} {xs : List D} (h : EvP X ρ O e (.tup xs)) : EvI X ρ O tg e xs := λ G => PI.imp (pi_tup (h G)) λ σ H R ⟨h1,h2,h3⟩ => ⟨h1,h2,λ v G1 H1 e1 s1 i1 => by
 cases i1 with
 | tup q r => exact ⟨_,rfl,⟨_,Q1D s1.sub q⟩,h3 _ G1 H1 e1 s1 (itt_yields q r)⟩⟩
def Q4j (lo : Int) (n : Nat) : List D := (List.range n).map λ i => .int (lo + (i : Nat))
theorem Q1A {lo : Int} {n : Nat} : (Q4j lo n).length = n := by simp [Q4j]
theorem rangeD_get {lo : Int} {n i : Nat} (h : i < n) : (Q4j lo n)[i]? = some (.int (lo + (i : Nat))) := by simp [Q4j,h]
theorem rangeD_at {lo : Int} {n i : Nat} {x : D} (h : (Q4j lo n)[i]? = some x) : i < n /\ x = .int (lo + (i : Nat)) := by
 have hi : i < n := by
  have := (List.getElem?_eq_some_iff.mp h).1
  rw [Q1A] at this
  exact this
 rw [rangeD_get hi] at h
 exact ⟨hi,(Option.some.inj h).symm⟩
theorem itr_yields {K : PySem.W.Frag} {G : Wd} {lo : Int} {n : Nat} : Q3b K G (Itr lo n) (Q4j lo n) where
 go := λ i H _ hi => by rw [Q1A] at hi; exact hi
 stop := λ i H _ hi => by rw [Q1A] at hi; exact hi
 yld := λ i v H H' G2 O2 e s y hi => by
  obtain ⟨rfl,rfl⟩ := y
  rw [Q1A] at hi
  exact ⟨_,G2,rangeD_get hi,Ext.refl _,s,.int _⟩
theorem Q3p {tg : Expr} {n : Int} (h : EvP X ρ O e (.int n)) (hm : X.mg "range" = none) (h1 : -(2 ^ 62) <= n) (h2 : n < 2 ^ 62) (hg : Gl X "range" := by rfl) (hs : starEach [e] X.env = [(false,eval e X.env)] := by rfl) : EvI X ρ O tg (.Call (.Name "range" p) [e] [] pos) (Q4j 0 n.toNat) := λ G =>
 PI.imp (pi_range1 hg hm (Q0b h Q0e hs G) hs) λ σ H R ⟨q1,q2,q3⟩ => ⟨q1,q2,λ vs G1 H1 e1 s1 i1 => by
  cases i1 with | cons i r => cases r; cases i; exact ⟨n,rfl,h1,h2,q3 _ G1 H1 e1 s1 itr_yields⟩⟩
theorem ei_range2 {tg : Expr} {m n : Int} (ha : EvP X ρ O a (.int m)) (hb : EvP X ρ O b (.int n)) (hm : X.mg "range" = none) (h1 : -(2 ^ 62) <= m) (h2 : m < 2 ^ 62) (h3 : -(2 ^ 62) <= n) (h4 : n < 2 ^ 62) (hg : Gl X "range" := by rfl)
  (hs : starEach [a,b] X.env = [(false,eval a X.env),(false,eval b X.env)] := by rfl) (hs2 : starEach [b] X.env = [(false,eval b X.env)] := by rfl) : EvI X ρ O tg (.Call (.Name "range" p) [a,b] [] pos) (Q4j m (n - m).toNat) := λ G =>
 PI.imp (pi_range2 hg hm (Q0b ha (Q0b hb Q0e hs2) (by rw [hs,hs2]) G) hs hs2) λ σ H R ⟨q1,q2,q3⟩ => ⟨q1,q2,λ vs G1 H1 e1 s1 i1 => by
  cases i1 with | cons i r => cases r with | cons i' r => cases r; cases i; cases i'; exact ⟨m,n,rfl,⟨h1,h2,h3,h4⟩,q3 _ G1 H1 e1 s1 itr_yields⟩⟩
theorem Q4O {tg iter : Expr} {body : List Stmt} {xs : List D} (hi : EvI X ρ O tg iter xs) (inv : Nat -> Rho -> Sto -> Prop) (h0 : inv 0 ρ O)
  (hs : ∀ i x ρ' O',xs[i]? = some x -> inv i ρ' O' -> ∃ ρ1,Tg X tg x ρ' ρ1 /\ Exs X ρ1 O' body { P with nx := inv (i + 1),ct := inv (i + 1),bk := P.nx }) (hd : ∀ ρ' O',inv xs.length ρ' O' -> P.nx ρ' O')
  (hp : PassesOwn (model X.prog X.w) X.A X.env X.xe := by exact PassesOwn.never) (hc : X.calm = true := by rfl) (hf : ∀ x,foldedSetIterable iter X.env x = pure x := by intro _; rfl) : Ex X ρ O (.For tg iter body [] pos) P := λ G =>
 PS.imp (ps_for hp hc (hi G) (g := λ v σ H Q => ∃ G1 ρ1 ρ2 x,Tg X tg x ρ1 ρ2 /\ Is X.K G1 x v /\ Same G1.g H /\ EnvR X.K G1 σ ρ1 /\ ∀ σ',EnvR X.K G1 σ' ρ2 -> Q σ' H) (λ pins s σ H v u Q I r ⟨G1,ρ1,ρ2,x,q,q'⟩ => q G1 pins s σ H v u Q I r q')
  (tb := λ E σ H => ∃ G1 ρ1 O1 P1,SA X.K G1 H O1 /\ EnvR X.K G1 σ ρ1 /\ Exs X ρ1 O1 body P1 /\ Conts X.K G1 P1 E) (λ pins s σ H E I ⟨G1,ρ1,O1,P1,q1,q2,q3,q4⟩ => q3 G1 pins s σ H E I ⟨q1,q2,q4⟩) hf) λ E σ H ⟨q1,q2,q3⟩ => by
  refine ⟨q1,q2,λ J G1 H1 e1 s1 Y => ?_⟩
  refine ⟨λ i m σ H => ∃ G2 ρ2 O2,Ext G1 G2 /\ SA X.K G2 H O2 /\ EnvR X.K G2 σ ρ2 /\ inv i ρ2 O2 /\ i <= xs.length /\ m = xs.length - i,⟨_,G1,ρ,O,Ext.refl _,s1,q2.ext e1,h0,Nat.zero_le _,rfl⟩,?_⟩
  rintro i m σ2 H2 ⟨G2,ρ2,O2,e2,s2,n2,v2,l2,rfl⟩
  by_cases hlt : i < xs.length
  ·refine .inr ⟨Y.go i H2 (e2.g.trans s2.sub) hlt,λ σ' H' => ∃ G3 ρ3 O3,Ext G1 G3 /\ SA X.K G3 H' O3 /\ EnvR X.K G3 σ' ρ3 /\ inv (i + 1) ρ3 O3,λ σ' H' ⟨G3,ρ3,O3,e3,s3,n3,v3⟩ => ⟨xs.length - (i + 1),by omega,G3,ρ3,O3,e3,s3,n3,v3,hlt,rfl⟩,λ v H3 y => ?_⟩
   obtain ⟨x,G3,hx,e3,s3,i3⟩ := Y.yld i v H2 H3 G2 O2 e2 s2 y hlt
   obtain ⟨ρ3,t3,b3⟩ := hs i x ρ2 O2 hx v2
   have e13 : Ext G1 G3 := e2.trans e3
   refine ⟨G3,ρ2,ρ3,x,t3,i3,s3.sub,n2.ext e3,λ σ' n' => ⟨G3,ρ3,O2,_,s3,n',b3,⟨λ σ4 ρ4 O4 G4 H4 e4 s4 n4 q => ⟨G4,ρ4,O4,e13.trans e4,s4,n4,q⟩,λ v d O4 G4 H4 e4 s4 i4 r => q3.rt v d O4 G4 H4 (e1.trans (e13.trans e4)) s4 i4 r,
    λ σ4 ρ4 O4 G4 H4 e4 s4 n4 q => q3.nx σ4 ρ4 O4 G4 H4 (e1.trans (e13.trans e4)) s4 n4 q,λ σ4 ρ4 O4 G4 H4 e4 s4 n4 q => ⟨G4,ρ4,O4,e13.trans e4,s4,n4,q⟩⟩⟩⟩
  ·have ei : i = xs.length := by omega
   subst ei
   exact .inl ⟨Y.stop _ H2 (e2.g.trans s2.sub) (Nat.le_refl _),q3.nx σ2 ρ2 O2 G2 H2 (e1.trans e2) s2 n2 (hd _ _ v2)⟩
end
def startD (N : List Str) (ds : List D) : Rho := ds.map some ++ List.replicate (N.length - ds.length) none
section
variable {P : Program} {w : World} {K : PySem.W.Frag} {mg : Str -> Option Value} {base : Heap}
theorem start_env {G : Wd} {N : List Str} {ds : List D} {vs : List V} (r : Iss K G ds vs) : EnvR K G (L2.start N vs) (startD N ds) := by
 refine ⟨by unfold L2.start startD; simp [r.length],λ i d h => ?_⟩
 unfold startD at h
 by_cases hi : i < ds.length
 ·rw [List.getElem?_append_left (by simpa using hi),List.getElem?_map] at h
  cases q : ds[i]? with
  | none => rw [q] at h; cases h
  | some d' =>
   rw [q] at h; cases h
   obtain ⟨v,hv,iv⟩ := r.get q
   refine ⟨v,?_,iv⟩
   unfold L2.start
   rw [List.getElem?_append_left (by rw [List.length_map,<- r.length]; exact hi),List.getElem?_map,hv]
   rfl
 ·rw [List.getElem?_append_right (by simpa using hi),List.getElem?_replicate] at h
  split at h <;> cases h
theorem okF {x qual : Str} {st : Stmt} {f : Addr} {fd : FuncData} {N ps : List Str} {k : Nat} {sp : SpD} (F : Fun K x qual st f fd) (S : Q0n N ps (Q0d st))
  (len : ∀ ds O R,sp ds O R -> ds.length = ps.length)
  (hbody : ∀ (cdv : Value) (A : Around) (outer : List Env) (s : Shared) (H : Hp) (E : XK) (ds : List D) (O : Sto) (R : D -> Sto -> Prop),Room k (A.deeper (envOfC qual (Q0d st) s.heap.objs.size f cdv)) -> sp ds O R ->
   Exs (cxOf CX0 P w K mg base N qual (Q0d st) f cdv A outer s H E).nox (startD N ds) O (Q0k st) { nx := λ _ O' => R .non O',rt := R }) : FnOk P w K mg base CX0 (k + 1) f fd ps (toSp K sp) := by
 refine F.ok S (λ vs H Q E h => ?_) (λ cdv A outer s H vs Q E hr h => ?_)
 ·obtain ⟨G,O,ds,R,h1,h2,h3,h4⟩ := h
  rw [<- h2.length]
  exact len _ _ _ h3
 ·obtain ⟨G,O,ds,R,h1,h2,h3,h4⟩ := h
  refine ⟨_,hbody cdv A outer s H E ds O R hr h3 G,h1,start_env h2,⟨λ σ ρ O' G' H' e1 s1 n1 q => h4 _ _ O' G' H' e1 s1 .non q,λ v d O' G' H' e1 s1 i1 q => h4 v d O' G' H' e1 s1 i1 q,λ σ ρ O' G' H' e1 s1 n1 q => q.elim,λ σ ρ O' G' H' e1 s1 n1 q => q.elim⟩⟩
theorem okD {x qual : Str} {st : Stmt} {f : Addr} {fd : FuncData} {N ps : List Str} {k : Nat} {sp : SpD} (F : Fun K x qual st f fd) (S : Q0n N ps (Q0d st)) (hm : mg x = some (.ref f)) (hb : Q0C K fd ps [])
  (len : ∀ ds O R,sp ds O R -> ds.length = ps.length)
  (hbody : ∀ (cdv : Value) (A : Around) (outer : List Env) (s : Shared) (H : Hp) (E : XK) (ds : List D) (O : Sto) (R : D -> Sto -> Prop),Room k (A.deeper (envOfC qual (Q0d st) s.heap.objs.size f cdv)) -> sp ds O R ->
   Exs (cxOf CX0 P w K mg base N qual (Q0d st) f cdv A outer s H E).nox (startD N ds) O (Q0k st) { nx := λ _ O' => R .non O',rt := R }) : Q0m P w K mg base (k + 1) x sp :=
 ⟨f,fd,ps,okF F S len hbody,hm,F.kp,hb⟩
end
def spLaw : SpD := λ ds O R => ∃ ns : List Int,ds = [.scr (ns.map D.int)] /\ ns.length <= 63 /\ R (.bl true) O
theorem law_start {K : PySem.W.Frag} {H : Hp} {a : Addr} {ns : List Int} (hl : ns.length <= 63) (hS : SqL K H a (ns.map V.int)) : toSp K spLaw [.ref a] H (λ v _ => v = .bl true) λ _ _ _ => False :=
 ⟨⟨H,[]⟩,[],[.scr (ns.map D.int)],λ d _ => d = .bl true,⟨Same.refl _,rfl,List.nodup_nil,λ a h => absurd h List.not_mem_nil,λ n m h => by cases h⟩,.cons (.scr hS Iss.ints) .nil,⟨ns,rfl,hl,rfl⟩,λ v d O' G' H' _ _ i r => by subst r; cases i; rfl⟩
section
variable {X : Cx} {ρ : Rho} {O : Sto} {e a b c : Expr} {es : List Expr} {d da db : D} {ds : List D} {R : D -> Sto -> Prop} {pos p : Pos} {x : Str}
theorem Q2X {U : String} (hm : X.mg x = none) (hg : Gl X x := by rfl) (hv : bootBuiltins x = some (.type U) := by first | rfl | decide +kernel) (hn : x ≠ "__name__" := by decide) (hd : (x == ("__debug__" : Str)) = false := by decide) : EvP X ρ O (.Name x p) (.ty U) := λ G =>
 PE.imp (pe_bltn (v := .ty U) hg hm hv rfl hn hd) λ σ H Q ⟨h1,h2,h3⟩ => h3 _ G H (Ext.refl _) h1 (.ty U)
def tyD : D -> Option String
 | .non => some "NoneType" | .bl _ => some "bool" | .int _ => some "int" | .str _ => some "str" | .tup _ => some "tuple" | .lst _ => some "list" | .scr _ => some "list" | .ptr _ => none | .ty _ => none | .fn _ => none | .dct _ _ => some "dict"
theorem c_isi {T U : String} {k : Bool} (ht : tyD d = some T) (hk : ∀ K,PySem.W.kitOne K (.type T) (.type U) = some k) : Q2w X O (.builtin "isinstance") [d,.ty U] (.bl k) := λ G pins s σ H xs us Q I r ⟨h1,h2,h3⟩ => by
 cases h2 with
 | cons i r2 =>
  cases r2 with
  | cons i' r3 =>
   cases r3
   cases i'
   obtain ⟨u,u',rfl,r1,r2⟩ := vals2 r
   cases r2
   have fin : ∀ tk,EP X pins σ Q (.bool k) { s with toks := tk } := λ tk => ⟨.bl k,H,I.tok tk,rfl,h3 _ G H (Ext.refl _) h1 (.bl k)⟩
   cases i with
   | non => cases ht; cases r1; exact PySem.W.kia_one PySem.W.kitx_none I.kIn True.intro (hk _) (λ z => nomatch z) fin
   | bl y => cases ht; cases r1; exact PySem.W.kia_one PySem.W.kitx_bool I.kIn True.intro (hk _) (λ z => nomatch z) fin
   | int i => cases ht; obtain ⟨t,rfl⟩ := r1; exact PySem.W.kia_one PySem.W.kitx_int I.kIn True.intro (hk _) (λ z => nomatch z) fin
   | str y => cases ht; obtain ⟨t,rfl⟩ := r1; exact PySem.W.kia_one PySem.W.kitx_str I.kIn True.intro (hk _) (λ z => nomatch z) fin
   | tup q1 q2 =>
    cases ht; cases r1
    obtain ⟨its,_,⟨o,g1,g2,_⟩,_⟩ := I.tuple (Q1D h1.sub q1)
    exact PySem.W.kia_one PySem.W.kitx_tuple I.kIn ⟨o,g1,g2⟩ (hk _) (λ z => nomatch z) fin
   | lst q1 q2 =>
    cases ht; cases r1
    obtain ⟨its,_,⟨o,n,g1,g2,_⟩,_⟩ := I.list (SqL.of (h1.sub _ _ q1))
    exact PySem.W.kia_one PySem.W.kitx_list I.kIn ⟨o,g1,g2⟩ (hk _) (λ z => nomatch z) fin
   | scr q1 q2 =>
    cases ht; cases r1
    obtain ⟨its,_,⟨o,n,g1,g2,_⟩,_⟩ := I.list (h1.sub.seq q1)
    exact PySem.W.kia_one PySem.W.kitx_list I.kIn ⟨o,g1,g2⟩ (hk _) (λ z => nomatch z) fin
   | ptr _ _ => cases ht
   | ty _ => cases ht
   | fn _ => cases ht
   | dct q1 _ q2 =>
    cases ht; cases r1
    obtain ⟨_,_,_,_,o,_,_,g1,g2,_⟩ := Rd.ok (.inr ⟨_,h1.sub _ _ q1⟩) I.hok
    exact PySem.W.kia_one PySem.W.kitx_dict I.kIn ⟨o,g1,g2.1⟩ (hk _) (λ z => nomatch z) fin
def subTy (T U : String) : Bool := T == U || (T == "bool" && U == "int")
theorem kit_all : ∀ T ∈ ["NoneType","bool","int","str","tuple","list","dict"],∀ U ∈ ["int","bool","tuple","str","dict","list"],∀ K,PySem.W.kitOne K (.type T) (.type U) = some (subTy T U) := by
 intro T hT U hU K
 simp only [List.mem_cons,List.not_mem_nil,or_false] at hT hU
 rcases hT with rfl | rfl | rfl | rfl | rfl | rfl | rfl <;> rcases hU with rfl | rfl | rfl | rfl | rfl | rfl <;> kernel_rfl
def okTy : D -> Bool
 | .ptr _ => false | .ty _ => false | .fn _ => false | _ => true
def isiD (d : D) (U : String) : Bool := match tyD d with
 | some T => subTy T U
 | none => false
theorem c_isiU {U : String} (h : okTy d = true) (hU : U ∈ ["int","bool","tuple","str","dict","list"]) : Q2w X O (.builtin "isinstance") [d,.ty U] (.bl (isiD d U)) := by
 cases d with
 | ptr _ => cases h
 | ty _ => cases h
 | fn _ => cases h
 | _ => exact c_isi (T := _) rfl (kit_all _ (by decide) U hU)
theorem c_isi_int (h : okTy d = true) : Q2w X O (.builtin "isinstance") [d,.ty "int"] (.bl (isiD d "int")) := c_isiU h (by decide)
theorem c_isi_bool (h : okTy d = true) : Q2w X O (.builtin "isinstance") [d,.ty "bool"] (.bl (isiD d "bool")) := c_isiU h (by decide)
theorem Q2v (h : okTy d = true) : Q2w X O (.builtin "isinstance") [d,.ty "tuple"] (.bl (isiD d "tuple")) := c_isiU h (by decide)
end
def Q2e (env : Env) : List (Str × NameKind) -> List (Str × Addr) -> List (Str × Addr)
 | [],cs => cs
 | (n,k) :: r,cs => if k == .free then Q2e env r ((n,(env.cells.lookup n).getD 0) :: cs) else Q2e env r cs
theorem clos_run {env : Env} (f : Str × NameKind -> List (Str × Addr) -> Sem (ForInStep (List (Str × Addr))))
  (hf : ∀ n k cs,f (n,k) cs = if (k == NameKind.free) = true then (do let a <- cellOf env n; pure (.yield ((n,a) :: cs))) else pure (.yield cs)) :
  ∀ (names : List (Str × NameKind)) (cs : List (Str × Addr)),(∀ y ∈ names,y.2 = .free -> ∃ a,env.cells.lookup y.1 = some a) -> forIn names cs f = pure (Q2e env names cs)
 | [],cs,_ => by rw [List.forIn_nil]; rfl
 | (n,k) :: r,cs,h => by
  rw [List.forIn_cons,hf]
  have hr : ∀ y ∈ r,y.2 = .free -> ∃ a,env.cells.lookup y.1 = some a := λ y hy => h y (List.mem_cons_of_mem _ hy)
  unfold Q2e
  by_cases hk : (k == NameKind.free) = true
  ·rw [if_pos hk,if_pos hk]
   obtain ⟨a,e⟩ := h (n,k) List.mem_cons_self (by simpa using hk)
   have e' : cellOf env n = pure a := by unfold cellOf; rw [e]
   rw [e',e]
   simp only [pure_bind,Option.getD_some]
   exact clos_run f hf r _ hr
  ·rw [if_neg hk,if_neg hk]
   simp only [pure_bind]
   exact clos_run f hf r _ hr
theorem clos_eq {env : Env} {scope : Scope} (h : ∀ y ∈ scope.names,y.2 = .free -> ∃ a,env.cells.lookup y.1 = some a) : closureFor scope env = pure (Q2e env scope.names []) := by
 have e := clos_run (env := env) (λ (x : Str × NameKind) (cs : List (Str × Addr)) => if (x.2 == NameKind.free) = true then (do let a <- cellOf env x.1; pure (.yield ((x.1,a) :: cs))) else pure (.yield cs)) (λ n k cs => rfl) scope.names [] h
 unfold closureFor
 exact (congrArg (λ z => z >>= λ q => pure q) e).trans (by simp)
theorem clos_of {env : Env} {x : Str} {c : Addr} : ∀ (names : List (Str × NameKind)) (cs : List (Str × Addr)),(∀ y ∈ names,y.2 = .free -> ∃ a,env.cells.lookup y.1 = some a) ->
  (Q2e env names cs).lookup x = some c -> cs.lookup x = some c \/ env.cells.lookup x = some c
 | [],cs,_,h => .inl h
 | (n,k) :: r,cs,hh,h => by
  have hr : ∀ y ∈ r,y.2 = .free -> ∃ a,env.cells.lookup y.1 = some a := λ y hy => hh y (List.mem_cons_of_mem _ hy)
  unfold Q2e at h
  by_cases hk : (k == NameKind.free) = true
  ·rw [if_pos hk] at h
   obtain ⟨a,e⟩ := hh (n,k) List.mem_cons_self (by simpa using hk)
   rcases clos_of r _ hr h with q | q
   ·rw [e,Option.getD_some,List.lookup_cons] at q
    cases hx : x == n with
    | true =>
     rw [hx] at q
     have : x = n := by simpa using hx
     subst this
     exact .inr (by cases q; exact e)
    | false => rw [hx] at q; exact .inl q
   ·exact .inr q
  ·rw [if_neg hk] at h
   exact clos_of r cs hr h
theorem Q4p {env : Env} {x : Str} : ∀ (names : List (Str × NameKind)) (cs : List (Str × Addr)),names.lookup x = some .free \/ (cs.lookup x).isSome = true -> ((Q2e env names cs).lookup x).isSome = true
 | [],cs,h => h.elim (λ e => by cases e) id
 | (n,k) :: r,cs,h => by
  unfold Q2e
  by_cases hk : (k == NameKind.free) = true
  ·rw [if_pos hk]
   refine Q4p r _ ?_
   cases hx : x == n with
   | true => right; rw [List.lookup_cons,hx]; rfl
   | false =>
    rw [List.lookup_cons,hx] at h
    rw [List.lookup_cons,hx]
    exact h
  ·rw [if_neg hk]
   refine Q4p r _ ?_
   cases hx : x == n with
   | true =>
    rw [List.lookup_cons,hx] at h
    rcases h with h | h
    ·cases h; exact absurd rfl hk
    ·exact .inr h
   | false => rw [List.lookup_cons,hx] at h; exact h
theorem cf_out {x : Str} : ∀ (names : List (Str × NameKind)) (n : Nat) (acc : List (Str × Addr)),(∀ y ∈ names,y.1 = x -> y.2 ≠ .cell) -> (cellsFrom n names acc).lookup x = acc.lookup x
 | [],_,_,_ => rfl
 | (y,k) :: r,n,acc,h => by
  have hr : ∀ z ∈ r,z.1 = x -> z.2 ≠ .cell := λ z hz => h z (List.mem_cons_of_mem _ hz)
  unfold cellsFrom
  by_cases hk : (k == NameKind.cell) = true
  ·rw [if_pos hk,cf_out r _ _ hr,List.lookup_cons]
   have : y ≠ x := λ e => h (y,k) List.mem_cons_self e (by simpa using hk)
   rw [show (x == y) = false from by simpa using Ne.symm this]
  ·rw [if_neg hk]
   exact cf_out r _ _ hr
theorem cf_cell {x : Str} {c : Addr} : ∀ (names : List (Str × NameKind)) (h : Heap) (acc : List (Str × Addr)),(∀ y b,acc.lookup y = some b -> ∃ v,h.IsCell b v) -> (cellsFrom h.objs.size names acc).lookup x = some c ->
  (∃ v,(pushCells h names).IsCell c v) /\ (acc.lookup x = some c \/ h.objs.size <= c)
 | [],h,acc,hc,e => ⟨hc _ _ e,.inl e⟩
 | (y,k) :: r,h,acc,hc,e => by
  unfold cellsFrom at e
  unfold pushCells
  by_cases hk : (k == NameKind.cell) = true
  ·rw [if_pos hk] at e ⊢
   have hz : (h.push { cls := .type "cell",data := .cell none }).objs.size = h.objs.size + 1 := Heap.size_push ..
   rw [<- hz] at e
   obtain ⟨q1,q2⟩ := cf_cell r (h.push { cls := .type "cell",data := .cell none }) ((y,h.objs.size) :: acc) (λ z b q => by
    rw [List.lookup_cons] at q
    cases hx : z == y with
    | true => rw [hx] at q; cases q; exact ⟨none,_,Heap.get?_push_size _ rfl,rfl⟩
    | false =>
     rw [hx] at q
     obtain ⟨v,o,q1,q2⟩ := hc z b q
     exact ⟨v,o,Heap.get?_push_of_some _ q1,q2⟩) e
   refine ⟨q1,?_⟩
   rcases q2 with q2 | q2
   ·rw [List.lookup_cons] at q2
    cases hx : x == y with
    | true => rw [hx] at q2; cases q2; exact .inr (Nat.le_refl _)
    | false => rw [hx] at q2; exact .inl q2
   ·exact .inr (by rw [hz] at q2; omega)
  ·rw [if_neg hk] at e ⊢
   exact cf_cell r h acc hc e
theorem cf_inj : ∀ (names : List (Str × NameKind)) (n : Nat) (acc : List (Str × Addr)),(∀ x y c,acc.lookup x = some c -> acc.lookup y = some c -> x = y) -> (∀ x c,acc.lookup x = some c -> c < n) ->
  ∀ x y c,(cellsFrom n names acc).lookup x = some c -> (cellsFrom n names acc).lookup y = some c -> x = y
 | [],_,_,hi,_ => hi
 | (z,k) :: r,n,acc,hi,hl => by
  unfold cellsFrom
  by_cases hk : (k == NameKind.cell) = true
  ·rw [if_pos hk]
   refine cf_inj r (n + 1) ((z,n) :: acc) (λ x y c e1 e2 => ?_) (λ x c e => ?_)
   ·rw [List.lookup_cons] at e1 e2
    cases hx : x == z <;> cases hy : y == z <;> rw [hx] at e1 <;> rw [hy] at e2
    ·exact hi x y c e1 e2
    ·cases e2; exact absurd (hl _ _ e1) (Nat.lt_irrefl _)
    ·cases e1; exact absurd (hl _ _ e2) (Nat.lt_irrefl _)
    ·rw [show x = z by simpa using hx,show y = z by simpa using hy]
   ·rw [List.lookup_cons] at e
    cases hx : x == z <;> rw [hx] at e
    ·exact Nat.lt_succ_of_lt (hl _ _ e)
    ·cases e; exact Nat.lt_succ_self _
  ·rw [if_neg hk]
   exact cf_inj r n acc hi hl
theorem Q5j {env : Env} {x : Str} {k : NameKind} : ∀ (names : List (Str × NameKind)),(names.map λ (n,k) => if (k == NameKind.free && env.scope.kind == .function && env.kindOf n == some .cell) then (n,NameKind.cell) else (n,k)).lookup x = some k ->
  names.lookup x = some k \/ (k = .cell /\ names.lookup x = some .free)
 | [],h => by cases h
 | (n,k') :: r,h => by
  rw [List.map_cons] at h
  by_cases hc : (k' == NameKind.free && env.scope.kind == .function && env.kindOf n == some .cell) = true
  ·simp only [hc,if_true] at h
   rw [List.lookup_cons] at h ⊢
   cases hx : x == n with
   | true =>
    rw [hx] at h; cases h
    have : k' = .free := by
     simp only [Bool.and_eq_true,beq_iff_eq] at hc
     exact hc.1.1
    subst this
    exact .inr ⟨rfl,rfl⟩
   | false => rw [hx] at h; exact Q5j r h
  ·simp only [hc,Bool.false_eq_true,if_false] at h
   rw [List.lookup_cons] at h ⊢
   cases hx : x == n with
   | true => rw [hx] at h; exact .inl h
   | false => rw [hx] at h; exact Q5j r h
theorem Q4B {env : Env} {x : Str} : ∀ (names : List (Str × NameKind)),names.lookup x = some .free ->
  (names.map λ (n,k) => if (k == NameKind.free && env.scope.kind == .function && env.kindOf n == some .cell) then (n,NameKind.cell) else (n,k)).lookup x = some .cell \/
  (names.map λ (n,k) => if (k == NameKind.free && env.scope.kind == .function && env.kindOf n == some .cell) then (n,NameKind.cell) else (n,k)).lookup x = some .free
 | [],h => by cases h
 | (n,k') :: r,h => by
  rw [List.map_cons]
  rw [List.lookup_cons] at h
  by_cases hc : (k' == NameKind.free && env.scope.kind == .function && env.kindOf n == some .cell) = true
  ·simp only [hc,if_true]
   rw [List.lookup_cons]
   cases hx : x == n with
   | true => left; rfl
   | false => rw [hx] at h; exact Q4B r h
  ·simp only [hc]
   cases hx : x == n with
   | true => rw [hx] at h; right; exact (by simp [List.lookup_cons,hx]; exact Option.some.inj h)
   | false =>
    rw [hx] at h
    simpa [List.lookup_cons,hx] using Q4B r h
def cxC (X : Cx) (N : List Str) (scope : Scope) (s : Shared) (H : Hp) (fp : List Addr) : Cx :=
 { X with
  N := N
  s₀ := s
  H₀ := H
  env := compEnvC scope (cellsFrom (s.heap.objs.size + 2) scope.names (Q2e X.env scope.names [])) (s.heap.objs.size + 1) X.env
  outer := X.stack
  ex := fp
  fn := λ x => scope.names.lookup x == some .cell
  pn := []
  xe := λ _ _ => False }
section
variable {X : Cx} {pins : List (Addr × Obj)} {σ : L2.St} {H : Hp} {s : Shared}
def FreeOk (X : Cx) (scope : Scope) : Prop := ∀ y ∈ scope.names,y.2 = .free -> X.env.kindOf y.1 = some .cell \/ X.env.kindOf y.1 = some .free
theorem inv_comp {N : List Str} {scope : Scope} {fp : List Addr} {σ0 : L2.St} (I : L2.Inv X pins σ H s) (hf : ∀ b ∈ fp,FpOk X pins H b) (ho : ∀ b ∈ fp,∃ o,s.heap.get? b = some o) (hk : scope.kind = .function) (hfr : FreeOk X scope)
  (hl : σ0.length = N.length) (hσ : ∀ (i : Nat) (v : V),σ0[i]? = some (some v) -> ∃ (x : Str) (j : Nat),N[i]? = some x /\ scope.names.lookup x = some .free /\ (∀ y ∈ scope.names,y.1 = x -> y.2 ≠ .cell) /\ X.N[j]? = some x /\ σ[j]? = some (some v) /\ Vis X.env.scope x) (t : Nat) (oD : Obj) :
  L2.Inv (cxC X N scope s H fp) [] σ0 H { s with heap := pushCells ((s.heap.push oD).push { cls := .type "dict",data := .dict #[] }) scope.names,toks := t } := by
 have hz1 : (s.heap.push oD).objs.size = s.heap.objs.size + 1 := Heap.size_push ..
 have hz : ((s.heap.push oD).push { cls := .type "dict",data := .dict #[] }).objs.size = s.heap.objs.size + 2 := by rw [Heap.size_push,hz1]
 have up : ∀ b o,s.heap.get? b = some o -> (pushCells ((s.heap.push oD).push { cls := .type "dict",data := .dict #[] }) scope.names).get? b = some o := λ b o e => pushCells_keeps _ _ b o (Heap.get?_push_of_some _ (Heap.get?_push_of_some _ e))
 have hcl : ∀ y ∈ scope.names,y.2 = .free -> ∃ a,X.env.cells.lookup y.1 = some a := λ y hy e => I.ok.has _ (hfr y hy e)
 have cl1 : ∀ y b,(Q2e X.env scope.names []).lookup y = some b -> X.env.cells.lookup y = some b := λ y b e => by
  rcases clos_of _ _ hcl e with q | q
  ·cases q
  ·exact q
 have cl2 : ∀ y b,(Q2e X.env scope.names []).lookup y = some b -> b < s.heap.objs.size := λ y b e => by
  obtain ⟨v,q⟩ := I.cell y b (cl1 y b e); exact q.lt
 have cc : ∀ y b,(cellsFrom (s.heap.objs.size + 2) scope.names (Q2e X.env scope.names [])).lookup y = some b ->
   (∃ v,(pushCells ((s.heap.push oD).push { cls := .type "dict",data := .dict #[] }) scope.names).IsCell b v) /\ (X.env.cells.lookup y = some b /\ b < s.heap.objs.size \/ s.heap.objs.size + 2 <= b) := λ y b e => by
  rw [<- hz] at e
  obtain ⟨q1,q2⟩ := cf_cell scope.names ((s.heap.push oD).push { cls := .type "dict",data := .dict #[] }) _ (λ z c q => by
   obtain ⟨v,o,q1,q2⟩ := I.cell z c (cl1 z c q)
   exact ⟨v,o,Heap.get?_push_of_some _ (Heap.get?_push_of_some _ q1),q2⟩) e
  refine ⟨q1,?_⟩
  rcases q2 with q2 | q2
  ·exact .inl ⟨cl1 _ _ q2,cl2 _ _ q2⟩
  ·rw [hz] at q2; exact .inr q2
 have hlt := I.lt
 refine ⟨⟨I.ok.mod,hk,I.ok.glob,I.ok.blt,Nat.le_succ _,?_,?_,?_,I.ok.hd,I.ok.frames,.inl rfl,?_,I.bs,Nat.le_trans I.ok.bsz I.sz,?_,?_,I.stack,I.stkFree⟩,rfl,I.bare,Un.kept up,?_,?_,?_,?_,?_,I.hok.kept up,hl⟩
 ·exact cf_inj _ _ _ (λ x y c e1 e2 => I.ok.inj x y c (cl1 _ _ e1) (cl1 _ _ e2)) (λ x c e => Nat.lt_of_lt_of_le (cl2 x c e) (Nat.le_add_right _ 2))
 ·intro x hx
  have hx : (relabel scope X.env).names.lookup x = some .cell \/ (relabel scope X.env).names.lookup x = some .free := hx
  have : ((cellsFrom (s.heap.objs.size + 2) scope.names (Q2e X.env scope.names [])).lookup x).isSome = true := by
   refine PySem.W.cellsFrom_some _ _ _ ?_
   rcases hx with hx | hx
   ·rcases Q5j _ hx with q | ⟨_,q⟩
    ·exact .inl q
    ·exact .inr (Q4p _ _ (.inl q))
   ·rcases Q5j _ hx with q | ⟨q,_⟩
    ·exact .inr (Q4p _ _ (.inl q))
    ·cases q
  exact Option.isSome_iff_exists.mp this
 ·intro x c hfn e
  rcases (cc x c e).2 with ⟨q,q'⟩ | q
  ·exfalso
   have hfn : scope.names.lookup x = some .cell := by simpa [cxC] using hfn
   -- own names' cells are new
   have : ∀ (names : List (Str × NameKind)) (n : Nat) (acc : List (Str × Addr)),names.lookup x = some .cell \/ (∃ b,acc.lookup x = some b /\ s.heap.objs.size <= b) -> s.heap.objs.size <= n -> ∀ b,(cellsFrom n names acc).lookup x = some b -> s.heap.objs.size <= b := by
    intro names
    induction names with
    | nil =>
     intro n acc h hn b eb
     rcases h with h | ⟨b',h,hb⟩
     ·cases h
     ·have eb : acc.lookup x = some b := eb
      rw [h] at eb; cases eb; exact hb
    | cons p r ih =>
     obtain ⟨y,k⟩ := p
     intro n acc h hn b eb
     unfold cellsFrom at eb
     by_cases hkc : (k == NameKind.cell) = true
     ·rw [if_pos hkc] at eb
      refine ih (n + 1) _ ?_ (Nat.le_succ_of_le hn) b eb
      cases hxy : x == y with
      | true => right; exact ⟨n,by rw [List.lookup_cons,hxy],hn⟩
      | false =>
       rw [List.lookup_cons,hxy] at h
       rw [List.lookup_cons,hxy]
       exact h
     ·rw [if_neg hkc] at eb
      refine ih n _ ?_ hn b eb
      cases hxy : x == y with
      | true =>
       rw [List.lookup_cons,hxy] at h
       rcases h with h | h
       ·cases h; exact absurd rfl hkc
       ·exact .inr h
      | false => rw [List.lookup_cons,hxy] at h; exact h
   exact absurd q' (Nat.not_lt.mpr (this scope.names _ _ (.inl hfn) (Nat.le_add_right _ 2) c e))
  ·exact Nat.le_trans (Nat.le_add_right _ 2) q
 ·intro b hb
  have hbl : b < s.heap.objs.size := let ⟨o,e⟩ := ho b hb; Heap.lt_size e
  refine ⟨Nat.ne_of_lt (Nat.lt_succ_of_lt hbl),λ x c e => ?_⟩
  obtain ⟨f0,f1,f2,f3,f4,f5⟩ := hf b hb
  rcases (cc x c e).2 with ⟨q,_⟩ | q
  ·exact f4 x c q
  ·exact Nat.ne_of_gt (Nat.lt_of_lt_of_le (Nat.lt_of_lt_of_le hbl (Nat.le_add_right _ 2)) q)
 ·intro b o e hb
  obtain ⟨f0,f1,f2,f3,f4,f5⟩ := hf b hb
  rcases f3 with q | q
  ·exact I.ok.noex b o e q
  ·exact absurd (Nat.lt_of_lt_of_le (Heap.lt_size e) (Nat.le_trans I.ok.bsz q)) (Nat.lt_irrefl _)
 ·intro b hb z
  obtain ⟨f0,f1,f2,f3,f4,f5⟩ := hf b hb
  rcases List.mem_cons.mp (I.stkSub b z) with q | q
  ·exact f1 q
  ·exact f2 q
 ·refine ⟨λ _ => none,?_,λ i x v e1 e2 e3 => ?_⟩
  ·show Heap.Ns _ (s.heap.objs.size + 1) _
   rw [<- hz1]
   exact (Heap.Ns.new (s.heap.push oD) (.type "dict")).keeps (pushCells_keeps _ _)
  ·obtain ⟨x',j,q1,q2,q3,q4,q5,q6⟩ := hσ i v e2
   have : x' = x := Option.some.inj (q1.symm.trans e1)
   subst this
   obtain ⟨m,hn,hlk⟩ := I.loc
   obtain ⟨u,ru,lk⟩ := hlk j x' v q4 q5 q6
   refine ⟨u,ru,.inr ⟨?_,?_⟩⟩
   ·exact Q4B _ q2
   ·have hks := hfr (x',.free) (PySem.mem_of_lookup q2) rfl
    rcases lk with ⟨k,_⟩ | ⟨k,c,e,z⟩
    ·rcases hks with z | z
     ·rw [k] at z; cases z
     ·rw [k] at z; cases z
    ·refine ⟨c,?_,z.keeps up⟩
     show (cellsFrom _ _ _).lookup x' = some c
     rw [cf_out _ _ _ q3]
     obtain ⟨b,eb⟩ := Option.isSome_iff_exists.mp (Q4p (env := X.env) scope.names [] (.inl q2))
     rw [eb,<- cl1 _ _ eb,e]
 ·exact λ x c e => (cc x c e).1
 ·exact I.hok.fresh (Nat.le_succ _)
 ·intro x c e
  rcases (cc x c e).2 with ⟨q,_⟩ | q
  ·exact I.freeC x c q
  ·exact I.hok.fresh (Nat.le_trans (Nat.le_add_right _ 2) q)
 ·intro p hp
  exact absurd (show p ∈ ([] : List (Addr × Obj)) from hp) (by simp)
end
theorem newEnv_comp {M : Model} {A : Around} {E : Value -> Shared -> Prop} {s : Shared} {scope : Scope} {g : Addr} {cl : List (Str × Addr)} {q : Str} {env : Env} {Q : Env -> Shared -> Prop}
  (h : ∀ b,b = env.builtins -> Q { scope := scope,locals := s.heap.objs.size,globals := g,cells := cellsFrom (s.heap.objs.size + 1) scope.names cl,qual := q,func := none,code := env.code,frame := env.frame,builtins := b }
   { s with heap := pushCells (s.heap.push { cls := .type "dict",data := .dict #[] }) scope.names }) : wpAny M A (newFunctionEnv scope g cl [] q none .none (some env)) Q E s := by
 simp only [newFunctionEnv,Option.isSome_some,if_true]
 refine wpAny_bind (wpAny_alloc ?_)
 refine wpAny_bind (wpAny_layCells _ (λ n k cells => by cases hkc : k == NameKind.cell <;> simp [hkc]) _ _ _ _ ?_)
 rw [show ({ s with heap := s.heap.push { cls := .type "dict",data := .dict #[] } } : Shared).heap.objs.size = s.heap.objs.size + 1 from Heap.size_push ..]
 rw [List.forIn_nil]
 exact wpAny_bind (wpAny_pure (wpAny_pure (h _ rfl)))
theorem Un_more {fs ex : List Addr} {H H' : Hp} {h h' : Heap} {D : Addr} {o : HO} (u : Un fs ex H H' h h') (hn : H D = none) (hh : h.get? D = none) : Un fs ex H (upd H' D o) h h' where
 keep := u.keep
 slot := u.slot
 free := λ b ob q n hx => by
  rw [Q0x (λ z => by rw [z,hh] at q; cases q)]; exact u.free b ob q n hx
 there := u.there
 tups := λ b xs q => by rw [Q0x (Q1o q hn)]; exact u.tups b xs q
 frzs := λ b ob xs q => by rw [Q0x (Q1o q hn)]; exact u.frzs b ob xs q
 tbls := λ b ps q => by rw [Q0x (Q1o q hn)]; exact u.tbls b ps q
theorem HOk_more {P : Program} {w : World} {H : Hp} {h : Heap} {D : Addr} {o : HO} (x : HOk P w H h) (hn : H D = none) (new : Q2A P w (upd H D o) h D o) : HOk P w (upd H D o) h := λ b u e => by
 by_cases hb : b = D
 ·subst hb
  rw [Q0z] at e
  cases e
  exact new
 ·rw [Q0x hb] at e
  refine (x b u e).stay (λ c v _ q => q) (λ c q => ?_) λ c xs q => ?_
  ·rw [Q0x (Q1o q hn)]; exact q
  ·rw [Q0x (Q1o q hn)]; exact q
theorem Q4N {prog : Program} {w : World} {A : Around} {R : Result -> Shared -> Prop} {elt tg iter : Expr} {ifs : List Expr} {scope : Scope} {pos : Pos} {it acc : Value} {env : Env} (V : Nat -> Shared -> Prop)
  (turn : ∀ (n : Nat) (s : Shared) (F : Value -> Shared -> Prop),V n s -> wpAny (model prog w) A (pyNext it) (λ r s1 => match r with
   | none => R (.ok .next) s1
   | some v => wpAny (model prog w) A (letOwnedTupleGo tg it v) (λ _ s2 => wpAny (model prog w) A (assign tg env v) (λ _ s3 =>
     wpAny (model prog w) A (compTests ifs env) (λ ok s4 => if ok = true then wpAny (model prog w) A (eval elt env) (λ x s5 => wpAny (model prog w) A (call (.builtin "list.append") [acc,x]) (λ _ s6 => ∃ m,m < n /\ V m s6) F s5) F s4
      else ∃ m,m < n /\ V m s4) F s3) F s2) F s1) F s) :
  ∀ (n : Nat) (s : Shared),V n s -> codeAny (model prog w) A (.compLoop (.ListComp elt [⟨tg,iter,ifs,0⟩] scope pos) 0 it acc env) R s := λ n s h => by
 refine codeAny_loop rfl V (λ n s hV => ?_) n h
 refine wpAny_noted ?_
 rw [compTurn_list]
 refine wpAny_bind (wpAny_standAt (wpAny_bind (thn (turn n s _ hV) λ r s1 h1 => ?_)))
 cases r with
 | none => exact wpAny_pure h1
 | some v =>
  refine wpAny_bind (thn h1 λ _ s2 h2 => wpAny_bind (thn h2 λ _ s3 h3 => ?_))
  have h3 : wpAny (model prog w) A (compTests ifs env) _ _ s3 := h3
  unfold compTests at h3
  rw [show ∀ x : Sem Bool,(x >>= λ q => pure q) = x from λ x => bind_pure x] at h3
  refine wpAny_bind (thn h3 λ ok s4 h4 => ?_)
  cases ok with
  | false => exact wpAny_pure ⟨rfl,h4⟩
  | true => exact wpAny_bind (wpAny_bind (thn h4 λ x s5 h5 => wpAny_bind (thn h5 λ _ s6 h6 => wpAny_pure (wpAny_pure ⟨rfl,h6⟩))))
abbrev lstO (ys : List Value) : Obj := { cls := .type "list",data := .seq ys.toArray ys.length }
def Kept (X : Cx) (ρ : Rho) (O : Sto) (elt : Expr) : List Expr -> Option D -> Prop
 | [],z => ∃ y,z = some y /\ EvP X ρ O elt y
 | [c],z => ∃ k,EvT X ρ O c k /\ (k = true -> ∃ y,z = some y /\ EvP X ρ O elt y) /\ (k = false -> z = none)
 | _,_ => False
theorem EnvR.weak {K : PySem.W.Frag} {G : Wd} {σ : L2.St} {ρ ρ' : Rho} (h : EnvR K G σ ρ) (hl : ρ'.length = ρ.length) (hs : ∀ (i : Nat) (d : D),ρ'[i]? = some (some d) -> ρ[i]? = some (some d)) : EnvR K G σ ρ' :=
 ⟨h.len.trans hl.symm,λ i d e => h.get i d (hs i d e)⟩
theorem ex_list {α : Type} (P : Nat -> α -> Prop) : ∀ n : Nat,(∀ i,i < n -> ∃ a,P i a) -> ∃ l : List α,l.length = n /\ ∀ i a,l[i]? = some a -> P i a
 | 0,_ => ⟨[],rfl,λ i a h => by simp at h⟩
 | n + 1,h => by
  obtain ⟨l,h1,h2⟩ := ex_list P n λ i hi => h i (Nat.lt_succ_of_lt hi)
  obtain ⟨a,ha⟩ := h n (Nat.lt_succ_self _)
  refine ⟨l ++ [a],by simp [h1],λ i b hb => ?_⟩
  by_cases hi : i < n
  ·rw [List.getElem?_append_left (by omega)] at hb; exact h2 i b hb
  ·have hin : i = n := by
    have := (List.getElem?_eq_some_iff.mp hb).1
    simp [h1] at this; omega
   subst hin
   rw [List.getElem?_append_right (by omega),h1,Nat.sub_self] at hb
   cases hb; exact ha
section
variable {X : Cx} {ρ : Rho} {O : Sto} {elt tg iter : Expr} {ifs : List Expr} {scope : Scope} {pos : Pos} {xs : List D} {zs : List (Option D)}
theorem fm_take {α : Type} : ∀ (zs : List (Option α)) (i : Nat) (z : Option α),zs[i]? = some z -> (zs.take (i + 1)).filterMap id = (zs.take i).filterMap id ++ z.toList := by
 intro zs i z h
 rw [List.take_add_one,h,List.filterMap_append]
 cases z <;> rfl
theorem comp_core (N : List Str) (js : List Nat) (ρ0 : Rho) (hi : EvI X ρ O tg iter xs) (hc : X.calm = true) (hk : scope.kind = .function) (hfr : FreeOk X scope) (hnm : ∀ x ∈ scope.names,x.2 = .local -> scope.names.lookup x.1 = some .local)
    (hl0 : ρ0.length = N.length)
    (h0 : ∀ (i : Nat) (d : D),ρ0[i]? = some (some d) -> ∃ (x : Str) (j : Nat),N[i]? = some x /\ scope.names.lookup x = some .free /\ (∀ y ∈ scope.names,y.1 = x -> y.2 ≠ .cell) /\ X.N[j]? = some x /\ ρ[j]? = some (some d) /\ Vis X.env.scope x)
    (hzl : zs.length = xs.length) (hsz : xs.length <= sizeLine)
    (turn : ∀ (s : Shared) (H : Hp) (fp : List Addr) (i : Nat) (x : D) (z : Option D),xs[i]? = some x -> zs[i]? = some z -> ∃ ρ1,Tg (cxC X N scope s H fp) tg x ρ0 ρ1 /\ ρ1.length = ρ0.length /\ (∀ (j : Nat) (d : D),ρ0[j]? = some (some d) -> ρ1[j]? = some (some d)) /\ Kept (cxC X N scope s H fp) ρ1 O elt ifs z)
    {use : Option (Value -> Sem Unit)} {pins : List (Addr × Obj)} {s : Shared} {σ : L2.St} {H : Hp} {G : Wd} {Q : Value -> Shared -> Prop} (I : L2.Inv X pins σ H s) (sa : SA X.K G H O) (en : EnvR X.K G σ ρ)
    (fin : ∀ (D C : Addr) (s' : Shared) (H' : Hp) (G' : Wd),L2.Inv X pins σ H' s' -> Ext G G' -> SA X.K G' H' O -> Is X.K G' (.lst (zs.filterMap id)) (.ref D) -> FpOk X pins H' C -> (∃ m,s'.heap.Ns C m) -> compPost (model X.prog X.w) X.A X.xe use Q (.ref D) C (.ok .next) s')
    (hs : ∀ x,foldedSetIterable iter X.env x = pure x := by intro _; rfl) :
    wpAny (model X.prog X.w) X.A (comprehension (.ListComp elt [⟨tg,iter,ifs,0⟩] scope pos) scope X.env (firstIterPos [⟨tg,iter,ifs,0⟩] pos) (newList []) false (eval iter X.env) use) Q X.xe s := by
  refine wpAny_comprehension_free rfl hs (clos_eq λ y hy e => I.ok.has _ (hfr y hy e)) hk hnm (thn (hi G pins s σ H (λ J H1 => ∃ G1,Ext G G1 /\ SA X.K G1 H1 O /\ Q3b X.K G1 J xs) I ⟨sa,en,λ J G1 H1 e1 s1 y1 => ⟨G1,e1,s1,y1⟩⟩) λ v s1 h1 => thn h1 λ itv s2 h2 => ?_)
  obtain ⟨it,fp,tn,J,H2,e,I2,T,st2,f2,G2,e2,sa2,Yi⟩ := h2
  subst e
  have ho2 : ∀ b ∈ fp,∃ o,s2.heap.get? b = some o := λ b hb => let ⟨o,q,_⟩ := T.obj 0 _ st2 b hb; ⟨o,q⟩
  have hlt : ∀ b ∈ fp,b < s2.heap.objs.size := λ b hb => let ⟨o,q⟩ := ho2 b hb; Heap.lt_size q
  unfold newList
  refine wpAny_newObj_type (newEnv_comp λ bb hbb => ?_)
  have hbb' : bb = X.env.builtins := hbb
  subst hbb'
  have hz1 : (s2.heap.push { cls := .type "list",dict := none,data := .seq ([] : List Value).toArray }).objs.size = s2.heap.objs.size + 1 := Heap.size_push ..
  dsimp only
  rw [hz1]
  generalize hD : s2.heap.objs.size = dd at hz1 ⊢
  -- the block's own context
  have en2 : EnvR X.K G2 σ ρ := en.ext e2
  obtain ⟨σ0,hσl,hσ0⟩ := ex_list (λ i (o : Option V) => (∀ d,ρ0[i]? = some (some d) -> ∃ v,o = some v /\ Is X.K G2 d v) /\ ∀ v,o = some v -> ∃ (x : Str) (j : Nat),N[i]? = some x /\ scope.names.lookup x = some .free /\ (∀ y ∈ scope.names,y.1 = x -> y.2 ≠ .cell) /\ X.N[j]? = some x /\ σ[j]? = some (some v) /\ Vis X.env.scope x) N.length (λ i hi => by
    cases q : ρ0[i]? with
    | none => exact ⟨none,And.intro (λ d z => nomatch z) (λ v z => nomatch z)⟩
    | some o =>
      cases o with
      | none => exact ⟨none,And.intro (λ d z => nomatch z) (λ v z => nomatch z)⟩
      | some d =>
        obtain ⟨x,j,q1,q2,q3,q4,q5,q6⟩ := h0 i d q
        obtain ⟨v,q7,q8⟩ := en2.get j d q5
        exact ⟨some v,And.intro (λ d' z => by cases z; exact ⟨v,rfl,q8⟩) (λ v' z => by cases z; exact ⟨x,j,q1,q2,q3,q4,q7,q6⟩)⟩)
  have en0 : EnvR X.K G2 σ0 ρ0 := ⟨hσl.trans hl0.symm,λ i d e => by
    have hi : i < σ0.length := by rw [hσl,<- hl0]; exact (List.getElem?_eq_some_iff.mp e).1
    obtain ⟨v,e1,e2⟩ := (hσ0 i σ0[i] (List.getElem?_eq_getElem hi)).1 d e
    exact ⟨v,by rw [List.getElem?_eq_getElem hi,e1],e2⟩⟩
  have I3 := inv_comp (N := N) (scope := scope) (fp := fp) (σ0 := σ0) I2 f2 ho2 hk hfr hσl (λ i v e => (hσ0 i _ e).2 v rfl) s2.toks { cls := .type "list",dict := none,data := .seq ([] : List Value).toArray }
  generalize hY : cxC X N scope s2 H2 fp = Y at I3
  have hD1 : (pushCells ((s2.heap.push { cls := .type "list",dict := none,data := .seq ([] : List Value).toArray }).push { cls := .type "dict",data := .dict #[] }) scope.names).get? dd = some (lstO []) := by
    refine pushCells_keeps _ _ _ _ (Heap.get?_push_of_some _ ?_)
    rw [<- hD]
    exact Heap.get?_push_size _ rfl
  have hHD : H2 dd = none := I2.hok.fresh (by rw [hD]; exact Nat.le_refl _)
  have hsD : s2.heap.get? dd = none := Heap.get?_none_of_le (by rw [hD]; exact Nat.le_refl _)
  have hDC : dd ≠ Y.env.locals := by
    rw [<- hY]; show dd ≠ s2.heap.objs.size + 1; rw [hD]; exact Nat.ne_of_lt (Nat.lt_succ_self _)
  have hfs : ∀ b ∈ frs X.stack,b < s2.heap.objs.size := λ b hb => by
    rcases List.mem_cons.mp (I2.stkSub b hb) with q | q
    · rw [q]; exact I2.lt
    · exact Nat.lt_of_not_le λ z => I2.nofs z q
  have hYfs : Y.fs = frs X.stack := by rw [<- hY]; rfl
  have hDfs : dd ∉ Y.fs := λ z => by rw [hYfs] at z; have := hfs dd z; rw [hD] at this; exact Nat.lt_irrefl _ this
  have hYex : Y.ex = fp := by rw [<- hY]; rfl
  have hYpn : Y.pn = [] := by rw [<- hY]; rfl
  have hYxe : Y.xe = λ _ _ => False := by rw [<- hY]; rfl
  have hYs : Y.s₀.heap.objs.size = dd := by rw [<- hY]; exact hD
  have hYc : ∀ x c,Y.env.cells.lookup x = some c -> c ≠ dd /\ ∀ b ∈ fp,c ≠ b := λ x c e => by
    refine ⟨?_,λ b hb => ?_⟩
    · intro z
      subst z
      obtain ⟨v,o,q1,q2⟩ := I3.cell x c e
      rw [hD1] at q1; cases q1; cases q2
    · have := I3.ok.exf b (by rw [hYex]; exact hb)
      exact this.2 x c e
  have fpY : ∀ {H' : Hp} {pl : List (Addr × Obj)},(∀ b ∈ fp,H' b = none) -> (∀ p ∈ pl,p.1 = dd) -> ∀ b ∈ fp,FpOk Y pl H' b := λ hn hp b hb => ⟨hn b hb,(I3.ok.exf b (by rw [hYex]; exact hb)).1,I3.ok.exfs b (by rw [hYex]; exact hb),.inl (by rw [hYex]; exact hb),λ x c e => (hYc x c e).2 b hb,λ p hq => by
    rw [hYpn,List.nil_append] at hq
    rw [hp p hq]
    exact Nat.ne_of_gt (by rw [<- hD]; exact hlt b hb)⟩
  have I4 : L2.Inv Y [(dd,lstO [])] σ0 H2 { s2 with heap := pushCells ((s2.heap.push { cls := .type "list",dict := none,data := .seq ([] : List Value).toArray }).push { cls := .type "dict",data := .dict #[] }) scope.names,toks := s2.toks } := I3.pins_of λ p hp => by
    rw [List.mem_singleton.mp hp]
    exact ⟨hD1,hHD,hDC,hDfs,λ v z => by cases z⟩
  have st4 : tn 0 (pushCells ((s2.heap.push { cls := .type "list",dict := none,data := .seq ([] : List Value).toArray }).push { cls := .type "dict",data := .dict #[] }) scope.names) := T.keep 0 _ _ st2 λ b hb o e => pushCells_keeps _ _ b o (Heap.get?_push_of_some _ (Heap.get?_push_of_some _ e))
  have hYp : Y.prog = X.prog := by rw [<- hY]; rfl
  have hYw : Y.w = X.w := by rw [<- hY]; rfl
  have hYK : Y.K = X.K := by rw [<- hY]; rfl
  have hYA : Y.A = X.A := by rw [<- hY]; rfl
  have hYcm : Y.calm = true := by rw [<- hY]; exact hc
  have loop : ∀ s3 : Shared,s3 = { s2 with heap := pushCells ((s2.heap.push { cls := .type "list",dict := none,data := .seq ([] : List Value).toArray }).push { cls := .type "dict",data := .dict #[] }) scope.names } ->
      codeAny (model X.prog X.w) X.A (.compLoop (.ListComp elt [⟨tg,iter,ifs,0⟩] scope pos) 0 (.ref it) (.ref dd) Y.env) (compPost (model X.prog X.w) X.A X.xe use Q (.ref dd) (dd + 1)) s3 := by
    rintro s3 rfl
    refine Q4N (λ n s' => ∃ (i : Nat) (G' : Wd) (σ' : L2.St) (H' : Hp) (vs : List V) (its : List Value),n = xs.length - i /\ i <= xs.length /\ L2.Inv Y [(dd,lstO its)] σ' H' s' /\ tn i s'.heap /\ (∀ b ∈ fp,H' b = none) /\ Ext G2 G' /\ SA X.K G' H' O /\ EnvR X.K G' σ' ρ0 /\
      Iss X.K G' ((zs.take i).filterMap id) vs /\ Vals vs its /\ its.length <= i) ?_ xs.length _ ⟨0,G2,σ0,H2,[],[],rfl,Nat.zero_le _,I4,st4,λ b hb => (f2 b hb).1,Ext.refl _,sa2,en0,.nil,.nil,Nat.le_refl _⟩
    rintro n s5 F ⟨i,G5,σ5,H5,vs,its,rfl,hil,I5,st5,fr5,e5,sa5,en5,is5,va5,hl5⟩
    by_cases hlt5 : i < xs.length
    · have hx : xs[i]? = some xs[i] := List.getElem?_eq_getElem hlt5
      have hzi : i < zs.length := by omega
      have hz : zs[i]? = some zs[i] := List.getElem?_eq_getElem hzi
      generalize xs[i] = x at hx
      generalize zs[i] = z at hz
      have it5 := T.item Y hYp hYw hYK hYcm i [(dd,lstO its)] s5 σ5 H5 F I5 (fpY fr5 (λ p hp => by rw [List.mem_singleton.mp hp])) st5 (Yi.go i H5 (e5.g.trans sa5.sub) hlt5)
      rw [hYA] at it5
      refine thn it5 λ r s6 ⟨u,hr,h6⟩ => ?_
      subst hr
      refine thn h6 λ _ s7 ⟨xv,H7,I7,r7,y7,st7,fr7⟩ => ?_
      obtain ⟨x',G7,hx',e7,sa7,ix⟩ := Yi.yld i xv H5 H7 G5 O e5 sa5 y7 hlt5
      have : x' = x := Option.some.inj (hx'.symm.trans hx)
      subst this
      have I7' := I7.pinned (fpY fr7 (λ p hp => by rw [List.mem_singleton.mp hp])) (T.obj _ _ st7)
      obtain ⟨ρ1,tg1,hl1,hs1,kp1⟩ := turn s2 H2 fp i x' z hx hz
      rw [hY] at tg1 kp1
      have xeF : ∀ {α : Type} {t : Sem α} {P : α -> Shared -> Prop} {q : Shared},wpAny (model Y.prog Y.w) Y.A t P Y.xe q -> wpAny (model X.prog X.w) X.A t P F q := λ h => by
        rw [hYp,hYw,hYA,hYxe] at h
        exact wpAny_mono h (λ _ _ q => q) λ _ _ q => q.elim
      refine thn (xeF (tg1 G7 _ s7 σ5 H7 xv u (λ σ' H' => EnvR X.K G7 σ' ρ1 /\ H' = H7) I7' r7 (by
        rw [hYK]
        exact ⟨ix,sa7.sub,en5.ext e7,λ σ' q => ⟨q,rfl⟩⟩))) λ _ s8 ⟨σ8,H8,I8,en8,hH8⟩ => ?_
      subst hH8
      -- back to the invariant,with or without one more
      have again : ∀ {s9 : Shared} {H9 : Hp} {G9 : Wd} {its' : List Value} {vs' : List V},L2.Inv Y ((dd,lstO its') :: Q2C fp s7.heap) σ8 H9 s9 -> Ext G7 G9 -> SA X.K G9 H9 O -> Iss X.K G9 ((zs.take (i + 1)).filterMap id) vs' -> Vals vs' its' -> its'.length <= i + 1 ->
          ∃ m,m < xs.length - i /\ ∃ (i : Nat) (G' : Wd) (σ' : L2.St) (H' : Hp) (vs : List V) (its : List Value),m = xs.length - i /\ i <= xs.length /\ L2.Inv Y [(dd,lstO its)] σ' H' s9 /\ tn i s9.heap /\ (∀ b ∈ fp,H' b = none) /\ Ext G2 G' /\ SA X.K G' H' O /\ EnvR X.K G' σ' ρ0 /\
            Iss X.K G' ((zs.take i).filterMap id) vs /\ Vals vs its /\ its.length <= i := λ {s9 H9 G9 its' vs'} I9 e9 sa9 is9 va9 hl9 => by
        refine ⟨xs.length - (i + 1),by omega,i + 1,G9,σ8,H9,vs',its',rfl,hlt5,I9.pins_of (λ p hp => I9.pin p (by rw [hYpn,List.nil_append]; rw [List.mem_singleton.mp hp]; exact List.mem_cons_self)),T.keep _ _ _ st7 λ b hb o e => (I9.pin (b,o) (by rw [hYpn,List.nil_append]; exact List.mem_cons_of_mem _ (Q2m hb e))).1,λ b hb => ?_,(e5.trans e7).trans e9,sa9,(en8.weak hl1.symm hs1).ext e9,is9,va9,hl9⟩
        obtain ⟨o,e,_⟩ := T.obj _ _ st7 b hb
        exact (I9.pin (b,o) (by rw [hYpn,List.nil_append]; exact List.mem_cons_of_mem _ (Q2m hb e))).2.1
      have more : ∀ {y : D} {s9 : Shared} {G9 : Wd} {H9 : Hp},z = some y -> L2.Inv Y ([(dd,lstO its)] ++ Q2C fp s7.heap) σ8 H9 s9 -> Ext G7 G9 -> SA X.K G9 H9 O -> EvP Y ρ1 O elt y -> wpAny (model X.prog X.w) X.A (eval elt Y.env) (λ x s5 => wpAny (model X.prog X.w) X.A (call (.builtin "list.append") [.ref dd,x]) (λ _ s6 => ∃ m,m < xs.length - i /\ ∃ (i : Nat) (G' : Wd) (σ' : L2.St) (H' : Hp) (vs : List V) (its : List Value),m = xs.length - i /\ i <= xs.length /\ L2.Inv Y [(dd,lstO its)] σ' H' s6 /\ tn i s6.heap /\ (∀ b ∈ fp,H' b = none) /\ Ext G2 G' /\ SA X.K G' H' O /\ EnvR X.K G' σ' ρ0 /\
            Iss X.K G' ((zs.take i).filterMap id) vs /\ Vals vs its /\ its.length <= i) F s5) F s9 := λ {y s9 G9 H9} hzy I9 e9 sa9 ev => by
        refine thn (xeF (ev G9 _ s9 σ8 H9 (λ v H' => ∃ G',Ext G9 G' /\ SA X.K G' H' O /\ Is X.K G' y v) I9 (by
          rw [hYK]
          exact ⟨sa9,en8.ext e9,λ v G' H' q1 q2 q3 => ⟨G',q1,q2,q3⟩⟩))) λ uy s10 ⟨vy,H10,I10,r10,G10,e10,sa10,iy⟩ => ?_
        have p10 := I10.pin (dd,lstO its) (by rw [hYpn,List.nil_append]; exact List.mem_append_left _ List.mem_cons_self)
        refine append_at (hsz := by show its.toArray.size <= sizeLine; rw [List.size_toArray]; omega) p10.1 λ h' hs' hD' => ?_
        have Ia : L2.Inv Y (Q2C fp s7.heap) σ8 H10 s10 := I10.pins_of λ p hp => I10.pin p (by rw [hYpn,List.nil_append]; exact List.mem_append_right _ hp)
        have Ib : L2.Inv Y (Q2C fp s7.heap) σ8 H10 { s10 with heap := h' } := Ia.turned (t' := s10.toks) (λ b o hb e => (hs'.2 b hb).trans e) p10.2.1 hDC (.inr (by rw [hYs]; exact Nat.le_refl _)) (λ x c e => (hYc x c e).1) (λ p hp => by
          rw [hYpn,List.nil_append] at hp
          obtain ⟨hb,_⟩ := of_pinsAt hp
          exact Nat.ne_of_lt (by rw [<- hD]; exact hlt p.1 hb))
        have Ic : L2.Inv Y ((dd,lstO (its ++ [uy])) :: Q2C fp s7.heap) σ8 H10 { s10 with heap := h' } := Ib.pins_of λ p hp => by
          rcases List.mem_cons.mp hp with q | q
          · rw [q]
            refine ⟨hD'.trans ?_,p10.2.1,hDC,hDfs,λ v z => by cases z⟩
            congr 1
            simp [lstO]
          · exact Ib.pin p (by rw [hYpn,List.nil_append]; exact q)
        refine again Ic (e9.trans e10) sa10 (vs' := vs ++ [vy]) ?_ (va5.append (.cons r10 .nil)) (by rw [List.length_append,List.length_singleton]; omega)
        rw [fm_take zs i z hz,hzy]
        exact (is5.ext ((e7.trans e9).trans e10)).append (.cons iy .nil)
      match ifs,kp1 with
      | [],kp1 =>
        obtain ⟨y,hzy,ev⟩ := kp1
        unfold compTests
        refine wpAny_bind (wpAny_tests_nil (wpAny_pure ?_))
        simp only [if_true]
        exact more hzy I8 (Ext.refl _) sa7 ev
      | [c],kp1 =>
        obtain ⟨k,tc,ht,hff⟩ := kp1
        unfold compTests
        refine wpAny_bind (wpAny_tests_one (thn (xeF (tc G7 _ s8 σ8 H8 (λ b H' => b = k /\ ∃ G',Ext G7 G' /\ SA X.K G' H' O) I8 (by
          rw [hYK]
          exact ⟨sa7,en8,λ G' H' q1 q2 => ⟨rfl,G',q1,q2⟩⟩))) λ b s9 ⟨H9,I9,hb,G9,e9,sa9⟩ => wpAny_pure ?_))
        subst hb
        cases b with
        | true =>
          obtain ⟨y,hzy,ev⟩ := ht rfl
          simp only [if_true]
          exact more hzy I9 e9 sa9 ev
        | false =>
          simp only [Bool.false_eq_true,if_false]
          refine again I9 e9 sa9 (vs' := vs) ?_ va5 (Nat.le_succ_of_le hl5)
          rw [fm_take zs i z hz,hff rfl]
          simpa using is5.ext (e7.trans e9)
      | _ :: _ :: _,kp1 => exact kp1.elim
    · have hie : i = xs.length := by omega
      subst hie
      have dn := T.done Y hYp hYw hYK hYcm xs.length [(dd,lstO its)] s5 σ5 H5 F I5 (fpY fr5 (λ p hp => by rw [List.mem_singleton.mp hp])) st5 (Yi.stop _ H5 (e5.g.trans sa5.sub) (Nat.le_refl _))
      rw [hYA] at dn
      refine thn dn λ r s6 ⟨hr,I6⟩ => ?_
      subst hr
      have p6 := I6.pin (dd,lstO its) (by rw [hYpn,List.nil_append]; exact List.mem_cons_self)
      rw [<- hzl,List.take_length] at is5
      have vl : vs.length <= sizeLine := by rw [va5.length]; omega
      have Ix : L2.Inv X pins σ (upd H5 dd (.lst vs)) s6 := by
        have un := I6.base
        rw [hYfs,hYex,<- hY] at un
        have un : Un (frs X.stack) fp H2 H5 s2.heap s6.heap := un
        refine I2.call' (ch := fp) (I6.os.trans (by rw [<- hY]; rfl)) (Un_more un hHD hsD) ?_ I6.bare λ b hb => ?_
        · have hk6 := I6.hok
          rw [hYp,hYw] at hk6
          exact HOk_more hk6 p6.2.1 ⟨vl,its,its.length,va5,p6.1⟩
        · obtain ⟨_,f1,_,f3,f4,f5⟩ := f2 b hb
          exact ⟨f3,f1,f4,f5⟩
      obtain ⟨ed,sd⟩ := sa5.laid (p := dd) (o := .lst vs) p6.2.1
      refine fin dd (dd + 1) s6 _ _ Ix ((e2.trans e5).trans ed) sd (.lst Q0z (is5.ext ed)) ?_ ?_
      · have hC : dd + 1 = Y.env.locals := by rw [<- hY]; show dd + 1 = s2.heap.objs.size + 1; rw [hD]
        have ge : s2.heap.objs.size <= dd + 1 := by rw [hD]; exact Nat.le_succ _
        have := I2.fpOk (H' := upd H5 dd (.lst vs)) ge (by
          have q := I6.free
          rw [<- hC] at q
          rw [Q0x (show dd + 1 ≠ dd from Nat.succ_ne_self _)]
          exact q)
        exact this
      · obtain ⟨m,hn,_⟩ := I6.loc
        rw [<- hY] at hn
        have hn : s6.heap.Ns (s2.heap.objs.size + 1) m := hn
        rw [hD] at hn
        exact ⟨m,hn⟩
  have eY : Y.env = { scope := relabel scope X.env,locals := dd + 1,globals := X.env.globals,cells := cellsFrom (dd + 1 + 1) scope.names (Q2e X.env scope.names []),qual := X.env.qual,func := none,code := X.env.code,frame := X.env.frame,builtins := X.env.builtins } := by
    rw [<- hY]
    show compEnvC _ _ _ _ = _
    rw [hD]
    rfl
  rw [<- eY]
  exact codeAny_compStart_list (loop _ rfl) (T.self X.A 0 _ _ _ st4 (loop _ rfl))
def freeB (XN : List Str) (xs cs : List (Str × NameKind)) (F : List Str) (js : List Nat) : Bool :=
 (js.map λ j => XN[j]?) == F.map some && (F.all λ x => cs.lookup x == some .free && (cs.all λ y => y.1 != x || y.2 != .cell) && (xs.lookup x == some .cell || xs.lookup x == some .free)) &&
 (cs.all λ y => (y.2 != .free || xs.lookup y.1 == some .cell || xs.lookup y.1 == some .free) && (y.2 != .local || cs.lookup y.1 == some .local))
def frOf (ρ : Rho) (js : List Nat) : Rho := js.map λ j => (ρ[j]?).getD none
theorem freeB_free {F : List Str} {js : List Nat} (h : freeB X.N X.env.scope.names scope.names F js = true) : FreeOk X scope := λ y hy e => by
 unfold freeB at h
 simp only [Bool.and_eq_true,List.all_eq_true] at h
 have q := (h.2 y hy).1
 rw [e] at q
 have q : (X.env.scope.names.lookup y.1 == some .cell || X.env.scope.names.lookup y.1 == some .free) = true := by simpa using q
 rcases (Bool.or_eq_true _ _).mp q with q | q
 ·exact .inl (show X.env.scope.names.lookup y.1 = _ by simpa using q)
 ·exact .inr (show X.env.scope.names.lookup y.1 = _ by simpa using q)
theorem freeB_loc {F : List Str} {js : List Nat} (h : freeB X.N X.env.scope.names scope.names F js = true) : ∀ x ∈ scope.names,x.2 = .local -> scope.names.lookup x.1 = some .local := λ y hy e => by
 unfold freeB at h
 simp only [Bool.and_eq_true,List.all_eq_true] at h
 have q := (h.2 y hy).2
 rw [e] at q
 simpa using q
theorem freeB_at {T F : List Str} {js : List Nat} (h : freeB X.N X.env.scope.names scope.names F js = true) (i : Nat) (d : D) (e : (T.map (λ _ => (none : Option D)) ++ frOf ρ js)[i]? = some (some d)) :
  ∃ (x : Str) (j : Nat),(T ++ F)[i]? = some x /\ scope.names.lookup x = some .free /\ (∀ y ∈ scope.names,y.1 = x -> y.2 ≠ .cell) /\ X.N[j]? = some x /\ ρ[j]? = some (some d) /\ Vis X.env.scope x := by
 unfold freeB at h
 simp only [Bool.and_eq_true,List.all_eq_true,beq_iff_eq] at h
 obtain ⟨⟨h1,h2⟩,h3⟩ := h
 by_cases hi : i < T.length
 ·rw [List.getElem?_append_left (by simpa using hi),List.getElem?_map] at e
  cases q : T[i]? with
  | none => rw [q] at e; cases e
  | some _ => rw [q] at e; cases e
 ·rw [List.getElem?_append_right (by simpa using hi),List.length_map] at e
  unfold frOf at e
  rw [List.getElem?_map] at e
  cases q : js[i - T.length]? with
  | none => rw [q] at e; cases e
  | some j =>
   rw [q] at e
   have e : (ρ[j]?).getD none = some d := Option.some.inj e
   have hρ : ρ[j]? = some (some d) := by
    cases q2 : ρ[j]? with
    | none => rw [q2] at e; cases e
    | some o => rw [q2] at e; rw [show o = some d from e]
   have hF := congrArg (λ l => l[i - T.length]?) h1
   simp only [List.getElem?_map,q,Option.map_some] at hF
   cases qF : F[i - T.length]? with
   | none => rw [qF] at hF; cases hF
   | some x =>
    rw [qF] at hF
    have hF : X.N[j]? = some x := Option.some.inj hF
    obtain ⟨⟨g1,g2⟩,g3⟩ := h2 x (List.mem_of_getElem? qF)
    refine ⟨x,j,by rw [List.getElem?_append_right (by omega)]; exact qF,g1,λ y hy ey => ?_,hF,hρ,?_⟩
    ·have := g2 y hy
     rw [ey] at this
     simpa using this
    ·rcases (Bool.or_eq_true _ _).mp g3 with g | g
     ·exact .inr (.inl (by simpa using g))
     ·exact .inr (.inr (by simpa using g))
theorem sub_fr {ts fr : Rho} {T : List Str} (h : ts.length = T.length) : (ts ++ fr).length = (T.map (λ _ => (none : Option D)) ++ fr).length /\ ∀ (j : Nat) (d : D),(T.map (λ _ => (none : Option D)) ++ fr)[j]? = some (some d) -> (ts ++ fr)[j]? = some (some d) := by
 refine ⟨by simp [h],λ j d e => ?_⟩
 by_cases hj : j < T.length
 ·rw [List.getElem?_append_left (by simpa using hj),List.getElem?_map] at e
  cases q : T[j]? with
  | none => rw [q] at e; cases e
  | some _ => rw [q] at e; cases e
 ·rw [List.getElem?_append_right (by simpa using hj),List.length_map] at e
  rw [List.getElem?_append_right (by omega),h]
  exact e
def CTurn (X : Cx) (T F : List Str) (js : List Nat) (ρ : Rho) (O : Sto) (scope : Scope) (tg elt : Expr) (ifs : List Expr) (x : D) (z : Option D) : Prop :=
 ∀ (s : Shared) (H : Hp) (fp : List Addr),∃ ts : Rho,ts.length = T.length /\ Tg (cxC X (T ++ F) scope s H fp) tg x (T.map (λ _ => (none : Option D)) ++ frOf ρ js) (ts ++ frOf ρ js) /\ Kept (cxC X (T ++ F) scope s H fp) (ts ++ frOf ρ js) O elt ifs z
theorem ev_compZ (T F : List Str) (js : List Nat) (hi : EvI X ρ O tg iter xs) (hzl : zs.length = xs.length) (hsz : xs.length <= sizeLine) (turn : ∀ (i : Nat) (x : D) (z : Option D),xs[i]? = some x -> zs[i]? = some z -> CTurn X T F js ρ O scope tg elt ifs x z)
  (hfl : F.length = js.length) (hB : freeB X.N X.env.scope.names scope.names F js = true) (hc : X.calm = true) (hk : scope.kind = .function) (hs : ∀ x,foldedSetIterable iter X.env x = pure x) :
  EvP X ρ O (.ListComp elt [⟨tg,iter,ifs,0⟩] scope pos) (.lst (zs.filterMap id)) := λ G pins s σ H Q I ⟨h1,h2,h3⟩ => by
 rw [eval_ListComp]
 refine comp_core (T ++ F) js (T.map (λ _ => (none : Option D)) ++ frOf ρ js) hi hc hk (freeB_free hB) (freeB_loc hB) (by simp [frOf,hfl]) (freeB_at hB) hzl hsz (λ s H fp i x z q1 q2 => ?_) I h1 h2 (λ dd C s' H' G' I' e' sa' is' fo ns => ?_) hs
 ·obtain ⟨ts,t1,t2,t3⟩ := turn i x z q1 q2 s H fp
  obtain ⟨u1,u2⟩ := sub_fr (fr := frOf ρ js) t1
  exact ⟨_,t2,u1,u2,t3⟩
 ·obtain ⟨m,hn⟩ := ns
  refine ⟨m,hn,λ h' hs' => ?_⟩
  obtain ⟨f0,f1,f2,f3,f4,f5⟩ := fo
  exact ⟨.ref dd,H',I'.turned (t' := s'.toks) (λ b o hb e => (hs'.2 b hb).trans e) f0 f1 f3 f4 f5,rfl,h3 _ G' H' e' sa' is'⟩
end
end DL
namespace DL
open PySem PySem.Spec PyProof.Rows L2 PySem.W
def kRun {α : Type} (lt : Nat -> Nat -> Bool) : KasT α -> α
 | .ret a => a
 | .ask i j k => kRun lt (k (lt i j))
theorem Q2t {α β : Type} (lt : Nat -> Nat -> Bool) (f : α -> KasT β) : ∀ t : KasT α,kRun lt (t.bind f) = kRun lt (f (kRun lt t))
 | .ret _ => rfl
 | .ask i j k => Q2t lt f (k (lt i j))
section
variable (key : Nat -> Int)
abbrev ltK (i j : Nat) : Bool := decide (key i < key j)
def KQ (p : Array Nat) (i : Nat) : Int := key (p.getD i 0)
theorem asc_ok (p : Array Nat) : ∀ (f n : Nat),∃ m,kRun (ltK key) (kas_asc p f n) = m /\ n <= m /\ m <= n + f /\ (∀ k,n <= k -> k < m -> KQ key p (k - 1) <= KQ key p k) /\ (m = n + f \/ KQ key p m < KQ key p (m - 1))
 | 0,n => ⟨n,rfl,Nat.le_refl _,Nat.le_refl _,λ k h1 h2 => by omega,.inl rfl⟩
 | f + 1,n => by
  by_cases h : KQ key p n < KQ key p (n - 1)
  ·refine ⟨n,?_,Nat.le_refl _,by omega,λ k h1 h2 => by omega,.inr h⟩
   show kRun _ (if ltK key _ _ = true then _ else _) = _
   rw [if_pos (decide_eq_true (show key (p.getD n 0) < key (p.getD (n - 1) 0) from h))]
   rfl
  ·obtain ⟨m,e,h1,h2,h3,h4⟩ := asc_ok p f (n + 1)
   refine ⟨m,?_,by omega,by omega,λ k g1 g2 => ?_,by rcases h4 with h4 | h4; exact .inl (by omega); exact .inr h4⟩
   ·show kRun _ (if ltK key _ _ = true then _ else _) = _
    rw [if_neg (by simpa [ltK] using (show ¬ key (p.getD n 0) < key (p.getD (n - 1) 0) from h))]
    exact e
   ·by_cases hk : k = n
    ·subst hk; exact Int.not_lt.mp h
    ·exact h3 k (by omega) g2
theorem Q2W {p : Array Nat} {i : Nat} : p.getD i 0 = (p[i]?).getD 0 := by
 by_cases h : i < p.size
 ·simp [Array.getD,h]
 ·simp [Array.getD,h]
theorem KQ_rev {p : Array Nat} {i j : Nat} (hj : j <= p.size) (k : Nat) : KQ key (kas_rev p i j) k = if i <= k /\ k < j then KQ key p (i + j - 1 - k) else KQ key p k := by
 unfold KQ kas_rev
 rw [Q2W,getElem?_mirror_all hj k]
 split
 ·rw [Q2W]
 ·rw [Q2W]
theorem KQ_revE {p : Array Nat} {i j : Nat} (hj : j <= p.size) (h : ∀ k,i <= k -> k < j -> KQ key p k = KQ key p (j - 1)) (k : Nat) : KQ key (kas_rev p i j) k = KQ key p k := by
 rw [KQ_rev key hj k]
 split
 ·next hk => rw [h k hk.1 hk.2,h _ (by omega) (by omega)]
 ·rfl
theorem desc_ok : ∀ (f : Nat) (p : Array Nat) (n q : Nat),q + 1 <= n -> n + f <= p.size -> (∀ i j,i <= j -> j < n -> KQ key p j <= KQ key p i) -> (∀ k,n - (q + 1) <= k -> k < n -> KQ key p k = KQ key p (n - 1)) ->
  ∃ p' n' q',kRun (ltK key) (kas_desc f p n q) = (p',n',q') /\ n <= n' /\ n' <= n + f /\ q' + 1 <= n' /\ p'.Perm p /\ p'.size = p.size /\ (∀ i j,i <= j -> j < n' -> KQ key p' j <= KQ key p' i) /\ (∀ k,n' - (q' + 1) <= k -> k < n' -> KQ key p' k = KQ key p' (n' - 1))
 | 0,p,n,q,h1,h2,h3,h4 => ⟨p,n,q,rfl,Nat.le_refl _,Nat.le_refl _,h1,Array.Perm.refl _,rfl,h3,h4⟩
 | f + 1,p,n,q,h1,h2,h3,h4 => by
  by_cases h : KQ key p n < KQ key p (n - 1)
  ·have step : ∀ p2 : Array Nat,p2.Perm p -> p2.size = p.size -> (∀ k,KQ key p2 k = KQ key p k) -> (∀ i j,i <= j -> j < n + 1 -> KQ key p2 j <= KQ key p2 i) := λ p2 _ _ e i j hij hj => by
    rw [e,e]
    by_cases hjn : j = n
    ·subst hjn
     by_cases hin : i = j
     ·subst hin; exact Int.le_refl _
     ·have := h3 i (j - 1) (by omega) (by omega); omega
    ·exact h3 i j hij (by omega)
   by_cases hq : q > 0
   ·have hE : ∀ k,KQ key (kas_rev p (n - (q + 1)) n) k = KQ key p k := KQ_revE key (by omega) h4
    obtain ⟨p',n',q',e,g⟩ := desc_ok f (kas_rev p (n - (q + 1)) n) (n + 1) 0 (by omega) (by rw [kas_rev_size]; omega) (step _ (mirror_perm _ _ _ _) (kas_rev_size _ _) hE) (λ k k1 k2 => by rw [show k = n + 1 - 1 by omega])
    refine ⟨p',n',q',?_,by omega,by omega,g.2.2.1,g.2.2.2.1.trans (mirror_perm _ _ _ _),g.2.2.2.2.1.trans (kas_rev_size _ _),g.2.2.2.2.2⟩
    show kRun _ (if ltK key _ _ = true then _ else _) = _
    rw [if_pos (decide_eq_true (show key (p.getD n 0) < key (p.getD (n - 1) 0) from h)),if_pos hq]
    exact e
   ·obtain ⟨p',n',q',e,g⟩ := desc_ok f p (n + 1) 0 (by omega) (by omega) (step _ (Array.Perm.refl _) rfl λ _ => rfl) (λ k k1 k2 => by rw [show k = n + 1 - 1 by omega])
    refine ⟨p',n',q',?_,by omega,by omega,g.2.2⟩
    show kRun _ (if ltK key _ _ = true then _ else _) = _
    rw [if_pos (decide_eq_true (show key (p.getD n 0) < key (p.getD (n - 1) 0) from h)),if_neg hq]
    exact e
  ·by_cases h' : KQ key p (n - 1) < KQ key p n
   ·refine ⟨p,n,q,?_,Nat.le_refl _,by omega,h1,Array.Perm.refl _,rfl,h3,h4⟩
    show kRun _ (if ltK key _ _ = true then _ else _) = _
    rw [if_neg (by simpa [ltK] using (show ¬ key (p.getD n 0) < key (p.getD (n - 1) 0) from h))]
    show kRun _ (if ltK key _ _ = true then _ else _) = _
    rw [if_pos (decide_eq_true (show key (p.getD (n - 1) 0) < key (p.getD n 0) from h'))]
    rfl
   ·have he : KQ key p n = KQ key p (n - 1) := by omega
    obtain ⟨p',n',q',e,g⟩ := desc_ok f p (n + 1) (q + 1) (by omega) (by omega) (λ i j hij hj => by
     by_cases hjn : j = n
     ·subst hjn
      by_cases hin : i = j
      ·subst hin; exact Int.le_refl _
      ·have := h3 i (j - 1) (by omega) (by omega); omega
     ·exact h3 i j hij (by omega)) (λ k k1 k2 => by
     show _ = KQ key p n
     by_cases hkn : k = n
     ·subst hkn; rfl
     ·rw [h4 k (by omega) (by omega),he])
    refine ⟨p',n',q',?_,by omega,by omega,g.2.2⟩
    show kRun _ (if ltK key _ _ = true then _ else _) = _
    rw [if_neg (by simpa [ltK] using (show ¬ key (p.getD n 0) < key (p.getD (n - 1) 0) from h))]
    show kRun _ (if ltK key _ _ = true then _ else _) = _
    rw [if_neg (by simpa [ltK] using (show ¬ key (p.getD (n - 1) 0) < key (p.getD n 0) from h'))]
    exact e
def Srt (p : Array Nat) (m : Nat) : Prop := ∀ i j,i <= j -> j < m -> KQ key p i <= KQ key p j
theorem srt_adj {p : Array Nat} {m : Nat} (h : ∀ k,1 <= k -> k < m -> KQ key p (k - 1) <= KQ key p k) : Srt key p m := by
  intro i j hij hj
  induction j with
  | zero => have : i = 0 := by omega
            subst this; exact Int.le_refl _
  | succ j ih =>
    by_cases e : i = j + 1
    · subst e; exact Int.le_refl _
    · exact Int.le_trans (ih (by omega) (by omega)) (h (j + 1) (by omega) hj)
theorem tail3_ok {n nrem : Nat} {p : Array Nat} (h1 : 1 <= n) (hn : n <= nrem) (hz : nrem <= p.size) (h3 : ∀ i j,i <= j -> j < n -> KQ key p j <= KQ key p i) : ∃ m p',kRun (ltK key) (kas_tail3 n nrem p) = (m,p') /\ 1 <= m /\ m <= nrem /\ p'.Perm p /\ p'.size = p.size /\ Srt key p' m := by
 obtain ⟨m,e,g1,g2,g3,g4⟩ := asc_ok key (kas_rev p 0 n) (nrem - n) n
 refine ⟨m,kas_rev p 0 n,?_,by omega,by omega,mirror_perm _ _ _ _,kas_rev_size _ _,srt_adj key λ k k1 k2 => ?_⟩
 ·unfold kas_tail3
  rw [Q2t,e]
  rfl
 ·by_cases hk : n <= k
  ·exact g3 k hk k2
  ·rw [KQ_rev key (by omega),KQ_rev key (by omega),if_pos (by omega),if_pos (by omega)]
   exact h3 _ _ (by omega) (by omega)
theorem descPart_ok {n nrem : Nat} {p : Array Nat} (h1 : 1 <= n) (hn : n + 1 <= nrem) (hz : nrem <= p.size) (h3 : ∀ i j,i <= j -> j < n + 1 -> KQ key p j <= KQ key p i) : ∃ m p',kRun (ltK key) (kas_descPart n nrem p) = (m,p') /\ 1 <= m /\ m <= nrem /\ p'.Perm p /\ p'.size = p.size /\ Srt key p' m := by
 obtain ⟨p1,n1,q1,e,g1,g2,g3,g4,g5,g6,g7⟩ := desc_ok key (nrem - (n + 1)) p (n + 1) 0 (by omega) (by omega) h3 (λ k k1 k2 => by rw [show k = n + 1 - 1 by omega])
 unfold kas_descPart
 rw [Q2t,e]
 by_cases hq : q1 > 0
 ·have hE : ∀ k,KQ key (kas_rev p1 (n1 - (q1 + 1)) n1) k = KQ key p1 k := KQ_revE key (by omega) g7
  obtain ⟨m,p',e',k1,k2,k3,k4,k5⟩ := tail3_ok key (n := n1) (nrem := nrem) (p := kas_rev p1 (n1 - (q1 + 1)) n1) (by omega) (by omega) (by rw [kas_rev_size]; omega) (λ i j hij hj => by rw [hE,hE]; exact g6 i j hij hj)
  refine ⟨m,p',?_,k1,k2,k3.trans ((mirror_perm _ _ _ _).trans g4),k4.trans ((kas_rev_size _ _).trans g5),k5⟩
  show kRun _ (if q1 > 0 then _ else _) = _
  rw [if_pos hq]
  exact e'
 ·obtain ⟨m,p',e',k1,k2,k3,k4,k5⟩ := tail3_ok key (n := n1) (nrem := nrem) (p := p1) (by omega) (by omega) (by omega) g6
  refine ⟨m,p',?_,k1,k2,k3.trans g4,k4.trans g5,k5⟩
  show kRun _ (if q1 > 0 then _ else _) = _
  rw [if_neg hq]
  exact e'
theorem count_ok {nrem : Nat} {p : Array Nat} (h1 : 1 <= nrem) (hz : nrem <= p.size) : ∃ m p',kRun (ltK key) (kas_count nrem p) = (m,p') /\ 1 <= m /\ m <= nrem /\ p'.Perm p /\ p'.size = p.size /\ Srt key p' m := by
 obtain ⟨n,e,g1,g2,g3,g4⟩ := asc_ok key p (nrem - 1) 1
 have hs : Srt key p n := srt_adj key λ k k1 k2 => g3 k k1 k2
 unfold kas_count
 rw [Q2t,e]
 by_cases hn : n = nrem
 ·refine ⟨n,p,?_,g1,by omega,Array.Perm.refl _,rfl,hs⟩
  rw [if_pos (by simpa using hn)]
  rfl
 ·rw [if_neg (by simpa using hn)]
  have hlt : KQ key p n < KQ key p (n - 1) := by
   rcases g4 with g4 | g4
   ·omega
   ·exact g4
  by_cases hn1 : n > 1
  ·rw [if_pos hn1]
   by_cases hr : KQ key p 0 < KQ key p (n - 1)
   ·refine ⟨n,p,?_,g1,by omega,Array.Perm.refl _,rfl,hs⟩
    show kRun _ (if ltK key _ _ = true then _ else _) = _
    rw [if_pos (decide_eq_true (show key (p.getD 0 0) < key (p.getD (n - 1) 0) from hr))]
    rfl
   ·have heq : ∀ k,0 <= k -> k < n -> KQ key p k = KQ key p (n - 1) := λ k _ hk => by
     have a := hs 0 k (by omega) hk
     have b := hs k (n - 1) (by omega) (by omega)
     omega
    have hE := KQ_revE key (p := p) (i := 0) (j := n) (by omega) heq
    obtain ⟨m,p',e',k1,k2,k3,k4,k5⟩ := descPart_ok key (n := n) (nrem := nrem) (p := kas_rev p 0 n) (by omega) (by omega) (by rw [kas_rev_size]; exact hz) (λ i j hij hj => by
     rw [hE,hE]
     by_cases hjn : j = n
     ·subst hjn
      by_cases hin : i = j
      ·subst hin; exact Int.le_refl _
      ·rw [heq i (by omega) (by omega)]; omega
     ·rw [heq i (by omega) (by omega),heq j (by omega) (by omega)]
      exact Int.le_refl _)
    refine ⟨m,p',?_,k1,k2,k3.trans (mirror_perm _ _ _ _),k4.trans (kas_rev_size _ _),k5⟩
    show kRun _ (if ltK key _ _ = true then _ else _) = _
    rw [if_neg (by simpa [ltK] using (show ¬ key (p.getD 0 0) < key (p.getD (n - 1) 0) from hr))]
    exact e'
  ·rw [if_neg hn1]
   obtain rfl : n = 1 := by omega
   exact descPart_ok key (by omega) (by omega) hz (λ i j hij hj => by
    by_cases hj1 : j = 1
    ·subst hj1
     by_cases hi1 : i = 1
     ·subst hi1; exact Int.le_refl _
     ·obtain rfl : i = 0 := by omega
      exact Int.le_of_lt hlt
    ·obtain rfl : j = 0 := by omega
     obtain rfl : i = 0 := by omega
     exact Int.le_refl _)
theorem place_ok (p : Array Nat) (k : Nat) (hs : Srt key p k) : ∀ (f l r : Nat),l <= r -> r <= k -> r - l <= f -> (∀ i,i < l -> KQ key p i <= KQ key p k) -> (∀ i,r <= i -> i < k -> KQ key p k < KQ key p i) ->
  ∃ m,kRun (ltK key) (kas_place p k f l r) = m /\ m <= k /\ (∀ i,i < m -> KQ key p i <= KQ key p k) /\ (∀ i,m <= i -> i < k -> KQ key p k < KQ key p i)
 | 0,l,r,h1,h2,h3,h4,h5 => ⟨l,rfl,by omega,h4,λ i g1 g2 => h5 i (by omega) g2⟩
 | f + 1,l,r,h1,h2,h3,h4,h5 => by
  by_cases hlr : l >= r
  ·refine ⟨l,?_,by omega,h4,λ i g1 g2 => h5 i (by omega) g2⟩
   show kRun _ (if l >= r then _ else _) = _
   rw [if_pos hlr]; rfl
  ·by_cases hc : KQ key p k < KQ key p ((l + r) / 2)
   ·obtain ⟨m,e,g1,g2,g3⟩ := place_ok p k hs f l ((l + r) / 2) (by omega) (by omega) (by omega) h4 (λ i i1 i2 => by
     have := hs ((l + r) / 2) i i1 i2; omega)
    refine ⟨m,?_,g1,g2,g3⟩
    show kRun _ (if l >= r then _ else _) = _
    rw [if_neg hlr]
    show kRun _ (if ltK key _ _ = true then _ else _) = _
    rw [if_pos (decide_eq_true (show key (p.getD k 0) < key (p.getD ((l + r) / 2) 0) from hc))]
    exact e
   ·obtain ⟨m,e,g1,g2,g3⟩ := place_ok p k hs f ((l + r) / 2 + 1) r (by omega) h2 (by omega) (λ i i1 => by
     have := hs i ((l + r) / 2) (by omega) (by omega); omega) h5
    refine ⟨m,?_,g1,g2,g3⟩
    show kRun _ (if l >= r then _ else _) = _
    rw [if_neg hlr]
    show kRun _ (if ltK key _ _ = true then _ else _) = _
    rw [if_neg (by simpa [ltK] using (show ¬ key (p.getD k 0) < key (p.getD ((l + r) / 2) 0) from hc))]
    exact e
end
end DL
set_option maxHeartbeats 2000000
namespace DL
open PySem PySem.Spec PyProof.Rows L2 PySem.W
def SIt (k : Bool) (h : Heap) (it l : Addr) (i : Nat) : Prop := if k then h.IsListIter it l i else h.IsTupleIter it l i
def SSq (k : Bool) (h : Heap) (l : Addr) (xs : Array Value) : Prop := if k then h.IsList l xs else h.IsTuple l xs
section
variable {k : Bool} {h h' : Heap} {it l b : Addr} {i : Nat} {xs : Array Value}
theorem SIt.at (q : SIt k h it l i) (e : ∀ o,h.get? it = some o -> h'.get? it = some o) : SIt k h' it l i := by
 cases k with
 | true => obtain ⟨o,g,r⟩ := (q : h.IsListIter it l i); exact ⟨o,e o g,r⟩
 | false => obtain ⟨o,g,r⟩ := (q : h.IsTupleIter it l i); exact ⟨o,e o g,r⟩
theorem SSq.at (q : SSq k h l xs) (e : ∀ o,h.get? l = some o -> h'.get? l = some o) : SSq k h' l xs := by
 cases k with
 | true => obtain ⟨o,g,r⟩ := (q : h.IsList l xs); exact ⟨o,e o g,r⟩
 | false => obtain ⟨o,g,r⟩ := (q : h.IsTuple l xs); exact ⟨o,e o g,r⟩
theorem SIt.obj (q : SIt k h it l i) : ∃ o,h.get? it = some o /\ ∀ v,o.data ≠ .cell v := by
 cases k with
 | true => obtain ⟨o,g,c,d⟩ := (q : h.IsListIter it l i); exact ⟨o,g,λ v z => by rw [d] at z; cases z⟩
 | false => obtain ⟨o,g,c,d⟩ := (q : h.IsTupleIter it l i); exact ⟨o,g,λ v z => by rw [d] at z; cases z⟩
end
theorem drawn_by {prog : Program} {w : World} {A : Around} {E : Value -> Shared -> Prop} {s : Shared} {T id : String} {b : Builtin} {v : Value} {Q : Value -> Shared -> Prop} (hT : s.TypeIs v T) (sl : Slot T (Str.ofString "__next__") id) (en : entryFor table id = some b) (ok : argsOk id ⟨[v],[]⟩)
  (h : wpAny (model prog w) A.in1 (b ⟨[v],[]⟩) (λ fin s' => ∃ x,fin = .done (.ret x) /\ Q x s') E s) : wpAny (model prog w) A (Builtin.SmallTypes.nextOf v) Q E s :=
 wpAny_bind (wpAny_callSpecial?_slot hT sl (wpAny_call_entry sl hT en (wpAny_mono h (λ fin s' ⟨x,e,q⟩ => ⟨x,e,wpAny_pure q⟩) λ _ _ e => e) ok))
section
variable {prog : Program} {w : World} {A : Around} {E : Value -> Shared -> Prop} {s : Shared} {it l : Addr} {i : Nat} {xs : Array Value} {Q : Value -> Shared -> Prop}
theorem tup_item {x : Value} (q : s.heap.IsTupleIter it l i) (t : s.heap.IsTuple l xs) (hx : xs[i]? = some x) (hQ : ∀ h',h'.IsTupleIter it l (i + 1) -> Heap.SameBut it s.heap h' -> Q x { s with heap := h' }) : wpAny (model prog w) A (Builtin.SmallTypes.nextOf (.ref it)) Q E s := by
 refine drawn_by q.typeIs F.slot_tuple_iterator_next F.entry_tuple_iterator_next (F.args_tuple_iterator_next_1 _) ?_
 obtain ⟨h,g,d,tk,os⟩ := s
 obtain ⟨⟨c,dc,da,sl⟩,gi,rfl,rfl⟩ := q
 obtain ⟨⟨c,dc,da,sl⟩,gt,rfl,n,rfl⟩ := t
 dsimp only at gi gt hQ
 wp_walk
 rw [Int.toNat_natCast,hx]
 wp_walk
 exact ⟨x,rfl,hQ _ ⟨_,Heap.get?_update_self _ gi rfl,rfl,by simp [Obj.mapFields,rawInt]⟩ (Heap.SameBut.update ..)⟩
theorem tup_end (hh : A.handled = none) (q : s.heap.IsTupleIter it l i) (t : s.heap.IsTuple l xs) (hx : xs[i]? = none) (hE : ∀ h' e,Heap.ExtBut it s.heap h' -> (∃ o,h'.get? e = some o /\ o.cls = .type "StopIteration") -> E (.ref e) { s with heap := h' }) : wpAny (model prog w) A (Builtin.SmallTypes.nextOf (.ref it)) Q E s := by
 refine drawn_by q.typeIs F.slot_tuple_iterator_next F.entry_tuple_iterator_next (F.args_tuple_iterator_next_1 _) ?_
 obtain ⟨h,g,d,tk,os⟩ := s
 obtain ⟨⟨c,dc,da,sl⟩,gi,rfl,rfl⟩ := q
 obtain ⟨⟨c,dc,da,sl⟩,gt,rfl,n,rfl⟩ := t
 dsimp only at gi gt hE
 have hh1 : A.in1.handled = none := hh
 wp_walk
 rw [Int.toNat_natCast,hx]
 wp_walk
 unfold raiseNew
 wp_walk
 exact hE _ _ (λ b u hb e => Heap.get?_push_of_some _ (Heap.get?_push_of_some _ ((Heap.get?_update_ne _ _ _ _ hb).trans e))) ⟨_,Heap.get?_push_size _ rfl,rfl⟩
theorem sq_item {k : Bool} {x : Value} (q : SIt k s.heap it l i) (t : SSq k s.heap l xs) (hx : xs[i]? = some x) (hQ : ∀ h',SIt k h' it l (i + 1) -> Heap.SameBut it s.heap h' -> Q x { s with heap := h' }) : wpAny (model prog w) A (Builtin.SmallTypes.nextOf (.ref it)) Q E s :=
 match k with
 | true => wpAny_nextOf_list_item q t hx hQ
 | false => tup_item q t hx hQ
theorem sq_end {k : Bool} (hh : A.handled = none) (q : SIt k s.heap it l i) (t : SSq k s.heap l xs) (hx : xs[i]? = none) (hE : ∀ h' e,Heap.ExtBut it s.heap h' -> (∃ o,h'.get? e = some o /\ o.cls = .type "StopIteration") -> E (.ref e) { s with heap := h' }) : wpAny (model prog w) A (Builtin.SmallTypes.nextOf (.ref it)) Q E s :=
 match k with
 | true => wpAny_nextOf_list_end hh q t hx hE
 | false => tup_end hh q t hx hE
end
def zObj (n : Nat) (f0 f1 : Value) : Obj := { cls := .type "zip",dict := none,data := .fields #[f0,f1,.bool false,.ref (n + 2),.ref (n + 3)],slots := #[] }
structure ZW (n : Nat) (k1 k2 : Bool) (l1 l2 i1 i2 : Nat) (xs ys : Array Value) (f0 f1 a b : Value) (h : Heap) : Prop where
 z : h.get? (n + 4) = some { cls := .type "zip",dict := none,data := .fields #[f0,f1,.bool false,.ref (n + 2),.ref (n + 3)],slots := #[] }
 ti : h.get? (n + 2) = some { cls := .type "tuple",data := .seq #[.ref n,.ref (n + 1)] }
 to : h.get? (n + 3) = some { cls := .type "tuple",data := .seq #[a,b] }
 w1 : SIt k1 h n l1 i1
 w2 : SIt k2 h (n + 1) l2 i2
 s1 : SSq k1 h l1 xs
 s2 : SSq k2 h l2 ys
 b1 : l1 < n
 b2 : l2 < n
theorem ap {x y : Nat} (h : x ≠ y) : @Ne Addr x y := h
def Oth (n : Nat) (h h' : Heap) : Prop := ∀ c o,c ≠ n + 4 -> c ≠ n + 3 -> c ≠ n -> c ≠ n + 1 -> h.get? c = some o -> h'.get? c = some o
theorem Oth.refl (n : Nat) (h : Heap) : Oth n h h := λ _ _ _ _ _ _ e => e
theorem Oth.on {n : Nat} {h h1 h2 : Heap} (p : Oth n h h1) (q : Oth n h1 h2) : Oth n h h2 := λ c o c1 c2 c3 c4 e => q c o c1 c2 c3 c4 (p c o c1 c2 c3 c4 e)
theorem Oth.of {n c : Nat} {h h' : Heap} (e : Heap.SameBut c h h') (m : c = n + 4 \/ c = n + 3 \/ c = n \/ c = n + 1) : Oth n h h' :=
 λ d o d1 d2 d3 d4 q => e.extBut _ _ (by rcases m with rfl | rfl | rfl | rfl <;> assumption) q
section
variable {prog : Program} {w : World} {A : Around} {E : Value -> Shared -> Prop} {s : Shared} {n l1 l2 i1 i2 : Nat} {k1 k2 : Bool} {xs ys : Array Value} {f0 f1 a b v : Value}
theorem ZW.mark0 {Q : Unit -> Shared -> Prop} (W : ZW n k1 k2 l1 l2 i1 i2 xs ys f0 f1 a b s.heap) (hQ : ∀ h',ZW n k1 k2 l1 l2 i1 i2 xs ys v f1 a b h' -> Oth n s.heap h' -> h'.objs.size = s.heap.objs.size -> Q () { s with heap := h' }) : wpAny (model prog w) A (setField (.ref (n + 4)) 0 v) Q E s :=
 wpAny_setField_rec W.z (by simp) λ h' g e => hQ h' ⟨g,e.extBut _ _ (ap (by omega)) W.ti,e.extBut _ _ (ap (by omega)) W.to,W.w1.at λ o => e.extBut _ _ (ap (by omega)),W.w2.at λ o => e.extBut _ _ (ap (by omega)),W.s1.at λ o => e.extBut _ _ (ap (by have := W.b1; omega)),W.s2.at λ o => e.extBut _ _ (ap (by have := W.b2; omega)),W.b1,W.b2⟩ (.of e (.inl rfl)) e.1
theorem ZW.mark1 {Q : Unit -> Shared -> Prop} (W : ZW n k1 k2 l1 l2 i1 i2 xs ys f0 f1 a b s.heap) (hQ : ∀ h',ZW n k1 k2 l1 l2 i1 i2 xs ys f0 v a b h' -> Oth n s.heap h' -> h'.objs.size = s.heap.objs.size -> Q () { s with heap := h' }) : wpAny (model prog w) A (setField (.ref (n + 4)) 1 v) Q E s :=
 wpAny_setField_rec W.z (by simp) λ h' g e => hQ h' ⟨g,e.extBut _ _ (ap (by omega)) W.ti,e.extBut _ _ (ap (by omega)) W.to,W.w1.at λ o => e.extBut _ _ (ap (by omega)),W.w2.at λ o => e.extBut _ _ (ap (by omega)),W.s1.at λ o => e.extBut _ _ (ap (by have := W.b1; omega)),W.s2.at λ o => e.extBut _ _ (ap (by have := W.b2; omega)),W.b1,W.b2⟩ (.of e (.inl rfl)) e.1
theorem ZW.put {j : Nat} {Q : Unit -> Shared -> Prop} (W : ZW n k1 k2 l1 l2 i1 i2 xs ys f0 f1 a b s.heap) (hQ : ∀ h',ZW n k1 k2 l1 l2 i1 i2 xs ys f0 f1 (if j = 0 then v else a) (if j = 1 then v else b) h' -> Oth n s.heap h' -> h'.objs.size = s.heap.objs.size -> Q () { s with heap := h' }) : wpAny (model prog w) A (updateSeq (n + 3) (·.setIfInBounds j v)) Q E s :=
 wpAny_updateSeq_pair W.to λ h' g e => hQ h' ⟨e.extBut _ _ (ap (by omega)) W.z,e.extBut _ _ (ap (by omega)) W.ti,by rw [g]; match j with | 0 => rfl | 1 => rfl | _ + 2 => rfl,W.w1.at λ o => e.extBut _ _ (ap (by omega)),W.w2.at λ o => e.extBut _ _ (ap (by omega)),W.s1.at λ o => e.extBut _ _ (ap (by have := W.b1; omega)),W.s2.at λ o => e.extBut _ _ (ap (by have := W.b2; omega)),W.b1,W.b2⟩ (.of e (.inr (.inl rfl))) e.1
theorem ZW.draw1 {x : Value} {Q : Value -> Shared -> Prop} (W : ZW n k1 k2 l1 l2 i1 i2 xs ys f0 f1 a b s.heap) (hx : xs[i1]? = some x) (hQ : ∀ h',ZW n k1 k2 l1 l2 (i1 + 1) i2 xs ys f0 f1 a b h' -> Oth n s.heap h' -> h'.objs.size = s.heap.objs.size -> Q x { s with heap := h' }) : wpAny (model prog w) A (Builtin.SmallTypes.nextOf (.ref n)) Q E s :=
 sq_item W.w1 W.s1 hx λ h' g e => hQ h' ⟨e.extBut _ _ (ap (by omega)) W.z,e.extBut _ _ (ap (by omega)) W.ti,e.extBut _ _ (ap (by omega)) W.to,g,W.w2.at λ o => e.extBut _ _ (ap (by omega)),W.s1.at λ o => e.extBut _ _ (ap (by have := W.b1; omega)),W.s2.at λ o => e.extBut _ _ (ap (by have := W.b2; omega)),W.b1,W.b2⟩ (.of e (.inr (.inr (.inl rfl)))) e.1
theorem ZW.draw2 {y : Value} {Q : Value -> Shared -> Prop} (W : ZW n k1 k2 l1 l2 i1 i2 xs ys f0 f1 a b s.heap) (hy : ys[i2]? = some y) (hQ : ∀ h',ZW n k1 k2 l1 l2 i1 (i2 + 1) xs ys f0 f1 a b h' -> Oth n s.heap h' -> h'.objs.size = s.heap.objs.size -> Q y { s with heap := h' }) : wpAny (model prog w) A (Builtin.SmallTypes.nextOf (.ref (n + 1))) Q E s :=
 sq_item W.w2 W.s2 hy λ h' g e => hQ h' ⟨e.extBut _ _ (ap (by omega)) W.z,e.extBut _ _ (ap (by omega)) W.ti,e.extBut _ _ (ap (by omega)) W.to,W.w1.at λ o => e.extBut _ _ (ap (by omega)),g,W.s1.at λ o => e.extBut _ _ (ap (by have := W.b1; omega)),W.s2.at λ o => e.extBut _ _ (ap (by have := W.b2; omega)),W.b1,W.b2⟩ (.of e (.inr (.inr (.inr rfl)))) e.1
def ZF (f0 : Value) : Prop := f0 = .none \/ ∃ c : Nat,f0 = rawInt (c : Int)
theorem alive_as {M : Model} {c : Addr} {Q : Option Obj -> Shared -> Prop} (h : Q (s.heap.get? c) s) : wpAny M A (loadIfAlive c) Q E s := λ _ _ _ => h
theorem ZW.free {Q : Bool -> Shared -> Prop} (W : ZW n k1 k2 l1 l2 i1 i2 xs ys f0 f1 a b s.heap) (hf : ZF f0) (y : Q true s) (z : ∀ h' f,ZW n k1 k2 l1 l2 i1 i2 xs ys f0 f a b h' -> Oth n s.heap h' -> h'.objs.size = s.heap.objs.size -> Q false { s with heap := h' }) : wpAny (model prog w) A (Builtin.SmallTypes.ownedTupleIsFree (.ref (n + 4))) Q E s := by
 obtain ⟨h,g,d,tk,os⟩ := s
 have hz := W.z
 dsimp only at hz
 rcases hf with rfl | ⟨c,rfl⟩
 ·wp_walk
  exact y
 ·wp_walk using alive_as
  cases h.get? (Int.toNat (c : Int)) with
  | none => wp_walk; exact y
  | some o =>
   by_cases m : f1 = .bool true
   ·subst m
    wp_walk
    exact z _ _ W (Oth.refl _ _) rfl
   ·wp_walk using W.mark1
    exact λ h' V o1 o2 => wpAny_pure (z h' _ V o1 o2)
theorem for_two {M : Model} {β : Type} {x y : Value} {b : β} {f : Value -> β -> Sem (ForInStep β)} {Q : β -> Shared -> Prop} (h : wpAny M A (forIn [x,y] b f) Q E s) : wpAny M A (forIn #[x,y] b f) Q E s := by
 rw [<- Array.forIn_toList]; exact h
theorem ZW.more {h : Heap} {o : Obj} (W : ZW n k1 k2 l1 l2 i1 i2 xs ys f0 f1 a b h) : ZW n k1 k2 l1 l2 i1 i2 xs ys f0 f1 a b (h.push o) :=
 have e : ∀ c u,h.get? c = some u -> (h.push o).get? c = some u := λ c u q => Heap.get?_push_of_some _ q
 ⟨e _ _ W.z,e _ _ W.ti,e _ _ W.to,W.w1.at (e _),W.w2.at (e _),W.s1.at (e _),W.s2.at (e _),W.b1,W.b2⟩
theorem Oth.more {h h' : Heap} {o : Obj} (p : Oth n h h') : Oth n h (h'.push o) := p.on λ c u _ _ _ _ q => Heap.get?_push_of_some _ q
theorem zip_item {i : Nat} {x y : Value} {Q : Value -> Shared -> Prop} (W : ZW n k1 k2 l1 l2 i i xs ys f0 f1 a b s.heap) (hf : ZF f0) (hx : xs[i]? = some x) (hy : ys[i]? = some y)
  (hQ : ∀ h' f0' f1' a' b',ZW n k1 k2 l1 l2 (i + 1) (i + 1) xs ys f0' f1' a' b' h' -> ZF f0' -> IsPair h' s.heap.objs.size x y -> Oth n s.heap h' -> Q (.ref s.heap.objs.size) { s with heap := h' }) :
  wpAny (model prog w) A (Builtin.«zip.__next__» ⟨[.ref (n + 4)],[]⟩) (λ fin s' => ∃ v,fin = .done (.ret v) /\ Q v s') E s := by
 obtain ⟨h,g,d,tk,os⟩ := s
 dsimp only at W hQ
 have z := W.z
 have t := W.ti
 have ok : ∀ h4 : Heap,h4.objs.size = h.objs.size -> ∀ v,(h4.push v).objs.size = h.objs.size + 1 := λ h4 e v => by rw [Heap.size_push,e]
 have lt : n + 4 < h.objs.size := Heap.lt_size z
 wp_walk using W.free hf,W.mark0
 ·-- the pair is used again
  intro h1 W1 o1 z1
  have t1 := W1.to
  wp_walk using wpAny_onRaise,W1.draw1 hx
  intro h2 W2 o2 z2
  have t2 := W2.to
  wp_walk using W2.put
  intro h3 W3 o3 z3
  wp_walk using wpAny_onRaise,W3.draw2 hy
  intro h4 W4 o4 z4
  have t4 := W4.to
  wp_walk using W4.put
  intro h5 W5 o5 z5
  have t5 := W5.to
  wp_walk using W5.more.mark0
  intro h6 W6 o6 z6
  wp_walk using W6.mark1
  intro h7 W7 o7 z7
  wp_walk
  have ol : Oth n h h5 := o1.on (o2.on (o3.on (o4.on o5)))
  have zl : h5.objs.size = h.objs.size := z5.trans (z4.trans (z3.trans (z2.trans z1)))
  have pr : IsPair (h5.push { cls := .type "tuple",data := .seq #[x,y] }) h5.objs.size x y := Heap.get?_push_size _ rfl
  have fin := hQ h7 _ _ _ _ W7 (.inr ⟨_,rfl⟩)
  rw [<- zl] at fin
  have far : ∀ j,j <= 4 -> h5.objs.size ≠ n + j := λ j hj => by omega
  exact ⟨_,rfl,fin (o7 _ _ (far 4 (by decide)) (far 3 (by decide)) (far 0 (by decide)) (far 1 (by decide)) (o6 _ _ (far 4 (by decide)) (far 3 (by decide)) (far 0 (by decide)) (far 1 (by decide)) pr)) (ol.more.on (o6.on o7))⟩
 ·intro h1 f W1 o1 z1
  wp_walk using for_two,W1.draw1 hx
  intro h2 W2 o2 z2
  wp_walk using W2.draw2 hy
  intro h3 W3 o3 z3
  wp_walk
  have zl : h3.objs.size = h.objs.size := z3.trans (z2.trans z1)
  have fin := hQ (h3.push { cls := .type "tuple",data := .seq #[x,y] }) _ _ _ _ W3.more hf
  rw [<- zl] at fin
  exact ⟨_,rfl,fin (Heap.get?_push_size _ rfl) (o1.on (o2.on o3)).more⟩
def ZE (n : Nat) (h : Heap) (f0 f1 : Value) (h' : Heap) (e : Addr) : Prop := h'.get? (n + 4) = some (zObj n f0 f1) /\ Oth n h h' /\ ∃ o,h'.get? e = some o /\ o.cls = .type "StopIteration"
theorem ZW.end1 {Q : Value -> Shared -> Prop} (hh : A.handled = none) (W : ZW n k1 k2 l1 l2 i1 i2 xs ys f0 f1 a b s.heap) (hx : xs[i1]? = none) (hE : ∀ h' e,ZE n s.heap f0 f1 h' e -> E (.ref e) { s with heap := h' }) : wpAny (model prog w) A (Builtin.SmallTypes.nextOf (.ref n)) Q E s :=
 sq_end hh W.w1 W.s1 hx λ h' e x y => hE h' e ⟨x _ _ (ap (by omega)) W.z,λ c o _ _ c3 _ q => x c o c3 q,y⟩
theorem ZW.end2 {Q : Value -> Shared -> Prop} (hh : A.handled = none) (W : ZW n k1 k2 l1 l2 i1 i2 xs ys f0 f1 a b s.heap) (hy : ys[i2]? = none) (hE : ∀ h' e,ZE n s.heap f0 f1 h' e -> E (.ref e) { s with heap := h' }) : wpAny (model prog w) A (Builtin.SmallTypes.nextOf (.ref (n + 1))) Q E s :=
 sq_end hh W.w2 W.s2 hy λ h' e x y => hE h' e ⟨x _ _ (ap (by omega)) W.z,λ c o _ _ _ c4 q => x c o c4 q,y⟩
theorem zip_end {i : Nat} {Q : PySem.Fin -> Shared -> Prop} (hh : A.handled = none) (W : ZW n k1 k2 l1 l2 i i xs ys f0 f1 a b s.heap) (hf : ZF f0) (he : xs[i]? = none \/ ys[i]? = none)
  (hE : ∀ h' e,Oth n s.heap h' -> (∃ o,h'.get? e = some o /\ o.cls = .type "StopIteration") -> E (.ref e) { s with heap := h' }) :
  wpAny (model prog w) A (Builtin.«zip.__next__» ⟨[.ref (n + 4)],[]⟩) Q E s := by
 obtain ⟨h,g,d,tk,os⟩ := s
 dsimp only at W hE
 have z := W.z
 have t := W.ti
 have hb : ∀ h1 h2 e f,Oth n h h1 -> ZE n h1 f f1 h2 e -> wpAny (model prog w) A (setField (.ref (n + 4)) 0 .none) (λ _ s' => E (.ref e) s') E ⟨h2,g,d,tk,os⟩ := λ h1 h2 e f p ⟨g2,p2,o,q,c⟩ =>
  wpAny_setField_rec g2 (by simp [zObj]) λ h3 g3 e3 => hE h3 e (p.on (p2.on (.of e3 (.inl rfl)))) ⟨o,e3.extBut _ _ (λ x => by subst x; rw [g2] at q; cases q; simp [zObj] at c) q,c⟩
 wp_walk using W.free hf,W.mark0
 ·intro h1 W1 o1 z1
  have t1 := W1.to
  cases hx : xs[i]? with
  | none =>
   wp_walk using wpAny_onRaise,W1.end1 hh hx
   exact λ h2 e q => hb h1 h2 e _ o1 q
  | some x =>
   have hy : ys[i]? = none := he.resolve_left (by rw [hx]; simp)
   wp_walk using wpAny_onRaise,W1.draw1 hx
   intro h2 W2 o2 z2
   have t2 := W2.to
   wp_walk using W2.put
   intro h3 W3 o3 z3
   wp_walk using wpAny_onRaise,W3.end2 hh hy
   exact λ h4 e q => hb h3 h4 e _ (o1.on (o2.on o3)) q
 ·intro h1 f W1 o1 z1
  cases hx : xs[i]? with
  | none =>
   wp_walk using for_two,W1.end1 hh hx
   exact λ h2 e q => hE h2 e (o1.on q.2.1) q.2.2
  | some x =>
   have hy : ys[i]? = none := he.resolve_left (by rw [hx]; simp)
   wp_walk using for_two,W1.draw1 hx
   intro h2 W2 o2 z2
   wp_walk using W2.end2 hh hy
   exact λ h3 e q => hE h3 e (o1.on (o2.on q.2.1)) q.2.2
end
section
variable {prog : Program} {w : World} {A : Around} {E : Value -> Shared -> Prop} {s : Shared} {n l1 l2 i1 i2 i : Nat} {k1 k2 : Bool} {xs ys : Array Value} {f0 f1 a b v : Value}
theorem next_by {T id : String} {bi : Builtin} {Q : Option Value -> Shared -> Prop} (hT : s.TypeIs v T) (sl : Slot T (Str.ofString "__next__") id) (en : entryFor table id = some bi) (ok : argsOk id ⟨[v],[]⟩)
  (h : wpAny (model prog w) A.in1 (bi ⟨[v],[]⟩) (λ fin s' => ∃ x,fin = .done (.ret x) /\ Q (some x) s') (λ e s' => s'.TypeIs e "StopIteration" /\ Q none s') s) : wpAny (model prog w) A (pyNext v) Q E s :=
 wpAny_bind (wpAny_attempt (wpAny_callSpecial?_slot hT sl (wpAny_call_entry sl hT en (wpAny_mono h (λ fin s' ⟨x,e,q⟩ => ⟨x,e,wpAny_pure q⟩) λ e s' ⟨t,q⟩ => wpAny_bind (wpAny_isInstance (T := "StopIteration") (b := true) t isSubtype_stop (wpAny_pure q))) ok)))
def ztn (k1 k2 : Bool) (n l1 l2 i : Nat) (h : Heap) : Prop := ∃ f0 f1 a b,ZF f0 /\ h.get? (n + 4) = some (zObj n f0 f1) /\ IsPair h (n + 2) (.ref n) (.ref (n + 1)) /\ IsPair h (n + 3) a b /\ SIt k1 h n l1 i /\ SIt k2 h (n + 1) l2 i
theorem ZW.tn {h : Heap} (W : ZW n k1 k2 l1 l2 i i xs ys f0 f1 a b h) (hf : ZF f0) : ztn k1 k2 n l1 l2 i h := ⟨f0,f1,a,b,hf,W.z,W.ti,W.to,W.w1,W.w2⟩
theorem next_zip {x y : Value} {Q : Option Value -> Shared -> Prop} (W : ZW n k1 k2 l1 l2 i i xs ys f0 f1 a b s.heap) (hf : ZF f0) (hx : xs[i]? = some x) (hy : ys[i]? = some y)
  (hQ : ∀ h' f0' f1' a' b',ZW n k1 k2 l1 l2 (i + 1) (i + 1) xs ys f0' f1' a' b' h' -> ZF f0' -> IsPair h' s.heap.objs.size x y -> Oth n s.heap h' -> Q (some (.ref s.heap.objs.size)) { s with heap := h' }) : wpAny (model prog w) A (pyNext (.ref (n + 4))) Q E s :=
 next_by ⟨_,W.z,rfl⟩ F.slot_zip_next F.entry_zip_next (F.args_zip_next_1 _) (zip_item (Q := λ v s' => Q (some v) s') W hf hx hy hQ)
theorem next_zip_end {Q : Option Value -> Shared -> Prop} (hh : A.handled = none) (W : ZW n k1 k2 l1 l2 i i xs ys f0 f1 a b s.heap) (hf : ZF f0) (he : xs[i]? = none \/ ys[i]? = none) (hQ : ∀ h',Oth n s.heap h' -> Q none { s with heap := h' }) : wpAny (model prog w) A (pyNext (.ref (n + 4))) Q E s :=
 next_by ⟨_,W.z,rfl⟩ F.slot_zip_next F.entry_zip_next (F.args_zip_next_1 _) (zip_end hh W hf he λ h' e p q => ⟨q,hQ h' p⟩)
theorem go_zip {tg : Expr} {u : Value} {Q : Unit -> Shared -> Prop} (W : ZW n k1 k2 l1 l2 i1 i2 xs ys f0 f1 a b s.heap) (hf : ZF f0) (hQ : ∀ h' f,ZW n k1 k2 l1 l2 i1 i2 xs ys f f1 a b h' -> ZF f -> Oth n s.heap h' -> Q () { s with heap := h' }) : wpAny (model prog w) A (letOwnedTupleGo tg (.ref (n + 4)) u) Q E s := by
 have same : Q () s := hQ s.heap _ W hf (Oth.refl _ _)
 obtain ⟨h,g,d,tk,os⟩ := s
 have z := W.z
 dsimp only at z
 unfold letOwnedTupleGo
 cases tg <;> try exact wpAny_pure same
 all_goals cases u <;> try exact wpAny_pure same
 all_goals
  wp_walk
  split
  ·exact wpAny_bind (wpAny_rule (W.mark0 (s := ⟨h,g,d,tk,os⟩) (v := .none) λ h' V o z => hQ h' _ V (.inl rfl) o))
  ·exact wpAny_pure same
theorem own_iter {T id nid : String} {bi : Builtin} {Q : Value -> Shared -> Prop} (hT : s.TypeIs v T) (sl : Slot T (Str.ofString "__iter__") id) (en : entryFor table id = some bi) (ok : argsOk id ⟨[v],[]⟩) (nx : Slot T (Str.ofString "__next__") nid)
  (h : wpAny (model prog w) A.in1 (bi ⟨[v],[]⟩) (λ fin s' => fin = .done (.ret v) /\ s' = s) E s) (q : Q v s) : wpAny (model prog w) A (pyIter v) Q E s :=
 wpAny_pyIter_slot hT sl (wpAny_call_entry sl hT en (wpAny_mono h (λ fin s' ⟨e1,e2⟩ => ⟨v,e1,T,_,by rw [e2]; exact hT,nx.lookup,by rw [e2]; exact q⟩) λ _ _ e => e) ok)
theorem iter_sq {k : Bool} {l : Addr} {Q : Value -> Shared -> Prop} (t : SSq k s.heap l xs) (hQ : ∀ o,o.isFreed = false -> (∀ h : Heap,∀ c,h.get? c = some o -> SIt k h c l 0) -> Q (.ref s.heap.objs.size) { s with heap := s.heap.push o }) : wpAny (model prog w) A (pyIter (.ref l)) Q E s :=
 match k with
 | true => wpAny_pyIter_list t (hQ _ rfl λ h c e => ⟨_,e,rfl,rfl⟩)
 | false => wpAny_pyIter_tuple t (hQ _ rfl λ h c e => ⟨_,e,rfl,rfl⟩)
end
theorem laid5 (h : Heap) (a b c d e : Obj) (fa : a.isFreed = false) (fb : b.isFreed = false) (fc : c.isFreed = false) (fd : d.isFreed = false) (fe : e.isFreed = false) :
  let m := ((((h.push a).push b).push c).push d).push e
  m.get? h.objs.size = some a /\ m.get? (h.objs.size + 1) = some b /\ m.get? (h.objs.size + 2) = some c /\ m.get? (h.objs.size + 3) = some d /\ m.get? (h.objs.size + 4) = some e /\ ∀ x o,h.get? x = some o -> m.get? x = some o := by
 have up : ∀ (k : Heap) (o : Obj) x u,k.get? x = some u -> (k.push o).get? x = some u := λ k o x u q => Heap.get?_push_of_some _ q
 have at_ : ∀ (k : Heap) (o : Obj) x,o.isFreed = false -> x = k.objs.size -> (k.push o).get? x = some o := λ k o x f q => by rw [q]; exact Heap.get?_push_size _ f
 exact ⟨up _ _ _ _ (up _ _ _ _ (up _ _ _ _ (up _ _ _ _ (at_ _ _ _ fa rfl)))),up _ _ _ _ (up _ _ _ _ (up _ _ _ _ (at_ _ _ _ fb (by simp [Heap.size_push])))),up _ _ _ _ (up _ _ _ _ (at_ _ _ _ fc (by simp [Heap.size_push]))),up _ _ _ _ (at_ _ _ _ fd (by simp [Heap.size_push])),at_ _ _ _ fe (by simp [Heap.size_push]),λ x o q => up _ _ _ _ (up _ _ _ _ (up _ _ _ _ (up _ _ _ _ (up _ _ _ _ q))))⟩
theorem zip_made (k1 k2 : Bool) (l1 l2 : Addr) (xs ys : Array Value) :
  Meets (Builtin.«zip.__new__» ⟨[.type "zip",.ref l1,.ref l2],[]⟩) (λ _ R s => SSq k1 s.heap l1 xs /\ SSq k2 s.heap l2 ys /\
   ∀ h',ZW s.heap.objs.size k1 k2 l1 l2 0 0 xs ys .none (.bool false) .none .none h' -> (∀ c o,s.heap.get? c = some o -> h'.get? c = some o) -> R (.ok (.ret (.ref (s.heap.objs.size + 4)))) { s with heap := h' }) :=
 .of_wp λ prog w A R s q => by
  obtain ⟨h,g,d,tk,os⟩ := s
  obtain ⟨t1,t2,q⟩ := q
  have hsub := sub_zip
  have lt : ∀ {k : Bool} {l : Addr} {zs : Array Value},SSq k h l zs -> l < h.objs.size := λ {k l zs} q => by
   cases k with
   | true => obtain ⟨o,g,_⟩ := (q : h.IsList l zs); exact Heap.lt_size g
   | false => obtain ⟨o,g,_⟩ := (q : h.IsTuple l zs); exact Heap.lt_size g
  have p1 := lt t1
  have p2 := lt t2
  wp_walk using iter_sq t1
  intro a1 f1 i1
  wp_walk using iter_sq (s := ⟨h.push a1,g,d,tk,os⟩) (t2.at λ o e => Heap.get?_push_of_some _ e)
  intro a2 f2 i2
  wp_walk
  simp only [Heap.size_push,Nat.add_assoc,Nat.reduceAdd]
  obtain ⟨e0,e1,e2,e3,e4,up⟩ := laid5 h a1 a2 { cls := .type "tuple",data := .seq #[.ref h.objs.size,.ref (h.objs.size + 1)] } { cls := .type "tuple",data := .seq #[.none,.none] } { cls := .type "zip",data := .fields #[.none,.bool false,.bool false,.ref (h.objs.size + 2),.ref (h.objs.size + 3)] } f1 f2 rfl rfl rfl
  exact ⟨_,rfl,q _ ⟨e4,e2,e3,i1 _ _ e0,i2 _ _ e1,t1.at (up _),t2.at (up _),p1,p2⟩ up⟩
theorem call_zip {prog : Program} {w : World} {A : Around} {E : Value -> Shared -> Prop} {s : Shared} {k1 k2 : Bool} {l1 l2 : Addr} {xs ys : Array Value} {Q : Value -> Shared -> Prop} (t1 : SSq k1 s.heap l1 xs) (t2 : SSq k2 s.heap l2 ys)
  (hQ : ∀ h',ztn k1 k2 s.heap.objs.size l1 l2 0 h' -> (∀ c o,s.heap.get? c = some o -> h'.get? c = some o) -> Q (.ref (s.heap.objs.size + 4)) { s with heap := h' }) :
  wpAny (model prog w) A (call (.type "zip") [.ref l1,.ref l2]) Q E s :=
 callType_new F.called_zip (by decide) (F.typeCall_zip_2 _ _) (F.newCall_zip_2 _ _) (λ obj => F.args_object_init_3 obj _ _) F.entry_zip_new (zip_made k1 k2 l1 l2 xs ys) ⟨t1,t2,λ h' W up => ⟨⟨_,W.z,rfl⟩,hQ h' (W.tn (.inl rfl)) up⟩⟩
def Sq (k : Bool) (K : PySem.W.Frag) (H : Hp) (a : Addr) (xs : List V) : Prop := if k then SqL K H a xs else SqT K H a xs
def Itz (k1 k2 : Bool) (K : PySem.W.Frag) (l1 l2 : Addr) : It :=
  ⟨λ i H => ∃ as bs a b,Sq k1 K H l1 as /\ Sq k2 K H l2 bs /\ as[i]? = some a /\ bs[i]? = some b,
   λ i H x H' => ∃ T a b,H T = none /\ H' = upd H T (.tup [a,b]) /\ x = .ref T /\ (∀ as,Sq k1 K H l1 as -> as[i]? = some a) /\ ∀ bs,Sq k2 K H l2 bs -> bs[i]? = some b,
   λ i H => ∃ as bs,Sq k1 K H l1 as /\ Sq k2 K H l2 bs /\ (as.length <= i \/ bs.length <= i)⟩
section
variable {X : Cx} {pins : List (Addr × Obj)} {σ : L2.St} {H : Hp} {s : Shared} {k : Bool} {a : Addr} {xs ys : List V}
theorem Q3r (I : L2.Inv X pins σ H s) (h : Sq k X.K H a xs) : ∃ its : List Value,Vals xs its /\ SSq k s.heap a its.toArray /\ xs.length <= sizeLine := by
 cases k with
 | true => obtain ⟨its,v,p,z⟩ := I.list h; exact ⟨its,v,p.isList,z⟩
 | false => obtain ⟨its,v,p,z⟩ := I.tuple h; exact ⟨its,v,(p : IsTup _ _ _),z⟩
theorem Q4I (I : L2.Inv X pins σ H s) (h : Sq k X.K H a xs) (h' : Sq k X.K H a ys) : xs = ys := by
 cases k with
 | true => exact I.list_inj h h'
 | false => exact I.tuple_inj h h'
end
theorem Q5n {X : Cx} {pins : List (Addr × Obj)} {σ : L2.St} {H : Hp} {s : Shared} {h' : Heap} {t' : Nat} {fp : List Addr} (I : L2.Inv X pins σ H s) (hf : ∀ b ∈ fp,FpOk X pins H b) (k : ∀ b o,b ∉ fp -> s.heap.get? b = some o -> h'.get? b = some o) : L2.Inv X pins σ H { s with heap := h',toks := t' } := by
 have nit : ∀ b u,H b = some u -> b ∉ fp := λ b u e z => by rw [(hf b z).1] at e; cases e
 refine I.step (g' := s.gens) (d' := s.drawn) (ch := fp) (λ b hb => ?_) (λ b o _ _ hc e _ => k b o hc e) (λ b o _ _ hc e _ => ⟨o.slots,k b o hc e⟩) (λ _ _ _ _ n => n) (λ b o hc e => ⟨o,k b o hc e⟩) (λ _ _ e => e) (λ _ _ _ e => e) (λ b ps e => ⟨#[],by rw [e]; simp⟩) (λ m hm => ?_) (λ b u e => ?_) I.bare
 ·obtain ⟨f0,f1,f2,f3,f4,f5⟩ := hf b hb
  exact ⟨f3,f1,f4,f5⟩
 ·obtain ⟨o,es,ep,ho,r⟩ := hm
  exact ⟨o,es,ep,k _ o (λ z => (hf _ z).2.1 rfl) ho,r⟩
 ·refine (I.hok b u e).stay (λ c v hc q => k c v ?_ q) (λ _ q => q) λ _ _ q => q
  rcases hc with z | z
  ·rw [z]; exact nit b u e
  ·exact nit c _ z
theorem Inv_track {X : Cx} {pins : List (Addr × Obj)} {σ : L2.St} {H : Hp} {s : Shared} {T : Addr} {o : HO} (I : L2.Inv X pins σ H s) (hT : FpOk X pins H T) (hs : X.s₀.heap.objs.size <= T) (new : Q2A X.prog X.w (upd H T o) s.heap T o) : L2.Inv X pins σ (upd H T o) s := by
 obtain ⟨f0,f1,f2,f3,f4,f5⟩ := hT
 have ne : ∀ b u,H b = some u -> b ≠ T := λ b u e z => by rw [z,f0] at e; cases e
 have sn : ∀ b o,X.s₀.heap.get? b = some o -> b ≠ T := λ b o e => Nat.ne_of_lt (Nat.lt_of_lt_of_le (Heap.lt_size e) hs)
 exact ⟨I.ok,I.os,I.bare,⟨I.base.keep,I.base.slot,λ b ob q n hx => by rw [Q0x (sn b ob q)]; exact I.base.free b ob q n hx,I.base.there,λ b xs q => by have e := I.base.tups b xs q; rw [Q0x (ne b _ e)]; exact e,λ b ob u q => by have e := I.base.frzs b ob u q; rw [Q0x (ne b _ e)]; exact e,λ b ps q => by obtain ⟨m,e⟩ := I.base.tbls b ps q; exact ⟨m,by rw [Q0x (ne b _ e)]; exact e⟩⟩,
  I.loc,I.cell,by rw [Q0x (Ne.symm f1)]; exact I.free,λ x c e => by rw [Q0x (f4 x c e)]; exact I.freeC x c e,λ p hp => by obtain ⟨a,b,c⟩ := I.pin p hp; exact ⟨a,by rw [Q0x (f5 p hp)]; exact b,c⟩,HOk_more I.hok f0 new,I.len⟩
def zfp (n : Nat) : List Addr := [n,n + 1,n + 2,n + 3,n + 4]
theorem ztn_keep {k1 k2 : Bool} {n l1 l2 i : Nat} {h h' : Heap} (st : ztn k1 k2 n l1 l2 i h) (k : ∀ b ∈ zfp n,∀ o,h.get? b = some o -> h'.get? b = some o) : ztn k1 k2 n l1 l2 i h' := by
 obtain ⟨f0,f1,a,b,hf,z,ti,to,w1,w2⟩ := st
 exact ⟨f0,f1,a,b,hf,k _ (by simp [zfp]) _ z,k _ (by simp [zfp]) _ ti,k _ (by simp [zfp]) _ to,w1.at (k _ (by simp [zfp])),w2.at (k _ (by simp [zfp]))⟩
theorem ztn_obj {k1 k2 : Bool} {n l1 l2 i : Nat} {h : Heap} (st : ztn k1 k2 n l1 l2 i h) : ∀ b ∈ zfp n,∃ o,h.get? b = some o /\ ∀ v,o.data ≠ .cell v := by
 obtain ⟨f0,f1,a,b,hf,z,ti,to,w1,w2⟩ := st
 have all : ∀ P : Addr -> Prop,P n -> P (n + 1) -> P (n + 2) -> P (n + 3) -> P (n + 4) -> ∀ b ∈ zfp n,P b := λ P p0 p1 p2 p3 p4 b hb => by
  simp only [zfp,List.mem_cons,List.not_mem_nil,or_false] at hb
  rcases hb with rfl | rfl | rfl | rfl | rfl <;> assumption
 exact all _ w1.obj w2.obj ⟨_,ti,λ v e => by cases e⟩ ⟨_,to,λ v e => by cases e⟩ ⟨_,z,λ v e => by cases e⟩
theorem zfp_out {n : Nat} {c : Addr} (h : c ∉ zfp n) : c ≠ n + 4 /\ c ≠ n + 3 /\ c ≠ n /\ c ≠ n + 1 :=
 ⟨λ e => h (by simp [zfp,e]),λ e => h (by simp [zfp,e]),λ e => h (by simp [zfp,e]),λ e => h (by simp [zfp,e])⟩
theorem Oth.fp {n : Nat} {h h' : Heap} (p : Oth n h h') : ∀ c o,c ∉ zfp n -> h.get? c = some o -> h'.get? c = some o := λ c o hc => p c o (zfp_out hc).1 (zfp_out hc).2.1 (zfp_out hc).2.2.1 (zfp_out hc).2.2.2
theorem turn_zip {P : Program} {w : World} {K : PySem.W.Frag} {tg : Expr} (k1 k2 : Bool) (n l1 l2 : Nat) (hl1 : l1 < n) (hl2 : l2 < n) : Turn P w K tg (Itz k1 k2 K l1 l2) (zfp n) (n + 4) (ztn k1 k2 n l1 l2) where
 mem := by simp [zfp]
 obj := λ i h st => ztn_obj st
 keep := λ i h h' st k => ztn_keep st k
 item := by
  intro X hP hw hK hc i pins s σ H E I hf st hg
  subst hP hw hK
  obtain ⟨as,bs,a,b,q1,q2,ga,gb⟩ := hg
  obtain ⟨ia,va,sa,_⟩ := Q3r I q1
  obtain ⟨ib,vb,sb,_⟩ := Q3r I q2
  obtain ⟨ua,hua,rua⟩ := va.get ga
  obtain ⟨ub,hub,rub⟩ := vb.get gb
  have hTn : s.heap.objs.size ∉ zfp n := λ m => let ⟨o,e,_⟩ := ztn_obj st _ m; Nat.lt_irrefl _ (Heap.lt_size e)
  obtain ⟨f0,f1,a0,b0,zf,z,ti,to,w1,w2⟩ := st
  refine next_zip (x := ua) (y := ub) ⟨z,ti,to,w1,w2,sa,sb,hl1,hl2⟩ zf (by simpa using hua) (by simpa using hub) λ h1 f0' f1' a' b' W1 zf1 pr o1 => ⟨_,rfl,go_zip (s := { s with heap := h1 }) W1 zf1 λ h2 f W2 zf2 o2 => ?_⟩
  have Iz : L2.Inv X pins σ H { s with heap := h2,toks := s.toks } := Q5n I hf (o1.on o2).fp
  have fr : H s.heap.objs.size = none := I.hok.fresh (Nat.le_refl _)
  refine ⟨.ref s.heap.objs.size,upd H s.heap.objs.size (.tup [a,b]),?_,rfl,⟨_,a,b,fr,rfl,rfl,λ cs q => ?_,λ cs q => ?_⟩,W2.tn zf2,λ c hb => ?_⟩
  ·refine Inv_track Iz (I.fpOk (Nat.le_refl _) fr) I.sz ⟨show 2 <= sizeLine by decide,[ua,ub],.cons rua (.cons rub .nil),?_⟩
   exact ⟨_,o2.fp _ _ hTn pr,rfl,rfl,_,rfl⟩
  ·rw [Q4I I q q1]; exact ga
  ·rw [Q4I I q q2]; exact gb
  ·rw [Q0x (λ e => hTn (by rw [<- e]; exact hb))]; exact (hf c hb).1
 done := by
  intro X hP hw hK hc i pins s σ H E I hf st hg
  subst hP hw hK
  obtain ⟨as,bs,q1,q2,hend⟩ := hg
  obtain ⟨ia,va,sa,_⟩ := Q3r I q1
  obtain ⟨ib,vb,sb,_⟩ := Q3r I q2
  obtain ⟨f0,f1,a0,b0,zf,z,ti,to,w1,w2⟩ := st
  have e1 := va.length
  have e2 := vb.length
  exact next_zip_end (I.ok.hd hc) ⟨z,ti,to,w1,w2,sa,sb,hl1,hl2⟩ zf (hend.imp (λ e => by simp; omega) λ e => by simp; omega) λ h' p => ⟨rfl,Q5n (t' := s.toks) I hf p.fp⟩
 self := λ A i s Q E st h => by
  obtain ⟨f0,f1,a0,b0,zf,z,_⟩ := st
  exact own_iter ⟨_,z,rfl⟩ F.slot_zip_iter F.entry_zip_iter (F.args_zip_iter_1 _) F.slot_zip_next (wpAny_pure ⟨rfl,rfl⟩) h
end DL
set_option maxHeartbeats 1000000
namespace DL
open PySem PySem.Spec PyProof.Rows L2 PySem.W
def LF (d : D) (xs : List D) : Prop := d = .lst xs \/ d = .scr xs \/ d = .tup xs
theorem Sq.same {k : Bool} {K : PySem.W.Frag} {H H' : Hp} {a : Addr} {xs : List V} (e : Same H H') (h : Sq k K H a xs) : Sq k K H' a xs := by
 cases k with
 | true => exact e.seq h
 | false => exact Q1D e h
theorem LF.sq {K : PySem.W.Frag} {G : Wd} {d : D} {xs : List D} {v : V} (h : LF d xs) (i : Is K G d v) : ∃ k a vs,v = .ref a /\ Sq k K G.g a vs /\ Iss K G xs vs := by
 rcases h with rfl | rfl | rfl
 ·cases i with | lst h r => exact ⟨true,_,_,rfl,SqL.of h,r⟩
 ·cases i with | scr h r => exact ⟨true,_,_,rfl,h,r⟩
 ·cases i with | tup h r => exact ⟨false,_,_,rfl,h,r⟩
def EvZ (X : Cx) (ρ : Rho) (O : Sto) (e : Expr) (xs : List D) (T : String) : Prop :=
 ∀ (G : Wd) (tg : Expr) (pins : List (Addr × Obj)) (s : Shared) (σ : L2.St) (H : Hp) (R : It -> Hp -> Prop),L2.Inv X pins σ H s -> SA X.K G H O -> EnvR X.K G σ ρ -> (∀ J G' H',Ext G G' -> SA X.K G' H' O -> Q3b X.K G' J xs -> R J H') ->
  wpAny (model X.prog X.w) X.A (eval e X.env) (λ v s1 => PIE X pins σ tg R v s1 /\ s1.TypeIs v T) X.xe s
def zipD (xs ys : List D) : List D := List.zipWith (λ a b => .tup [a,b]) xs ys
theorem itz_yields {K : PySem.W.Frag} {G : Wd} {k1 k2 : Bool} {l1 l2 : Addr} {vs us : List V} {xs ys : List D} (h1 : Sq k1 K G.g l1 vs) (h2 : Sq k2 K G.g l2 us) (r1 : Iss K G xs vs) (r2 : Iss K G ys us) : Q3b K G (Itz k1 k2 K l1 l2) (zipD xs ys) where
 go := λ i H e hi => by
  have hi : i < min xs.length ys.length := by simpa [zipD] using hi
  obtain ⟨a,ha,_⟩ := r1.get (i := i) (d := xs[i]'(by omega)) (by simp)
  obtain ⟨b,hb,_⟩ := r2.get (i := i) (d := ys[i]'(by omega)) (by simp)
  exact ⟨vs,us,a,b,h1.same e,h2.same e,ha,hb⟩
 stop := λ i H e hi => by
  have hi : min xs.length ys.length <= i := by simpa [zipD] using hi
  have e1 := r1.length
  have e2 := r2.length
  exact ⟨vs,us,h1.same e,h2.same e,by omega⟩
 yld := λ i v H H' G2 O2 e s y hi => by
  obtain ⟨T,a,b,hT,rfl,rfl,y1,y2⟩ := y
  obtain ⟨x,hx,ix⟩ := r1.getV (y1 vs (h1.same (e.g.trans s.sub)))
  obtain ⟨y,hy,iy⟩ := r2.getV (y2 us (h2.same (e.g.trans s.sub)))
  obtain ⟨e3,s3⟩ := s.laid (o := .tup [a,b]) hT
  refine ⟨.tup [x,y],_,?_,e3,s3,.tup (SqT.of Q0z) (.cons (ix.ext (e.trans e3)) (.cons (iy.ext (e.trans e3)) .nil))⟩
  unfold zipD
  rw [List.getElem?_zipWith,hx,hy]
section
variable {X : Cx} {ρ : Rho} {O : Sto} {e a b c : Expr} {es : List Expr} {d da db : D} {ds : List D} {R : D -> Sto -> Prop} {pos p : Pos} {x : Str} {xs ys : List D}
theorem ez_zip (ha : EvP X ρ O a da) (hb : EvP X ρ O b db) (fa : LF da xs) (fb : LF db ys) (hm : X.mg "zip" = none) (hg : Gl X "zip" := by rfl) (hs : starEach [a,b] X.env = [(false,eval a X.env),(false,eval b X.env)] := by rfl) (hs2 : starEach [b] X.env = [(false,eval b X.env)] := by rfl) :
  EvZ X ρ O (.Call (.Name "zip" p) [a,b] [] pos) (zipD xs ys) "zip" := λ G tg pins s σ H R I sa en k => by
 refine Call_ (Q4L I hg hm boot_zip (PyProof.Rows.callWith_type1 (thn (Q0b ha (Q0b hb Q0e hs2) (by rw [hs,hs2]) G pos pins s σ H (λ vs H' => ∃ G',Ext G G' /\ SA X.K G' H' O /\ Iss X.K G' [da,db] vs) I ⟨sa,en,λ vs G' H' e1 s1 i1 => ⟨G',e1,s1,i1⟩⟩) λ us s1 ⟨vs,H1,I1,r1,G1,e1,sa1,is1⟩ => ?_) (by rw [hs,hs2]) (by rw [hs2]; rfl)))
 cases is1 with | cons i1 is1 => cases is1 with | cons i2 is1 =>
 cases is1
 obtain ⟨k1,l1,v1,rfl,q1,j1⟩ := fa.sq i1
 obtain ⟨k2,l2,v2,rfl,q2,j2⟩ := fb.sq i2
 obtain ⟨u,u',rfl,ru,ru'⟩ := vals2 r1
 cases ru
 cases ru'
 obtain ⟨t1,w1,g1,z1⟩ := Q3r I1 (q1.same sa1.sub)
 obtain ⟨t2,w2,g2,z2⟩ := Q3r I1 (q2.same sa1.sub)
 have lt : ∀ {k : Bool} {l : Addr} {ys : Array Value},SSq k s1.heap l ys -> l < s1.heap.objs.size := λ {k l ys} q => by
  cases k with
  | true => obtain ⟨o,g,_⟩ := (q : s1.heap.IsList l ys); exact Heap.lt_size g
  | false => obtain ⟨o,g,_⟩ := (q : s1.heap.IsTuple l ys); exact Heap.lt_size g
 refine call_zip g1 g2 λ h' Z kp => ?_
 have Ik : L2.Inv X pins σ H1 { s1 with heap := h',toks := s1.toks } := I1.kept kp
 refine ⟨⟨s1.heap.objs.size + 4,zfp s1.heap.objs.size,ztn k1 k2 s1.heap.objs.size l1 l2,Itz k1 k2 X.K l1 l2,H1,rfl,Ik,turn_zip k1 k2 _ l1 l2 (lt g1) (lt g2),Z,λ b hb => ?_,k _ G1 H1 e1 sa1 (itz_yields q1 q2 j1 j2)⟩,?_⟩
 ·have hb' : s1.heap.objs.size <= b := by
   simp only [zfp,List.mem_cons,List.not_mem_nil,or_false] at hb
   rcases hb with rfl | rfl | rfl | rfl | rfl
   ·exact Nat.le_refl _
   ·exact Nat.le_add_right _ 1
   ·exact Nat.le_add_right _ 2
   ·exact Nat.le_add_right _ 3
   ·exact Nat.le_add_right _ 4
  exact I1.fpOk hb' (I1.hok.fresh hb')
 ·obtain ⟨f0,f1,a0,b0,_,hz,_⟩ := Z
  exact ⟨_,hz,rfl⟩
theorem ei_Z {tg : Expr} {T : String} (h : EvZ X ρ O e xs T) : EvI X ρ O tg e xs := λ G pins s σ H R I ⟨h1,h2,h3⟩ =>
 thn (h G tg pins s σ H R I h1 h2 h3) λ v s1 ⟨q,_⟩ => by
  obtain ⟨it,fp,tn,J,H',rfl,I',T,st,f,r⟩ := id q
  exact T.self X.A 0 s1 _ _ st q
end
def Cx.wA (X : Cx) (A : Around) : Cx := { X with A := A }
theorem Inv_A {X : Cx} {pins : List (Addr × Obj)} {σ : L2.St} {H : Hp} {s : Shared} {A : Around} (I : L2.Inv X pins σ H s) (h1 : A.frames = X.A.frames) (h2 : A.handled = X.A.handled) : L2.Inv (Cx.wA X A) pins σ H s :=
 ⟨⟨I.ok.mod,I.ok.kind,I.ok.glob,I.ok.blt,I.ok.above,I.ok.inj,I.ok.has,I.ok.cab,λ hc => h2.trans (I.ok.hd hc),h1.trans I.ok.frames,I.ok.stk,I.ok.exf,I.ok.bs,I.ok.bsz,I.ok.noex,I.ok.exfs,I.ok.funs,I.ok.frf⟩,I.os,I.bare,I.base,I.loc,I.cell,I.free,I.freeC,I.pin,I.hok,I.len⟩
theorem Inv_unA {X : Cx} {pins : List (Addr × Obj)} {σ : L2.St} {H : Hp} {s : Shared} {A : Around} (I : L2.Inv (Cx.wA X A) pins σ H s) (ok : X.Ok) : L2.Inv X pins σ H s := ⟨ok,I.os,I.bare,I.base,I.loc,I.cell,I.free,I.freeC,I.pin,I.hok,I.len⟩
def kBd {α : Type} (n : Nat) (P : α -> Prop) : KasT α -> Prop
 | .ret a => P a
 | .ask i j k => i < n /\ j < n /\ ∀ b,kBd n P (k b)
theorem Q3C {α β : Type} {n : Nat} {f : α -> KasT β} {P : α -> Prop} {Q : β -> Prop} (hf : ∀ a,P a -> kBd n Q (f a)) : ∀ (t : KasT α),kBd n P t -> kBd n Q (t.bind f)
 | .ret a,h => hf a h
 | .ask i j k,h => ⟨h.1,h.2.1,λ b => Q3C hf (k b) (h.2.2 b)⟩
theorem kBd_wp {α : Type} {n : Nat} {P : α -> Prop} {cmp : Nat -> Nat -> (Bool -> Shared -> Prop) -> Shared -> Prop} {lt : Nat -> Nat -> Bool} {s : Shared} {Q : α -> Shared -> Prop} (hc : ∀ i j C,i < n -> j < n -> C (lt i j) s -> cmp i j C s) : ∀ (t : KasT α),kBd n P t -> (P (kRun lt t) -> Q (kRun lt t) s) -> t.kasWp cmp Q s
 | .ret a,h,q => q h
 | .ask i j k,h,q => hc i j _ h.1 h.2.1 (kBd_wp hc (k (lt i j)) (h.2.2 _) q)
def In (n : Nat) (p : Array Nat) : Prop := ∀ k,p.getD k 0 < n
theorem In_perm {n : Nat} {p q : Array Nat} (h : In n p) (e : q.Perm p) (hn : 0 < n) : In n q := λ k => by
 rw [Q2W]
 cases hk : q[k]? with
 | none => exact hn
 | some v =>
  have hv : v ∈ p := e.mem_iff.mp (Array.mem_of_getElem? hk)
  obtain ⟨i,hi,ei⟩ := Array.mem_iff_getElem.mp hv
  have := h i
  rw [Q2W,Array.getElem?_eq_getElem hi,ei] at this
  exact this
theorem asc_bd {n : Nat} {p : Array Nat} (h : In n p) : ∀ (f m : Nat),kBd n (λ _ => True) (kas_asc p f m)
 | 0,m => trivial
 | f + 1,m => ⟨h _,h _,λ b => by cases b; exact asc_bd h f (m + 1); exact trivial⟩
theorem rev_In {n : Nat} {p : Array Nat} (h : In n p) (hn : 0 < n) (i j : Nat) : In n (kas_rev p i j) := In_perm h (mirror_perm _ _ _ _) hn
theorem desc_bd {n : Nat} (hn : 0 < n) : ∀ (f : Nat) (p : Array Nat) (m q : Nat),In n p -> kBd n (λ r : Array Nat × Nat × Nat => In n r.1) (kas_desc f p m q)
 | 0,p,m,q,h => h
 | f + 1,p,m,q,h => ⟨h _,h _,λ b => by
   cases b
   ·exact ⟨h _,h _,λ c => by
     cases c
     ·exact desc_bd hn f p _ _ h
     ·exact h⟩
   ·show kBd n _ (if true = true then _ else _)
    rw [if_pos rfl]
    split
    ·exact desc_bd hn f _ _ _ (rev_In h hn _ _)
    ·exact desc_bd hn f p _ _ h⟩
theorem tail3_bd {n : Nat} (hn : 0 < n) {p : Array Nat} (h : In n p) (m r : Nat) : kBd n (λ r : Nat × Array Nat => In n r.2) (kas_tail3 m r p) := by
 unfold kas_tail3
 refine Q3C (P := λ _ => True) (λ a _ => ?_) _ (asc_bd (rev_In h hn 0 m) _ _)
 exact rev_In h hn 0 m
theorem descPart_bd {n : Nat} (hn : 0 < n) {p : Array Nat} (h : In n p) (m r : Nat) : kBd n (λ r : Nat × Array Nat => In n r.2) (kas_descPart m r p) :=
 Q3C (λ a ha => by
  show kBd n _ (if _ > 0 then _ else _)
  split
  ·exact tail3_bd hn (rev_In ha hn _ _) _ _
  ·exact tail3_bd hn ha _ _) _ (desc_bd hn _ _ _ _ h)
theorem count_bd {n : Nat} (hn : 0 < n) {p : Array Nat} (h : In n p) (r : Nat) : kBd n (λ r : Nat × Array Nat => In n r.2) (kas_count r p) :=
 Q3C (P := λ _ => True) (λ a _ => by
  show kBd n _ (if (_ == _) = true then _ else _)
  split
  ·exact h
  ·split
   ·exact ⟨h _,h _,λ b => by
     cases b
     ·exact descPart_bd hn (rev_In h hn _ _) _ _
     ·exact h⟩
   ·exact descPart_bd hn h _ _) _ (asc_bd h _ _)
theorem place_bd {n : Nat} {p : Array Nat} (h : In n p) (k : Nat) : ∀ (f l r : Nat),kBd n (λ _ => True) (kas_place p k f l r)
 | 0,l,r => trivial
 | f + 1,l,r => by
  show kBd n _ (if l >= r then _ else _)
  split
  ·exact trivial
  ·exact ⟨h _,h _,λ b => by cases b; exact place_bd h k f _ _; exact place_bd h k f _ _⟩
theorem bin_bd {n : Nat} (hn : 0 < n) : ∀ (f : Nat) (p : Array Nat) (k : Nat),In n p -> kBd n (λ _ => True) (kas_bin f p k)
 | 0,p,k,h => trivial
 | f + 1,p,k,h => Q3C (P := λ _ => True) (λ a _ => bin_bd hn f _ _ (In_perm h (bubble_perm _ _ _) hn)) _ (place_bd h k _ _ _)
theorem sort_bd {n : Nat} (hn : 0 < n) : kBd n (λ _ => True) (kas_sort n) :=
 Q3C (λ a ha => by
  show kBd n _ (if _ < n then _ else _)
  split
  ·exact bin_bd hn _ _ _ ha
  ·exact trivial) _ (count_bd hn (λ k => by
   rw [Q2W]
   by_cases hk : k < n
   ·simp [hk]
   ·simp [hk,hn]) n)
section
variable (key : Nat -> Int)
theorem bin_ok : ∀ (f : Nat) (p : Array Nat) (k : Nat),k + f <= p.size -> Srt key p k -> ∃ p',kRun (ltK key) (kas_bin f p k) = p' /\ p'.Perm p /\ p'.size = p.size /\ Srt key p' (k + f)
 | 0,p,k,h,hs => ⟨p,rfl,Array.Perm.refl _,rfl,hs⟩
 | f + 1,p,k,h,hs => by
  obtain ⟨m,e,h1,h2,h3⟩ := place_ok key p k hs k 0 k (Nat.zero_le _) (Nat.le_refl _) (by omega) (λ i hi => by omega) (λ i i1 i2 => by omega)
  have hK : ∀ i,KQ key (bubble p k (k - m)) i = if i = m then KQ key p k else if m < i /\ i <= k then KQ key p (i - 1) else KQ key p i := λ i => by
   unfold KQ
   rw [Q2W,getElem?_bubble (by omega) (k - m) (by omega) i]
   rw [show k - (k - m) = m by omega]
   repeat' split
   all_goals rw [Q2W]
  obtain ⟨p',e',g1,g2,g3⟩ := bin_ok f (bubble p k (k - m)) (k + 1) (by rw [bubble_size]; omega) (λ i j hij hj => by
   rw [hK,hK]
   by_cases im : i = m
   ·rw [if_pos im]
    by_cases jm : j = m
    ·rw [if_pos jm]; exact Int.le_refl _
    ·rw [if_neg jm,if_pos (by omega)]
     exact Int.le_of_lt (h3 (j - 1) (by omega) (by omega))
   ·rw [if_neg im]
    by_cases jm : j = m
    ·rw [if_pos jm,if_neg (by omega)]
     exact h2 i (by omega)
    ·rw [if_neg jm]
     by_cases hi : m < i /\ i <= k
     ·rw [if_pos hi,if_pos (by omega)]
      exact hs _ _ (by omega) (by omega)
     ·rw [if_neg hi]
      by_cases hj' : m < j /\ j <= k
      ·rw [if_pos hj']
       exact hs _ _ (by omega) (by omega)
      ·rw [if_neg hj']
       exact hs _ _ hij (by omega))
  refine ⟨p',?_,g1.trans (bubble_perm _ _ _),g2.trans (bubble_size _ _ _),?_⟩
  ·show kRun _ (KasT.bind _ _) = _
   rw [Q2t,e]
   exact e'
  ·rw [show k + (f + 1) = k + 1 + f by omega]; exact g3
theorem sort_ok {n : Nat} (hn : 0 < n) : ∃ p,kRun (ltK key) (kas_sort n) = p /\ p.Perm (List.toArray (List.range n)) /\ p.size = n /\ Srt key p n := by
 obtain ⟨m,p,e,h1,h2,h3,h4,h5⟩ := count_ok key (nrem := n) (p := List.toArray (List.range n)) hn (by simp)
 have hz : p.size = n := by rw [h4]; simp
 by_cases hm : m < n
 ·obtain ⟨p',e',g1,g2,g3⟩ := bin_ok key (n - max m 1) p (max m 1) (by omega) (by rw [show max m 1 = m by omega]; exact h5)
  refine ⟨p',?_,g1.trans h3,g2.trans hz,by rw [show max m 1 + (n - max m 1) = n by omega] at g3; exact g3⟩
  unfold kas_sort
  rw [Q2t,e]
  show kRun _ (if m < n then _ else _) = _
  rw [if_pos hm]
  exact e'
 ·refine ⟨p,?_,h3,hz,by rw [show n = m by omega]; exact h5⟩
  unfold kas_sort
  rw [Q2t,e]
  show kRun _ (if m < n then _ else _) = _
  rw [if_neg hm]
  rfl
end
def Q4i {α : Type} (lt : α -> α -> Bool) (l : List α) (x : α) : Int := ((l.filter λ z => lt z x).length : Nat)
theorem rank_lt {α : Type} {lt : α -> α -> Bool} {l : List α} {x y : α} (irr : ∀ a,lt a a = false) (tr : ∀ a b c,lt a b = true -> lt b c = true -> lt a c = true) (hx : x ∈ l) (h : lt x y = true) : Q4i lt l x < Q4i lt l y := by
 have key : ∀ l : List α,(l.filter λ z => lt z x).length <= (l.filter λ z => lt z y).length := λ l => by
  induction l with
  | nil => simp
  | cons a l ih =>
   simp only [List.filter_cons]
   by_cases ha : lt a x = true
   ·rw [if_pos ha,if_pos (tr _ _ _ ha h)]; simp; exact ih
   ·rw [if_neg ha]; split
    ·simp; omega
    ·exact ih
 have strict : ∀ l : List α,x ∈ l -> (l.filter λ z => lt z x).length < (l.filter λ z => lt z y).length := λ l => by
  induction l with
  | nil => intro h; cases h
  | cons a l ih =>
   intro hm
   have base := key l
   simp only [List.filter_cons]
   rcases List.mem_cons.mp hm with rfl | hm
   ·rw [if_neg (by rw [irr]; simp),if_pos h]; simp; omega
   ·have := ih hm
    by_cases ha : lt a x = true
    ·rw [if_pos ha,if_pos (tr _ _ _ ha h)]; simp; exact this
    ·rw [if_neg ha]; split
     ·simp; omega
     ·exact this
 unfold Q4i
 have := strict l hx
 omega
theorem rank_iff {α : Type} {lt : α -> α -> Bool} {l : List α} {x y : α} (irr : ∀ a,lt a a = false) (tr : ∀ a b c,lt a b = true -> lt b c = true -> lt a c = true) (tot : ∀ a b,lt a b = false -> lt b a = false -> a = b) (hx : x ∈ l) (hy : y ∈ l) : decide (Q4i lt l x < Q4i lt l y) = lt x y := by
 cases h : lt x y with
 | true => exact decide_eq_true (rank_lt irr tr hx h)
 | false =>
  refine decide_eq_false λ z => ?_
  cases h' : lt y x with
  | true => have := rank_lt irr tr hy h'; omega
  | false => rw [tot _ _ h h'] at z; omega
abbrev inSort (h : Heap) (a : Addr) (vs : List Value) : Heap := ((h.update a (Obj.mapSeq λ _ => (#[] : Array Value))).push (seqObj "tuple" vs.toArray 0)).push (seqObj "list" #[] 0)
theorem inSort_old {h : Heap} {a b : Addr} {vs : List Value} {o : Obj} (hb : b ≠ a) (e : h.get? b = some o) : (inSort h a vs).get? b = some o :=
 Heap.get?_push_of_some _ (Heap.get?_push_of_some _ ((Heap.get?_update_ne _ _ _ _ hb).trans e))
theorem inSort_own {h : Heap} {a : Addr} {vs : List Value} {n : Nat} (e : h.get? a = some (seqObj "list" vs.toArray n)) : ∃ m,(h.update a (Obj.mapSeq λ _ => (#[] : Array Value))).get? a = some (seqObj "list" #[] m) /\ (inSort h a vs).get? a = some (seqObj "list" #[] m) :=
 ⟨_,get?_update_seq e _,Heap.get?_push_of_some _ (Heap.get?_push_of_some _ (get?_update_seq e _))⟩
section
variable {prog : Program} {w : World} {A : Around} {E : Value -> Shared -> Prop} {s : Shared}
def outOf (p : Array Nat) (vs : List Value) : List Value := p.toList.map λ i => vs.getD i Value.none
def Runs (prog : Program) (w : World) (A : Around) (vs : List Value) (s : Shared) (G : SortSt -> Prop) : Prop :=
 ∀ E : Value -> Shared -> Prop,wpAny (model prog w) A (if vs.toArray.size < 2 then pure general' else keyKind' vs.toArray)
  (λ κ s1 => wpAny (model prog w) A ((if vs.toArray.size < 2 then pure () else sortRuns').run (SortSt.mk' κ (vs.toArray.zip vs.toArray) #[] 7 none)) (λ r s2 => s2 = s /\ failedOf r.2 = none /\ G r.2) E s1) E s
theorem if_bind {α β : Type} {M : Model} {c : Prop} [Decidable c] {x y : Sem α} {f : α -> Sem β} {Q : β -> Shared -> Prop} (h : wpAny M A ((if c then x else y) >>= f) Q E s) : wpAny M A (if c then x >>= f else y >>= f) Q E s := by
 by_cases hc : c
 ·rw [if_pos hc] at h ⊢; exact h
 ·rw [if_neg hc] at h ⊢; exact h
theorem sort_outer {a : Addr} {vs : List Value} {n : Nat} {G : SortSt -> Prop} {P : PySem.Fin -> Shared -> Prop} (ho : s.heap.get? a = some (seqObj "list" vs.toArray n)) (lim : vs.length <= sizeLine) (hr : Runs prog w A vs { s with heap := inSort s.heap a vs } G)
  (h : ∀ st,G st -> ((arrOf st).map (·.2)).size <= sizeLine + 1 /\ P (.done (.ret .none)) { s with heap := sortedHeap s.heap a vs ((arrOf st).map (·.2)) }) : wpAny (model prog w) A (Builtin.«list.sort» ⟨[.ref a],[]⟩) P E s := by
 obtain ⟨m,g1,g2⟩ := inSort_own ho
 rw [list_sort_plain]
 refine wpAny_bind (listItems_at ho rfl (wpAny_bind (listUpdate_at ho rfl ?_ (by simpa using lim) (Nat.zero_le _))))
 refine wpAny_bind (seqEpoch_at g1 rfl (wpAny_bind (wpAny_newTuple (wpAny_bind (wpAny_newList (wpAny_holding ?_) (Nat.zero_le _))) lim)))
 refine if_bind (wpAny_bind (wpAny_mono (hr E) (λ κ s1 q1 => wpAny_bind (wpAny_mono q1 (λ r s2 q2 => ?_) λ _ _ e => e)) λ _ _ e => e))
 obtain ⟨⟨⟩,st⟩ := r
 obtain ⟨rfl,f0,gs⟩ := q2
 obtain ⟨z,q⟩ := h st gs
 refine wpAny_bind (seqEpoch_at g2 rfl (wpAny_bind (listUpdate_at g2 rfl ?_ (Nat.zero_le _) z)))
 dsimp only at f0
 rw [f0,bne_self_eq_false]
 exact wpAny_pure q
def Cmp (prog : Program) (w : World) (A : Around) (vs : List Value) (key : Nat -> Int) (s : Shared) : Prop :=
 ∃ κ,(∀ (E : Value -> Shared -> Prop) (Q : SortKind -> Shared -> Prop),Q κ s -> wpAny (model prog w) A (keyKind' vs.toArray) Q E s) /\ ∀ i j (C : Bool -> Shared -> Prop),i < vs.length -> j < vs.length -> C (decide (key i < key j)) s -> wpAny (model prog w) A (keyLt' κ (vs.getD i Value.none) (vs.getD j Value.none)) C (λ _ _ => False) s
def Sortd (vs : List Value) (key : Nat -> Int) (st : SortSt) : Prop := ∃ p : Array Nat,p.Perm (List.toArray (List.range vs.length)) /\ p.size = vs.length /\ Srt key p vs.length /\ (arrOf st).map (·.2) = List.toArray (outOf p vs)
theorem runs_few {vs : List Value} {key : Nat -> Int} (h : vs.length < 2) : Runs prog w A vs s (Sortd vs key) := λ E => by
 have c : vs.toArray.size < 2 := by simpa using h
 simp only [if_pos c]
 refine wpAny_pure (wpAny_pure ⟨rfl,rfl,List.toArray (List.range vs.length),Array.Perm.refl _,by simp,λ i j hij hj => ?_,?_⟩)
 ·rw [show i = j by omega]
  exact Int.le_refl _
 ·show (vs.toArray.zip vs.toArray).map (·.2) = _
  match vs,h with
  | [],_ => simp [outOf]
  | [v],_ => simp [outOf]
theorem runs_many {vs : List Value} {key : Nat -> Int} (h : 2 <= vs.length) (h64 : vs.length < 64) (cm : Cmp prog w A vs key s) : Runs prog w A vs s (Sortd vs key) := λ E => by
 have c : ¬ vs.toArray.size < 2 := by simpa using h
 simp only [if_neg c]
 obtain ⟨κ,kd,cm⟩ := cm
 obtain ⟨p,ep,g1,g2,g3⟩ := sort_ok key (n := vs.length) (by omega)
 refine kd _ _ (kat_run (ks := vs) (Q := λ st s2 => s2 = s /\ failedOf st = none /\ Sortd vs key st) (G := λ q s2 => s2 = s /\ q = p) rfl h h64 (λ q st s2 _ a2 a3 a4 => ⟨a4.1,a3,p,g1,g2,g3,?_⟩) (kBd_wp (n := vs.length) (lt := ltK key) cm _ (sort_bd (by omega)) λ _ => ⟨rfl,ep⟩))
 rw [a4.2] at a2
 exact kat_snds (ks := vs) (vs := vs) rfl a2
theorem sort_any {a : Addr} {vs : List Value} {n : Nat} {key : Nat -> Int} {P : PySem.Fin -> Shared -> Prop} (ho : s.heap.get? a = some (seqObj "list" vs.toArray n)) (h64 : vs.length < 64)
  (hk : 2 <= vs.length -> Cmp prog w A vs key { s with heap := inSort s.heap a vs })
  (h : ∀ p : Array Nat,p.Perm (List.toArray (List.range vs.length)) -> p.size = vs.length -> Srt key p vs.length -> P (.done (.ret .none)) { s with heap := sortedHeap s.heap a vs (List.toArray (outOf p vs)) }) : wpAny (model prog w) A (Builtin.«list.sort» ⟨[.ref a],[]⟩) P E s := by
 have lim : vs.length <= sizeLine := by rw [sizeLine_eq]; omega
 refine sort_outer (G := Sortd vs key) ho lim ?_ λ st ⟨p,p1,p2,p3,e⟩ => ?_
 ·by_cases c : vs.length < 2
  ·exact runs_few c
  ·exact runs_many (by omega) h64 (hk (by omega))
 ·rw [e]
  exact ⟨by simp [outOf]; omega,h p p1 p2 p3⟩
theorem call_sorted {x : Value} {Q : Value -> Shared -> Prop}
  (hc : wpAny (model prog w) A.in1 (collect x) (λ vs s1 => ∃ key,vs.length < 64 /\ (2 <= vs.length -> Cmp prog w A.in1.in1 vs key { s1 with heap := inSort (s1.heap.push (seqObj "list" vs.toArray 0)) s1.heap.objs.size vs }) /\
   ∀ p : Array Nat,p.Perm (List.toArray (List.range vs.length)) -> p.size = vs.length -> Srt key p vs.length -> Q (.ref s1.heap.objs.size) { s1 with heap := sortedHeap (s1.heap.push (seqObj "list" vs.toArray 0)) s1.heap.objs.size vs (List.toArray (outOf p vs)) }) E s) : wpAny (model prog w) A (call (.builtin "sorted") [x]) Q E s := by
 have body : wpAny (model prog w) A.in1 (Builtin.«sorted» ⟨[x],[]⟩) (λ fin s' => ∃ v,fin = .done (.ret v) /\ Q v s') E s := by
  refine wpAny_bind (m := checkCount "sorted" 1 1 _) (wpAny_pure (wpAny_bind (thn hc λ vs s1 ⟨key,h64,hk,hq⟩ => wpAny_bind (wpAny_newList (wpAny_bind (wpAny_holding ?_)) (by rw [sizeLine_eq]; omega)))))
  have own : (s1.heap.push (seqObj "list" vs.toArray 0)).get? s1.heap.objs.size = some (seqObj "list" vs.toArray 0) := Heap.get?_push_size _ rfl
  exact wpAny_call_entry slot_list_sort ⟨_,own,rfl⟩ entry_list_sort (sort_any (s := { s1 with heap := s1.heap.push (seqObj "list" vs.toArray 0) }) own h64 hk λ p p1 p2 p3 => ⟨_,rfl,wpAny_pure ⟨_,rfl,hq p p1 p2 p3⟩⟩) (args_list_sort _)
 exact Calls.call_function_entry kind_sorted plain_sorted entry_sorted (args_sorted1 _) body
end
theorem Q3W {prog : Program} {w : World} {A : Around} {s : Shared} {id : String} {b : Builtin} {args : Args} {R : Result -> Shared -> Prop} (pl : plainId id = true) (en : entryFor table id = some b)
  (h : wpAny (model prog w) A.in1 (b args) (λ fin s' => match fin with | .done f => R (.ok f) s' | .again c => c.quiet = true /\ codeAny (model prog w) A c R s') (λ e s' => R (.error e) s') s) : codeAny (model prog w) A (.builtin id args) R s :=
 codeAny_builtin en (by rw [Around.under_plainId pl]; exact h)
abbrev lsC (its : List Value) (c : Nat) : Obj := { cls := .type "list",dict := none,data := .seq its.toArray c,slots := #[] }
theorem after_pure {M : Model} {A : Around} {E : Value -> Shared -> Prop} {s : Shared} {α : Type} {t : Sem α} {Q : α -> Shared -> Prop} {F : Shared -> Prop} {u : Sem Unit} (hu : u = pure ()) (h : wpAny M A u (λ _ s2 => F s2) E s) (k : ∀ s2,F s2 -> wpAny M A t Q E s2) : wpAny M A t Q E s := by
 subst hu
 have := wpAny_bind (f := λ _ => t) (wpAny_mono h (λ _ s2 q => k s2 q) λ _ _ e => e)
 simpa using this
theorem fp_pin {X : Cx} {pins : List (Addr × Obj)} {H : Hp} {b S : Addr} {o : Obj} (h : FpOk X pins H b) (hb : S ≠ b) : FpOk X ((S,o) :: pins) H b := by
 obtain ⟨f0,f1,f2,f3,f4,f5⟩ := h
 refine ⟨f0,f1,f2,f3,f4,λ p hp => ?_⟩
 simp only [List.mem_append,List.mem_cons] at hp
 rcases hp with q | rfl | q
 ·exact f5 p (List.mem_append_left _ q)
 ·exact hb
 ·exact f5 p (List.mem_append_right _ q)
theorem Inv_unpin {X : Cx} {pins : List (Addr × Obj)} {σ : L2.St} {H : Hp} {s : Shared} {q : Addr × Obj} (I : L2.Inv X (q :: pins) σ H s) : L2.Inv X pins σ H s := I.pins_of λ p hp => I.pin p (List.mem_append_right _ (List.mem_cons_of_mem _ hp))
structure Got (X : Cx) (pins : List (Addr × Obj)) (σ : L2.St) (O : Sto) (G1 : Wd) (xs : List D) (S : Addr) (i : Nat) (s : Shared) (H : Hp) (G : Wd) (vs : List V) (its : List Value) (c : Nat) : Prop where
 inv : L2.Inv X ((S,lsC its c) :: pins) σ H s
 ext : Ext G1 G
 sa : SA X.K G H O
 iss : Iss X.K G (xs.take i) vs
 vals : Vals vs its
section
variable {X : Cx} {A : Around} {tg : Expr} {J : It} {fp : List Addr} {it : Addr} {tn : Nat -> Heap -> Prop} {pins : List (Addr × Obj)} {σ : L2.St} {O : Sto} {G1 : Wd} {xs : List D} {S : Addr} {res : Value} {R : Result -> Shared -> Prop}
theorem Got.more {i : Nat} {s s2 : Shared} {H H2 : Hp} {G G2 : Wd} {vs : List V} {its : List Value} {c : Nat} {x : D} {xv : V} {u : Value} (g : Got X pins σ O G1 xs S i s H G vs its c) (I2 : L2.Inv X ((S,lsC its c) :: pins) σ H2 s2) (hSs : X.s₀.heap.objs.size <= S) (hSC : ∀ x c,X.env.cells.lookup x = some c -> c ≠ S) (hSp : ∀ p ∈ X.pn ++ pins,p.1 ≠ S) (hx : xs[i]? = some x) (e2 : Ext G G2) (sa2 : SA X.K G2 H2 O) (ix : Is X.K G2 x xv) (r : RelV xv u) :
  Got X pins σ O G1 xs S (i + 1) { s2 with heap := s2.heap.update S (Obj.mapSeq (·.push u)) } H2 G2 (vs ++ [xv]) (its ++ [u]) (c + 1) := by
 have p := I2.pin (S,lsC its c) (List.mem_append_right _ List.mem_cons_self)
 have Iq : L2.Inv X pins σ H2 { s2 with heap := s2.heap.update S (Obj.mapSeq (·.push u)) } := (Inv_unpin I2).turned (t' := s2.toks) (λ b o hb q => (Heap.get?_update_other _ _ (Ne.symm hb)).trans q) p.2.1 p.2.2.1 (.inr hSs) hSC hSp
 refine ⟨Iq.pins_of λ q hq => ?_,g.ext.trans e2,sa2,?_,g.vals.append (.cons r .nil)⟩
 ·rcases List.mem_cons.mp hq with rfl | hq
  ·refine ⟨?_,p.2.1,p.2.2.1,p.2.2.2.1,λ v z => by cases z⟩
   rw [Heap.get?_update_self _ p.1 rfl]
   simp [Obj.mapSeq,lsC]
  ·exact Iq.pin q (List.mem_append_right _ hq)
 ·rw [List.take_add_one,hx]
  exact (g.iss.ext e2).append (.cons ix .nil)
theorem got_loop (hA : X.A = A.in1) (hc : X.calm = true) (T : Turn X.prog X.w X.K tg J fp it tn) (hgo : ∀ v,letOwnedTupleGo tg (.ref it) v = pure ()) (Yi : Q3b X.K G1 J xs) (hsz : xs.length <= sizeLine) (hSs : X.s₀.heap.objs.size <= S) (hSC : ∀ x c,X.env.cells.lookup x = some c -> c ≠ S) (hSp : ∀ p ∈ X.pn ++ pins,p.1 ≠ S)
  (fpS : ∀ (H : Hp),(∀ b ∈ fp,H b = none) -> ∀ b ∈ fp,FpOk X pins H b) (hSf : S ∉ fp)
  (fin : ∀ s H G vs its c,Got X pins σ O G1 xs S xs.length s H G vs its c -> R (.ok (.ret res)) s) :
  ∀ (k i : Nat) (s : Shared) (H : Hp) (G : Wd) (vs : List V) (its : List Value) (c : Nat),i + k = xs.length -> Got X pins σ O G1 xs S i s H G vs its c -> tn i s.heap -> (∀ b ∈ fp,H b = none) ->
   codeAny (model X.prog X.w) A (.builtin "list.extend.loop" ⟨[.ref S,.ref it,res],[]⟩) R s
 | 0,i,s,H,G,vs,its,c,hk,g,st,fr => by
  have hi : i = xs.length := by omega
  subst hi
  have fps : ∀ b ∈ fp,FpOk X ((S,lsC its c) :: pins) H b := λ b hb => fp_pin (fpS H fr b hb) λ z => hSf (z ▸ hb)
  refine Q3W F.plain_extend_loop F.entry_extend_loop (hA ▸ wpAny_bind (thn (T.done X rfl rfl rfl hc xs.length _ s σ H _ g.inv fps st (Yi.stop _ H (g.ext.g.trans g.sa.sub) (Nat.le_refl _))) λ r s' ⟨hr,I'⟩ => ?_))
  subst hr
  exact wpAny_pure (fin s' H G vs its c ⟨I',g.ext,g.sa,g.iss,g.vals⟩)
 | k + 1,i,s,H,G,vs,its,c,hk,g,st,fr => by
  have hi : i < xs.length := by omega
  have fps : ∀ b ∈ fp,FpOk X ((S,lsC its c) :: pins) H b := λ b hb => fp_pin (fpS H fr b hb) λ z => hSf (z ▸ hb)
  have hl : its.length = i := by
   rw [<- g.vals.length,<- g.iss.length,List.length_take]; omega
  refine Q3W F.plain_extend_loop F.entry_extend_loop (hA ▸ wpAny_bind (thn (T.item X rfl rfl rfl hc i _ s σ H _ g.inv fps st (Yi.go i H (g.ext.g.trans g.sa.sub) hi)) λ r s1 ⟨u,hr,h1⟩ => ?_))
  subst hr
  refine after_pure (hgo u) h1 λ s2 ⟨xv,H2,I2,r2,y2,st2,fr2⟩ => ?_
  obtain ⟨x,G2,hx,e2,sa2,ix⟩ := Yi.yld i xv H H2 G O g.ext g.sa y2 hi
  have p2 := I2.pin (S,lsC its c) (List.mem_append_right _ List.mem_cons_self)
  refine wpAny_bind (listUpdate_at p2.1 rfl (wpAny_pure ⟨plainId_quiet F.plain_extend_loop _,got_loop hA hc T hgo Yi hsz hSs hSC hSp fpS hSf fin k (i + 1) _ H2 G2 _ _ (c + 1) (by omega) (g.more I2 hSs hSC hSp hx e2 sa2 ix r2) ?_ fr2⟩) (by simp; omega) (by simp; omega))
  exact T.keep _ _ _ st2 λ b hb o q => (Heap.get?_update_other _ _ (λ z => hSf (by rw [z]; exact hb))).trans q
end
theorem zip_nolen : typeLookup (.type "zip") "__len__" = pure none := by rw [typeLookup_type,builtinLookup_eq_fast]; kernel_rfl
theorem zip_nohint : typeLookup (.type "zip") "__length_hint__" = pure none := by rw [typeLookup_type,builtinLookup_eq_fast]; kernel_rfl
structure NoLen (T : String) : Prop where
 len : typeLookup (.type T) "__len__" = pure none
 hint : typeLookup (.type T) "__length_hint__" = pure none
 nl : (Value.type T == Value.type "list") = false
 nt : (Value.type T == Value.type "tuple") = false
theorem nolen_zip : NoLen "zip" := ⟨zip_nolen,zip_nohint,by decide,by decide⟩
theorem collect_outer {prog : Program} {w : World} {A : Around} {s : Shared} {E : Value -> Shared -> Prop} {it : Addr} {Ty : String} {Q : List Value -> Shared -> Prop} (hN : NoLen Ty) (hT : s.TypeIs (.ref it) Ty)
  (hi : ∀ (h : Heap) (F : Value -> Shared -> Prop) (E' : Value -> Shared -> Prop),(∀ c o,s.heap.get? c = some o -> h.get? c = some o) -> F (.ref it) { s with heap := h } -> wpAny (model prog w) A.in1 (pyIter (.ref it)) F E' { s with heap := h })
  (k : ∀ (h : Heap) (c : Nat) (R : Result -> Shared -> Prop),(∀ b o,s.heap.get? b = some o -> h.get? b = some o) -> h.get? s.heap.objs.size = some (lsC [] c) -> (∀ s' its c',s'.heap.get? s.heap.objs.size = some (lsC its c') -> Q its s' -> R (.ok (.ret (.ref s.heap.objs.size))) s') ->
   codeAny (model prog w) A (.builtin "list.extend.loop" ⟨[.ref s.heap.objs.size,.ref it,.ref s.heap.objs.size],[]⟩) R { s with heap := h }) :
  wpAny (model prog w) A (collect (.ref it)) Q E s := by
 obtain ⟨h,g,d,tk,os⟩ := s
 obtain ⟨o,ho,hc⟩ := hT
 have lt : it < h.objs.size := Heap.lt_size ho
 have ne : h.objs.size ≠ it := Nat.ne_of_gt lt
 dsimp only at hi k
 wp_walk
 refine Q3W F.plain_proto_collect F.entry_proto_collect ?_
 wp_walk
 have up : ∀ b u,h.get? b = some u -> (h.push { cls := .type "list",data := .seq #[] }).get? b = some u := λ b u e => Heap.get?_push_of_some _ e
 have own : (h.push { cls := .type "list",data := .seq #[] }).get? h.objs.size = some { cls := .type "list",data := .seq #[] } := Heap.get?_push_size _ rfl
 have ty : Shared.TypeIs ⟨h.push { cls := .type "list",data := .seq #[] },g,d,tk,os⟩ (.ref it) Ty := ⟨o,up _ _ ho,hc⟩
 have len := hN.len
 have hint := hN.hint
 have nl := hN.nl
 have nt := hN.nt
 refine ⟨plainId_quiet F.plain_list_iadd _,Q3W F.plain_list_iadd F.entry_list_iadd ?_⟩
 have sr : Builtin.List.listSameRef (.ref h.objs.size) (.ref it) = false := beq_eq_false_iff_ne.mpr ne
 wp_walk using hi _ _ _ up
 have g1 := Heap.get?_update_self (Obj.mapSeq λ x => x.push Value.none) own rfl
 refine ⟨plainId_quiet F.plain_extend_loop _,k _ _ _ (λ b u e => ?_) (Heap.get?_update_self (Obj.mapSeq λ x => x.pop) g1 rfl) λ s' its c' e q => wpAny_bind (wpAny_load e (wpAny_pure q))⟩
 have nb : h.objs.size ≠ b := λ z => Nat.lt_irrefl _ (z ▸ Heap.lt_size e)
 rw [Heap.get?_update_other _ _ nb,Heap.get?_update_other _ _ nb]
 exact up b u e
theorem collect_turn {X : Cx} {A : Around} {tg : Expr} {J : It} {fp : List Addr} {it : Addr} {tn : Nat -> Heap -> Prop} {pins : List (Addr × Obj)} {σ : L2.St} {O : Sto} {G1 : Wd} {xs : List D} {s : Shared} {H : Hp} {E : Value -> Shared -> Prop} {Ty : String} {Q : List Value -> Shared -> Prop}
  (hA : X.A = A.in1) (hc : X.calm = true) (T : Turn X.prog X.w X.K tg J fp it tn) (hgo : ∀ v,letOwnedTupleGo tg (.ref it) v = pure ()) (Yi : Q3b X.K G1 J xs) (hsz : xs.length <= sizeLine) (hN : NoLen Ty) (hT : s.TypeIs (.ref it) Ty) (I : L2.Inv X pins σ H s) (st : tn 0 s.heap) (f : ∀ b ∈ fp,FpOk X pins H b) (sa : SA X.K G1 H O)
  (hQ : ∀ (s' : Shared) (H' : Hp) (G' : Wd) (vs : List V) (its : List Value),L2.Inv X pins σ H' s' -> Ext G1 G' -> SA X.K G' H' O -> Iss X.K G' xs vs -> Vals vs its -> Q its s') : wpAny (model X.prog X.w) A (collect (.ref it)) Q E s := by
 have out : s.heap.objs.size ∉ fp := λ m => let ⟨o,e,_⟩ := T.obj 0 _ st _ m; Nat.lt_irrefl _ (Heap.lt_size e)
 obtain ⟨g0,g1,g2,g3,g4,g5⟩ : FpOk X pins H s.heap.objs.size := I.fpOk (Nat.le_refl _) (I.hok.fresh (Nat.le_refl _))
 refine collect_outer hN hT (λ h F E' up q => T.self A.in1 0 _ _ _ (T.keep 0 _ _ st λ b _ o e => up b o e) q) λ h c R up own kr => ?_
 have I3 : L2.Inv X pins σ H { s with heap := h,toks := s.toks } := I.kept up
 refine got_loop hA hc T hgo Yi hsz I.sz g4 g5 (λ H' fr b hb => ⟨fr b hb,(f b hb).2⟩) out (λ s' H' G' vs its c' g => ?_) xs.length 0 _ H G1 [] [] c (by omega) ⟨I3.pins_of λ p hp => ?_,Ext.refl _,sa,.nil,.nil⟩ (T.keep 0 _ _ st λ b _ o e => up b o e) λ b hb => (f b hb).1
 ·exact kr s' its c' (g.inv.pin (_,lsC its c') (List.mem_append_right _ List.mem_cons_self)).1 (hQ s' H' G' vs its (Inv_unpin g.inv) g.ext g.sa (by have := g.iss; rwa [List.take_length] at this) g.vals)
 ·rcases List.mem_cons.mp hp with rfl | q
  ·exact ⟨own,g0,g1,g2,λ v z => by cases z⟩
  ·exact I3.pin p (List.mem_append_right _ q)
structure Ord {α : Type} (lt : α -> α -> Bool) : Prop where
 irr : ∀ a,lt a a = false
 tr : ∀ a b c,lt a b = true -> lt b c = true -> lt a c = true
 tot : ∀ a b,lt a b = false -> lt b a = false -> a = b
def srt {α : Type} (lt : α -> α -> Bool) (l : List α) : List α := l.mergeSort λ a b => !lt b a
theorem Q5e {α : Type} (lt : α -> α -> Bool) (l : List α) : (srt lt l).Perm l := List.mergeSort_perm _ _
theorem Ord.trle {α : Type} {lt : α -> α -> Bool} (o : Ord lt) : ∀ a b c : α,(!lt b a) = true -> (!lt c b) = true -> (!lt c a) = true := λ a b c h1 h2 => by
 have h1 : lt b a = false := by simpa using h1
 have h2 : lt c b = false := by simpa using h2
 cases h : lt c a with
 | false => rfl
 | true =>
  cases h3 : lt a b with
  | true => rw [o.tr _ _ _ h h3] at h2; cases h2
  | false => rw [o.tot _ _ h3 h1] at h; rw [h] at h2; cases h2
theorem Ord.totle {α : Type} {lt : α -> α -> Bool} (o : Ord lt) : ∀ a b : α,((!lt b a) || (!lt a b)) = true := λ a b => by
 cases h : lt b a with
 | false => rfl
 | true =>
  cases h2 : lt a b with
  | false => rfl
  | true => have := o.tr _ _ _ h h2; rw [o.irr] at this; cases this
theorem srt_pw {α : Type} {lt : α -> α -> Bool} (o : Ord lt) (l : List α) : (srt lt l).Pairwise λ a b => (!lt b a) = true := List.pairwise_mergeSort o.trle o.totle l
theorem srt_uniq {α : Type} {lt : α -> α -> Bool} (o : Ord lt) {l q : List α} (h1 : q.Perm l) (h2 : q.Pairwise λ a b => (!lt b a) = true) : q = srt lt l :=
 List.Perm.eq_of_pairwise (λ a b _ _ x y => o.tot a b (by simpa using y) (by simpa using x)) h2 (srt_pw o l) (h1.trans (Q5e lt l).symm)
theorem pp_mem {p : Array Nat} {n : Nat} (g : p.Perm (List.toArray (List.range n))) : ∀ i ∈ p.toList,i < n := λ i hi => by
 have : i ∈ List.toArray (List.range n) := g.mem_iff.mp (Array.mem_toList_iff.mp hi)
 simpa using this
theorem pp_map {α : Type} [Inhabited α] {p : Array Nat} {ps : List α} (g : p.Perm (List.toArray (List.range ps.length))) : (p.toList.map λ i => ps.getD i default).Perm ps := by
 have e : (List.range ps.length).map (λ i => ps.getD i default) = ps := by
  apply List.ext_getElem
  ·simp
  ·intro i h1 h2
   simp
   rw [List.getElem?_eq_getElem h2]
   rfl
 have q : p.toList.Perm (List.range ps.length) := by
  have := Array.perm_iff_toList_perm.mp g
  simpa using this
 have := q.map λ i => ps.getD i default
 rw [e] at this
 exact this
theorem sorted_fin {α : Type} [Inhabited α] {lt : α -> α -> Bool} (o : Ord lt) {K : PySem.W.Frag} {G : Wd} {ps : List α} {f : α -> D} {vs : List V} {its : List Value} {key : Nat -> Int} (hkey : ∀ i,i < ps.length -> key i = Q4i lt ps (ps.getD i default)) (is : Iss K G (ps.map f) vs) (va : Vals vs its)
  {p : Array Nat} (g1 : p.Perm (List.toArray (List.range ps.length))) (g2 : p.size = ps.length) (g3 : Srt key p ps.length) : ∃ us,Vals us (outOf p its) /\ Iss K G ((srt lt ps).map f) us /\ us.length = ps.length := by
 have hb := pp_mem g1
 have e1 := is.length
 have e2 := va.length
 rw [List.length_map] at e1
 refine ⟨p.toList.map λ i => vs.getD i .non,?_,?_,by simp [g2]⟩
 ·unfold outOf
  have : ∀ l : List Nat,(∀ i ∈ l,i < ps.length) -> Vals (l.map λ i => vs.getD i .non) (l.map λ i => its.getD i Value.none) := λ l => by
   induction l with
   | nil => intro _; exact .nil
   | cons a l ih =>
    intro h
    have ha := h a List.mem_cons_self
    obtain ⟨u,hu,ru⟩ := va.get (i := a) (x := vs[a]'(by omega)) (by simp)
    refine .cons ?_ (ih λ i hi => h i (List.mem_cons_of_mem _ hi))
    dsimp only
    rw [List.getD_eq_getElem?_getD,List.getD_eq_getElem?_getD,List.getElem?_eq_getElem (show a < vs.length by omega),hu]
    exact ru
  exact this _ hb
 ·rw [<- srt_uniq o (pp_map g1) ?_]
  ·have : ∀ l : List Nat,(∀ i ∈ l,i < ps.length) -> Iss K G ((l.map λ i => ps.getD i default).map f) (l.map λ i => vs.getD i .non) := λ l => by
    induction l with
    | nil => intro _; exact .nil
    | cons a l ih =>
     intro h
     have ha := h a List.mem_cons_self
     obtain ⟨v,hv,iv⟩ := is.get (i := a) (d := f ps[a]) (by simp [ha])
     refine .cons ?_ (ih λ i hi => h i (List.mem_cons_of_mem _ hi))
     dsimp only
     rw [List.getD_eq_getElem?_getD,List.getD_eq_getElem?_getD,List.getElem?_eq_getElem ha,hv]
     exact iv
   exact this _ hb
  ·rw [List.pairwise_iff_getElem]
   intro i j hi hj hij
   rw [List.length_map,Array.length_toList] at hi hj
   have kq : ∀ i (h : i < p.size),KQ key p i = Q4i lt ps (ps.getD p[i] default) := λ i h => by
    unfold KQ
    rw [Q2W,Array.getElem?_eq_getElem h,Option.getD_some]
    exact hkey _ (hb _ (Array.mem_toList_iff.mpr (Array.getElem_mem h)))
   have k := g3 i j (Nat.le_of_lt hij) (by omega)
   rw [kq i hi,kq j hj] at k
   rw [List.getElem_map,List.getElem_map,Array.getElem_toList,Array.getElem_toList]
   have mem : ∀ i (h : i < p.size),ps.getD p[i] default ∈ ps := λ i h => by
    have := hb _ (Array.mem_toList_iff.mpr (Array.getElem_mem h))
    rw [List.getD_eq_getElem?_getD,List.getElem?_eq_getElem this]
    exact List.getElem_mem _
   have := rank_iff o.irr o.tr o.tot (mem j hj) (mem i hi)
   rw [<- this]
   simp only [Bool.not_eq_true',decide_eq_false_iff_not]
   omega
def ltP (a b : Int × Int) : Bool := decide (a.1 < b.1 \/ (a.1 = b.1 /\ a.2 < b.2))
theorem ordP : Ord ltP := ⟨λ a => by simp [ltP],λ a b c h1 h2 => by simp [ltP] at *; omega,λ a b h1 h2 => by
 simp [ltP] at *
 obtain ⟨a1,a2⟩ := a; obtain ⟨b1,b2⟩ := b
 simp at *
 omega⟩
abbrev pD (p : Int × Int) : D := .tup [.int p.1,.int p.2]
def CmpD {α : Type} [Inhabited α] (X : Cx) (lt : α -> α -> Bool) (f : α -> D) : Prop :=
 ∀ (A : Around) (G : Wd) (H : Hp) (pins : List (Addr × Obj)) (σ : L2.St) (s : Shared) (s' : Shared) (O : Sto) (ps : List α) (vs : List V) (its : List Value),L2.Inv X pins σ H s -> SA X.K G H O -> Iss X.K G (ps.map f) vs -> Vals vs its -> 2 <= ps.length -> (∀ b o,s.heap.get? b = some o -> s'.heap.get? b = some o) ->
  Cmp X.prog X.w A its (λ i => Q4i lt ps (ps.getD i default)) s'
theorem getD_at {α : Type} {l : List α} {i : Nat} (h : i < l.length) (d : α) : l.getD i d = l[i] := by rw [List.getD_eq_getElem?_getD,List.getElem?_eq_getElem h]; rfl
theorem at_mem {α : Type} {l : List α} {i : Nat} (h : i < l.length) (d : α) : l.getD i d ∈ l := by rw [getD_at h]; exact List.getElem_mem _
theorem cmpP {X : Cx} : CmpD X ltP pD := λ A G H pins σ s s' O ps vs its I sa is va h2 up => by
 have e1 := is.length
 have e2 := va.length
 rw [List.length_map] at e1
 have at' : ∀ i,i < ps.length -> ∃ a t u,its.getD i Value.none = .ref a /\ ∃ o n,s'.heap.get? a = some o /\ o.cls = .type "tuple" /\ o.data = .seq #[.int (ps.getD i default).1 t,.int (ps.getD i default).2 u] n := λ i hi => by
  obtain ⟨v,hv,iv⟩ := is.get (i := i) (d := pD ps[i]) (by simp [hi])
  obtain ⟨w,hw,rw'⟩ := va.get hv
  cases iv with
  | tup h r =>
  cases r with | cons j1 r => cases r with | cons j2 r =>
  cases r
  cases j1
  cases j2
  cases rw'
  obtain ⟨its2,v2,⟨o,g1,g2,n,g3⟩,_⟩ := I.tuple (Q1D sa.sub h)
  obtain ⟨u1,u2,rfl,q1,q2⟩ := vals2 v2
  obtain ⟨t,rfl⟩ := q1
  obtain ⟨t',rfl⟩ := q2
  refine ⟨_,t,t',by rw [List.getD_eq_getElem?_getD,hw]; rfl,o,n,up _ _ g1,g2,?_⟩
  rw [getD_at hi]
  exact g3
 refine ⟨tuples' (Value.type "int" != Value.type "tuple"),λ E Q hq => ?_,λ i j C hi hj hC => ?_⟩
 ·have tp : ∀ (l : List Nat),(∀ i ∈ l,i < ps.length) -> ∃ fs,KatTups s'.heap (l.map λ i => its.getD i Value.none) fs /\ fs.length = l.length /\ ∀ f ∈ fs,∃ k t,f = Value.int k t := λ l => by
   induction l with
   | nil => intro _; exact ⟨[],.nil,rfl,λ f h => by cases h⟩
   | cons a l ih =>
    intro h
    obtain ⟨fs,f1,f2,f3⟩ := ih λ i hi => h i (List.mem_cons_of_mem _ hi)
    obtain ⟨b,t,u,e,o,n,g1,g2,g3⟩ := at' a (h a List.mem_cons_self)
    refine ⟨.int (ps.getD a default).1 t :: fs,?_,by simp [f2],λ f hf => ?_⟩
    ·show KatTups s'.heap (its.getD a Value.none :: _) _
     rw [e]
     exact .cons g1 g2 g3 rfl f1
    ·rcases List.mem_cons.mp hf with q | q
     ·exact ⟨_,_,q⟩
     ·exact f3 f q
  obtain ⟨fs,f1,f2,f3⟩ := tp (List.range ps.length) λ i hi => List.mem_range.mp hi
  have ei : ((List.range ps.length).map λ i => its.getD i Value.none) = its := by
   apply List.ext_getElem
   ·simp; omega
   ·intro i h1 h3
    simp
    rw [List.getElem?_eq_getElem h3]; rfl
  rw [ei] at f1
  refine kat_kind f1 (by rw [f2,List.length_range]; omega) (λ f hf => ?_) (by decide) hq
  obtain ⟨k,t,rfl⟩ := f3 f hf
  exact .now
 ·obtain ⟨a,t,u,ea,oa,na,a1,a2,a3⟩ := at' i (by omega)
  obtain ⟨b,t',u',eb,ob,nb,b1,b2,b3⟩ := at' j (by omega)
  have hr := rank_iff ordP.irr ordP.tr ordP.tot (at_mem (show i < ps.length by omega) default) (at_mem (show j < ps.length by omega) default)
  rw [hr] at hC
  rw [ea,eb]
  generalize ps.getD i default = x at hC a3
  generalize ps.getD j default = y at hC b3
  refine kat_lt a1 a3 b1 b3 ?_
  show KatLex _ _ _ _ _ _ [(Value.int x.1 t,Value.int y.1 t'),(Value.int x.2 u,Value.int y.2 u')] 0 s'
  refine kat_cons (wpAny_eqBool_int ?_)
  by_cases h1 : x.1 = y.1
  ·rw [show (x.1 == y.1) = true by simpa using h1]
   refine kat_yes (kat_cons (wpAny_eqBool_int ?_))
   by_cases h2 : x.2 = y.2
   ·rw [show (x.2 == y.2) = true by simpa using h2]
    refine kat_yes (kat_nil ?_)
    have : ltP x y = false := by unfold ltP; exact decide_eq_false (by omega)
    rw [this] at hC
    exact hC
   ·rw [show (x.2 == y.2) = false by simpa using h2]
    refine kat_no (kat_one _ _ (lt_int ?_))
    have : ltP x y = decide (x.2 < y.2) := by unfold ltP; exact decide_eq_decide.mpr (by omega)
    rw [this] at hC
    exact hC
  ·rw [show (x.1 == y.1) = false by simpa using h1]
   refine kat_no ?_
   have e : ((Value.type "int" != Value.type "tuple") && (0 : Nat) == 0) = true := by decide
   rw [e]
   refine oneLt_int ?_
   have : ltP x y = decide (x.1 < y.1) := by unfold ltP; exact decide_eq_decide.mpr (by omega)
   rw [this] at hC
   exact hC
section
variable {X : Cx} {ρ : Rho} {O : Sto} {e a b c : Expr} {es : List Expr} {d da db : D} {ds : List D} {R : D -> Sto -> Prop} {pos p : Pos} {x : Str} {xs ys : List D} {α : Type} [Inhabited α] {lt : α -> α -> Bool} {f : α -> D} {ps : List α}
theorem sorted_laid (o : Ord lt) (cm : CmpD X lt f) {pins : List (Addr × Obj)} {σ : L2.St} {s1 : Shared} {H1 : Hp} {G1 : Wd} {vs : List V} {its : List Value} {Q : VK} (I : L2.Inv X pins σ H1 s1) (sa : SA X.K G1 H1 O) (is : Iss X.K G1 (ps.map f) vs) (va : Vals vs its) (h64 : ps.length < 64)
  (hq : ∀ v G' H',Ext G1 G' -> SA X.K G' H' O -> Is X.K G' (.lst ((srt lt ps).map f)) v -> Q v H') :
  ∃ key,its.length < 64 /\ (2 <= its.length -> Cmp X.prog X.w X.A.in1.in1 its key { s1 with heap := inSort (s1.heap.push (seqObj "list" its.toArray 0)) s1.heap.objs.size its }) /\
   ∀ p : Array Nat,p.Perm (List.toArray (List.range its.length)) -> p.size = its.length -> Srt key p its.length -> EP X pins σ Q (.ref s1.heap.objs.size) { s1 with heap := sortedHeap (s1.heap.push (seqObj "list" its.toArray 0)) s1.heap.objs.size its (List.toArray (outOf p its)) } := by
 have e1 := is.length
 have e2 := va.length
 rw [List.length_map] at e1
 have el : its.length = ps.length := by omega
 refine ⟨λ i => Q4i lt ps (ps.getD i default),by omega,λ h2 => ?_,λ p p1 p2 p3 => ?_⟩
 ·refine cm _ G1 H1 pins σ s1 _ O ps vs its I sa is va (by omega) λ b ob q => ?_
  exact inSort_old (Nat.ne_of_lt (Heap.lt_size q)) (Heap.get?_push_of_some _ q)
 ·rw [el] at p1 p2 p3
  obtain ⟨us,u1,u2,u3⟩ := sorted_fin o (λ i _ => rfl) is va p1 p2 p3
  obtain ⟨ec,hD⟩ := sortedHeap_at (h := s1.heap.push (seqObj "list" its.toArray 0)) (a := s1.heap.objs.size) (vs := its) (n := 0) (out := List.toArray (outOf p its)) (Heap.get?_push_size _ rfl)
  have fr : H1 s1.heap.objs.size = none := I.hok.fresh (Nat.le_refl _)
  obtain ⟨e3,s3⟩ := sa.laid (o := .lst us) fr
  refine ⟨.ref s1.heap.objs.size,upd H1 s1.heap.objs.size (.lst us),?_,rfl,hq _ _ _ e3 s3 (.lst Q0z (u2.ext e3))⟩
  refine I.laid (t' := s1.toks) (λ b u q => ?_) (Nat.le_refl _) ⟨by rw [u3,sizeLine_eq]; omega,outOf p its,ec,u1,hD⟩
  have hb : b < s1.heap.objs.size := Heap.lt_size q
  rw [sortedHeap_old (Nat.ne_of_lt hb) (by rw [Heap.size_push]; exact Nat.lt_succ_of_lt hb)]
  exact Heap.get?_push_of_some _ q
theorem ev_sortedZ (o : Ord lt) (cm : ∀ Y,CmpD Y lt f) {Ty : String} (hN : NoLen Ty) (hz : EvZ X ρ O e (ps.map f) Ty) (h64 : ps.length < 64) (hm : X.mg "sorted" = none) (hc : X.calm = true := by rfl) (hg : Gl X "sorted" := by rfl) (hs : starEach [e] X.env = [(false,eval e X.env)] := by rfl) :
  EvP X ρ O (.Call (.Name "sorted" p) [e] [] pos) (.lst ((srt lt ps).map f)) := λ G pins s σ H Q I ⟨h1,h2,h3⟩ => by
 refine wpAny_Call_Name_kw (Q4L I hg hm boot_sorted ?_)
 refine PyProof.Rows.callWith_builtin1 ?_ (by rw [hs]; rfl) rfl
 rw [hs]
 show wpAny _ _ (spliced ((false,eval e X.env) :: backTo pos [])) _ _ s
 refine Calls.spliced_cons (thn (hz G (.Name "" pos) pins s σ H (λ J H1 => ∃ G1,Ext G G1 /\ SA X.K G1 H1 O /\ Q3b X.K G1 J (ps.map f)) I h1 h2 λ J G' H' q1 q2 q3 => ⟨G',q1,q2,q3⟩) λ v s1 ⟨⟨it,fp,tn,J,H1,hv,I1,T,st,fo,G1,e1,sa1,Yi⟩,hT⟩ => Calls.spliced_nil ?_)
 subst hv
 refine call_sorted (collect_turn (X := Cx.wA X X.A.in1.in1) (A := X.A.in1) rfl hc T (λ v => rfl) Yi (by rw [List.length_map,sizeLine_eq]; omega) hN hT (Inv_A I1 rfl rfl) st fo sa1 λ s' H' G' vs its I' e' sa' is' va' => ?_)
 exact sorted_laid o (cm X) (Inv_unA I' I.ok) sa' is' va' h64 λ v G'' H'' q1 q2 q3 => h3 v G'' H'' (e1.trans (e'.trans q1)) q2 q3
end
mutual
def toPy : D -> PyData
 | .non => .none | .bl b => .bool b | .int i => .int i | .str x => .str x | .tup xs => .tuple (toPys xs) | .lst xs => .list (toPys xs) | .scr xs => .list (toPys xs) | .ptr _ => .none | .ty _ => .none | .fn _ => .none | .dct _ _ => .none
def toPys : List D -> List PyData
 | [] => []
 | x :: xs => toPy x :: toPys xs
end
mutual
def plD : D -> Bool
 | .non => true | .bl _ => true | .int _ => true | .str x => PyData.strOk x | .tup xs => plDs xs | .lst xs => plDs xs | .scr xs => plDs xs | .ptr _ => false | .ty _ => false | .fn _ => false | .dct _ _ => false
def plDs : List D -> Bool
 | [] => true
 | x :: xs => plD x && plDs xs
end
mutual
def dpD : D -> Nat
 | .tup xs => dpDs xs + 1 | .lst xs => dpDs xs + 1 | .scr xs => dpDs xs + 1 | .non => 0 | .bl _ => 0 | .int _ => 0 | .str _ => 0 | .ptr _ => 0 | .ty _ => 0 | .fn _ => 0 | .dct _ _ => 0
def dpDs : List D -> Nat
 | [] => 0
 | x :: xs => max (dpD x) (dpDs xs)
end
def eqD (a b : D) : Bool := PyData.eqv (toPy a) (toPy b)
def eqDs (a b : List D) : Bool := PyData.eqvAll (toPys a) (toPys b)
mutual
theorem dp_py : ∀ d : D,(toPy d).depth = dpD d
 | .non => rfl | .bl _ => rfl | .int _ => rfl | .str _ => rfl | .ptr _ => rfl | .ty _ => rfl | .fn _ => rfl | .dct _ _ => rfl
 | .tup xs => by simp only [toPy,PyData.depth,dpD]; rw [dp_pys xs]
 | .lst xs => by simp only [toPy,PyData.depth,dpD]; rw [dp_pys xs]
 | .scr xs => by simp only [toPy,PyData.depth,dpD]; rw [dp_pys xs]
theorem dp_pys : ∀ xs : List D,PyData.depthAll (toPys xs) = dpDs xs
 | [] => rfl
 | x :: xs => by simp only [toPys,PyData.depthAll,dpDs]; rw [dp_py x,dp_pys xs]
end
mutual
theorem pl_lay : ∀ d : D,plD d = true -> (toPy d).canLay0 = true
 | .non,_ => rfl | .bl _,_ => rfl | .int _,_ => rfl | .str x,h => by simp only [plD] at h; simp only [toPy,PyData.canLay0]; exact h | .ptr _,h => nomatch h | .ty _,h => nomatch h | .fn _,h => nomatch h | .dct _ _,h => nomatch h
 | .tup xs,h => pl_lays xs h
 | .lst xs,h => pl_lays xs h
 | .scr xs,h => pl_lays xs h
theorem pl_lays : ∀ xs : List D,plDs xs = true -> PyData.canLayAll0 (toPys xs) = true
 | [],_ => rfl
 | x :: xs,h => by
  have h : (plD x && plDs xs) = true := h
  rw [Bool.and_eq_true] at h
  show (PyData.canLay0 (toPy x) && PyData.canLayAll0 (toPys xs)) = true
  rw [pl_lay x h.1,pl_lays xs h.2]; rfl
end
section
variable {X : Cx} {pins : List (Addr × Obj)} {σ : L2.St} {H : Hp} {s : Shared} {G : Wd}
mutual
theorem rd_of (I : L2.Inv X pins σ H s) (sub : Same G.g H) : ∀ {d : D} {v : V} {u : Value},Is X.K G d v -> RelV v u -> plD d = true -> ∃ as,Reads s.heap u (toPy d) as
 | _,_,_,.non,r,_ => by cases r; exact ⟨[],.none⟩
 | _,_,_,.bl b,r,_ => by cases r; exact ⟨[],.bool b⟩
 | _,_,_,.int i,r,_ => by obtain ⟨t,rfl⟩ := r; exact ⟨[],.int i t⟩
 | _,_,_,.str x,r,_ => by obtain ⟨t,rfl⟩ := r; exact ⟨[],.str x t⟩
 | _,_,_,.tup h q,r,p => by
  cases r
  obtain ⟨its,va,⟨o,g1,g2,n,g3⟩,_⟩ := I.tuple (Q1D sub h)
  obtain ⟨as,ra⟩ := rds_of I sub q va p
  exact ⟨as,.tuple g1 g2 g3 (by simpa using ra)⟩
 | _,_,_,.lst h q,r,p => by
  cases r
  obtain ⟨its,va,pl,_⟩ := I.list (SqL.of (sub _ _ h))
  obtain ⟨o,g1,g2,n,g3⟩ := pl.isList
  obtain ⟨as,ra⟩ := rds_of I sub q va p
  exact ⟨_,.list g1 g2 g3 (by simpa using ra)⟩
 | _,_,_,.scr h q,r,p => by
  cases r
  obtain ⟨its,va,pl,_⟩ := I.list (sub.seq h)
  obtain ⟨o,g1,g2,n,g3⟩ := pl.isList
  obtain ⟨as,ra⟩ := rds_of I sub q va p
  exact ⟨_,.list g1 g2 g3 (by simpa using ra)⟩
 | _,_,_,.ptr _ _,_,p => by simp [plD] at p
 | _,_,_,.ty _,_,p => by simp [plD] at p
 | _,_,_,.fn _,_,p => by simp [plD] at p
 | _,_,_,.dct _ _ _,_,p => by simp [plD] at p
theorem rds_of (I : L2.Inv X pins σ H s) (sub : Same G.g H) : ∀ {ds : List D} {vs : List V} {us : List Value},Iss X.K G ds vs -> Vals vs us -> plDs ds = true -> ∃ as,ReadsAll s.heap us (toPys ds) as
 | _,_,_,.nil,.nil,_ => ⟨[],.nil⟩
 | d :: ds,_,_,.cons i is,.cons r rs,p => by
  have p : (plD d && plDs ds) = true := p
  rw [Bool.and_eq_true] at p
  obtain ⟨as,ra⟩ := rd_of I sub i r p.1
  obtain ⟨bs,rb⟩ := rds_of I sub is rs p.2
  exact ⟨_,.cons ra rb⟩
end
end
def RD (O : Sto) (d e : D) : Prop := e = d \/ ∃ n xs,d = .ptr n /\ O[n]? = some (some (.lst xs)) /\ e = .lst xs
theorem RD.reads {X : Cx} {pins : List (Addr × Obj)} {σ : L2.St} {H : Hp} {s : Shared} {G : Wd} {O : Sto} {d e : D} {v : V} {u : Value} (h : RD O d e) (I : L2.Inv X pins σ H s) (sa : SA X.K G H O) (i : Is X.K G d v) (r : RelV v u) (p : plD e = true) : ∃ as,Reads s.heap u (toPy e) as := by
 rcases h with rfl | ⟨n,xs,rfl,h,rfl⟩
 ·exact rd_of I sa.sub i r p
 ·cases i with | ptr _ ha =>
  cases r
  obtain ⟨a,g0,_,vs,g1,g2⟩ := sa.mt n _ h
  have := Option.some.inj (ha.symm.trans g0)
  subst this
  obtain ⟨its,va,pl,_⟩ := I.list (SqL.of g1)
  obtain ⟨o,q1,q2,k,q3⟩ := pl.isList
  obtain ⟨as,ra⟩ := rds_of I sa.sub g2 va p
  exact ⟨_,.list q1 q2 q3 (by simpa using ra)⟩
section
variable {X : Cx} {ρ : Rho} {O : Sto} {e a b c : Expr} {es : List Expr} {d da db ea eb : D} {ds xs ys : List D} {R : D -> Sto -> Prop} {pos p : Pos} {x : Str} {k : Nat}
theorem cmp_neD (hr : Room k X.A) (ha : RD O da ea) (hb : RD O db eb) (pa : plD ea = true) (pb : plD eb = true) (hd : min (dpD ea) (dpD eb) <= 60) : Op2 X O (compareOp .NotEq) da db (.bl (!eqD ea eb)) := λ G pins s σ H x y v u Q I rx ry ⟨h1,h2,h3,h4⟩ => by
 obtain ⟨as,ra⟩ := ha.reads I h1 h2 rx pa
 obtain ⟨bs,rb⟩ := hb.reads I h1 h3 ry pb
 have hu := hr.units
 exact PySem.SeqAt.compareNe_reads ra rb (pl_lay _ pa) (pl_lay _ pb) (by rw [dp_py,dp_py]; omega) ⟨.bl _,H,I,rfl,h4 _ G H (Ext.refl _) h1 (.bl _)⟩
end
theorem plDs_all {l : List D} (h : ∀ d ∈ l,plD d = true) : plDs l = true := by
 induction l with
 | nil => rfl
 | cons x xs ih =>
  show (plD x && plDs xs) = true
  rw [h x List.mem_cons_self,ih λ d hd => h d (List.mem_cons_of_mem _ hd)]; rfl
theorem plDs_map {α : Type} {f : α -> D} {l : List α} (h : ∀ a ∈ l,plD (f a) = true) : plDs (l.map f) = true := plDs_all λ d hd => by obtain ⟨a,ha,rfl⟩ := List.mem_map.mp hd; exact h a ha
theorem dpDs_le {l : List D} {k : Nat} (h : ∀ d ∈ l,dpD d <= k) : dpDs l <= k := by
 induction l with
 | nil => exact Nat.zero_le _
 | cons x xs ih =>
  show max (dpD x) (dpDs xs) <= k
  have := h x List.mem_cons_self
  have := ih λ d hd => h d (List.mem_cons_of_mem _ hd)
  omega
theorem dpDs_map {α : Type} {f : α -> D} {l : List α} {k : Nat} (h : ∀ a ∈ l,dpD (f a) <= k) : dpDs (l.map f) <= k := dpDs_le λ d hd => by obtain ⟨a,ha,rfl⟩ := List.mem_map.mp hd; exact h a ha
theorem eqDs_map {α : Type} {f : α -> D} [DecidableEq α] (h : ∀ a b,eqD (f a) (f b) = decide (a = b)) : ∀ l m : List α,eqDs (l.map f) (m.map f) = decide (l = m)
 | [],[] => rfl
 | [],_ :: _ => rfl
 | _ :: _,[] => rfl
 | a :: l,b :: m => by
  show (eqD (f a) (f b) && eqDs (l.map f) (m.map f)) = _
  rw [h a b,eqDs_map h l m]
  by_cases h1 : a = b
  ·by_cases h2 : l = m
   ·simp [h1,h2]
   ·simp [h1,h2]
  ·simp [h1]
theorem eqD_int (a b : Int) : eqD (.int a) (.int b) = decide (a = b) := by
 show (a == b) = _
 by_cases h : a = b
 ·simp [h]
 ·simp [h]
theorem eqD_intsT (a b : List Int) : eqD (.tup (a.map D.int)) (.tup (b.map D.int)) = decide (a = b) := eqDs_map eqD_int a b
theorem plD_ints (a : List Int) : plDs (a.map D.int) = true := plDs_map λ _ _ => rfl
theorem dpD_ints (a : List Int) : dpDs (a.map D.int) <= 0 := dpDs_map λ _ _ => Nat.le_refl _
theorem getD_in {α : Type} {l : List α} {i : Nat} (h : i < l.length) (d : α) : l.getD i d = l[i] := by simp [h]
section
variable {X : Cx} {ρ : Rho} {O : Sto} {e a b c : Expr} {es : List Expr} {d da db ea eb : D} {ds xs ys : List D} {R : D -> Sto -> Prop} {pos p : Pos} {x : Str} {k : Nat}
theorem LT.sq {K : PySem.W.Frag} {G : Wd} {H : Hp} {O : Sto} {d : D} {xs : List D} {v : V} (h : LT O d xs) (s : SA K G H O) (i : Is K G d v) : ∃ k a vs,v = .ref a /\ Sq k K H a vs /\ Iss K G xs vs := by
 rcases h with h | rfl
 ·obtain ⟨a,vs,rfl,q,r⟩ := h.sq s i; exact ⟨true,a,vs,rfl,q,r⟩
 ·obtain ⟨a,vs,rfl,q,r⟩ := tup_sq s i; exact ⟨false,a,vs,rfl,q,r⟩
theorem preSum_is (ns : List Int) : preSum (λ i => ns.getD i 0) ns.length = ns.sum := by rw [preSum_getD,List.take_length]
theorem ssq_lt {k : Bool} {h : Heap} {l : Addr} {ys : Array Value} (q : SSq k h l ys) : l < h.objs.size := by
 cases k with
 | true => obtain ⟨o,g,_⟩ := (q : h.IsList l ys); exact Heap.lt_size g
 | false => obtain ⟨o,g,_⟩ := (q : h.IsTuple l ys); exact Heap.lt_size g
theorem call_sum_sq {prog : Program} {w : World} {A : Around} {E : Value -> Shared -> Prop} {s : Shared} {k : Bool} {l : Addr} {its : List Value} {ns : List Int} {Q : Value -> Shared -> Prop} (hh : A.handled = none) (q : SSq k s.heap l its.toArray) (hv : ∀ (i : Nat) (v : Value),its[i]? = some v -> ∃ t,v = .int (ns.getD i 0) t) (hn : ns.length = its.length)
  (h : ∀ h' tk t,(∀ b o,s.heap.get? b = some o -> h'.get? b = some o) -> Q (.int ns.sum t) { s with heap := h',toks := tk }) : wpAny (model prog w) A (call (.builtin "sum") [.ref l]) Q E s := by
 have hl := ssq_lt q
 have fin : ∀ (h2 : Heap),(∀ b o,s.heap.get? b = some o -> h2.get? b = some o) -> ∀ h' tk t',(∀ b o,b ∉ [s.heap.objs.size] -> h2.get? b = some o -> h'.get? b = some o) -> Q (.int (preSum (λ i => ns.getD i 0) its.toArray.size) t') { s with heap := h',toks := tk } := λ h2 up h' tk t' kp => by
  rw [show its.toArray.size = ns.length by simp [hn],preSum_is]
  exact h h' tk t' λ b o e => kp b o (by simpa using Nat.ne_of_lt (Heap.lt_size e)) (up b o e)
 cases k with
 | true =>
  refine call_sum_walkG (wpAny_pyIter_list q ⟨s.heap.objs.size,[s.heap.objs.size,l],[s.heap.objs.size],its.toArray.size,λ i v => its.toArray[i]? = some v,λ i h => h.IsListIter s.heap.objs.size l i /\ h.IsList l its.toArray,λ i => ns.getD i 0,rfl,Walks.list (A := A.in1) hh _ l (Nat.ne_of_lt hl) its.toArray,⟨⟨_,Heap.get?_push_size _ rfl,rfl,rfl⟩,Heap.IsList.push q _⟩,λ b hb => ?_,λ i v e => hv i v (by simpa using e),fin _ λ b o e => Heap.get?_push_of_some _ e⟩)
  rw [Heap.size_push]
  rcases List.mem_cons.mp hb with rfl | hb
  ·exact Nat.lt_succ_self _
  ·rw [List.mem_singleton.mp hb]; exact Nat.lt_succ_of_lt hl
 | false =>
  refine call_sum_walkG (wpAny_pyIter_tuple q ⟨s.heap.objs.size,[s.heap.objs.size,l],[s.heap.objs.size],its.toArray.size,λ i v => its.toArray[i]? = some v,λ i h => h.IsTupleIter s.heap.objs.size l i /\ h.IsTuple l its.toArray,λ i => ns.getD i 0,rfl,Walks.tuple (A := A.in1) hh _ l (Nat.ne_of_lt hl) its.toArray,⟨⟨_,Heap.get?_push_size _ rfl,rfl,rfl⟩,(SSq.at (k := false) q λ o e => Heap.get?_push_of_some _ e : SSq false _ l _)⟩,λ b hb => ?_,λ i v e => hv i v (by simpa using e),fin _ λ b o e => Heap.get?_push_of_some _ e⟩)
  rw [Heap.size_push]
  rcases List.mem_cons.mp hb with rfl | hb
  ·exact Nat.lt_succ_self _
  ·rw [List.mem_singleton.mp hb]; exact Nat.lt_succ_of_lt hl
theorem c_sum {ns : List Int} (h : LT O d (ns.map D.int)) (hc : X.calm = true := by rfl) : Q2w X O (.builtin "sum") [d] (.int ns.sum) := λ G pins s σ H vs us Q I r ⟨h1,h2,h3⟩ => by
 cases h2 with | cons i r2 =>
 cases r2
 obtain ⟨kk,ad,ws,rfl,q,is⟩ := h.sq h1 i
 obtain ⟨u,rfl,ru⟩ := vals1 r
 cases ru
 obtain ⟨its,va,sq,_⟩ := Q3r I q
 have e := is.toInts
 subst e
 have el := va.length
 rw [List.length_map] at el
 refine call_sum_sq (ns := ns) (I.ok.hd hc) sq (λ i v hv => ?_) el λ h' tk t kp => ⟨.int ns.sum,H,I.kept kp,⟨t,rfl⟩,h3 _ G H (Ext.refl _) h1 (.int _)⟩
 have hi : i < ns.length := by rw [el]; exact (List.getElem?_eq_some_iff.mp hv).1
 obtain ⟨w,hw,rw'⟩ := va.get (i := i) (x := .int ns[i]) (by simp [hi])
 rw [hv] at hw
 cases hw
 obtain ⟨t,e⟩ := rw'
 exact ⟨t,by rw [e,getD_in hi]⟩
theorem call_all_sq {prog : Program} {w : World} {A : Around} {E : Value -> Shared -> Prop} {s : Shared} {k : Bool} {l : Addr} {its : List Value} {bs : List Bool} {Q : Value -> Shared -> Prop} (hh : A.handled = none) (q : SSq k s.heap l its.toArray) (hv : ∀ (i : Nat) (v : Value),its[i]? = some v -> v = .bool (bs.getD i true)) (hn : bs.length = its.length) (al : Bool)
  (h : ∀ h' tk,(∀ b o,s.heap.get? b = some o -> h'.get? b = some o) -> Q (.bool (if al then bs.all id else bs.any id)) { s with heap := h',toks := tk }) : wpAny (model prog w) A (call (.builtin (if al then "all" else "any")) [.ref l]) Q E s := by
 have hl := ssq_lt q
 have ea : (List.range its.toArray.size).all (λ i => bs.getD i true) = bs.all id := by
  have : bs = (List.range bs.length).map λ i => bs.getD i true := by
   apply List.ext_getElem
   ·simp
   ·intro i h1 h2; simp; rw [List.getElem?_eq_getElem h1]; rfl
  conv => rhs; rw [this,List.all_map]
  rw [show its.toArray.size = bs.length by simp [hn]]
  rfl
 have eb : (List.range its.toArray.size).any (λ i => bs.getD i true) = bs.any id := by
  have : bs = (List.range bs.length).map λ i => bs.getD i true := by
   apply List.ext_getElem
   ·simp
   ·intro i h1 h2; simp; rw [List.getElem?_eq_getElem h1]; rfl
  conv => rhs; rw [this,List.any_map]
  rw [show its.toArray.size = bs.length by simp [hn]]
  rfl
 have kp' : ∀ (h2 : Heap),(∀ b o,s.heap.get? b = some o -> h2.get? b = some o) -> ∀ h' : Heap,(∀ b o,b ∉ [s.heap.objs.size] -> h2.get? b = some o -> h'.get? b = some o) -> ∀ b o,s.heap.get? b = some o -> h'.get? b = some o := λ h2 up h' kp b o e => kp b o (by simpa using Nat.ne_of_lt (Heap.lt_size e)) (up b o e)
 have tr : TruthOf prog w A.in1 (λ i v => its.toArray[i]? = some v) (λ i => bs.getD i true) := λ i v s Q E hP hQ => by
  rw [hv i v (by simpa using hP)]; exact wpAny_truthy_bool hQ
 cases k with
 | true =>
  have W := Walks.list (prog := prog) (w := w) (A := A.in1) hh s.heap.objs.size l (Nat.ne_of_lt hl) its.toArray
  have st : (s.heap.push { cls := .type "list_iterator",data := .fields #[.ref l,.int 0 0] }).IsListIter s.heap.objs.size l 0 /\ (s.heap.push { cls := .type "list_iterator",data := .fields #[.ref l,.int 0 0] }).IsList l its.toArray := ⟨⟨_,Heap.get?_push_size _ rfl,rfl,rfl⟩,Heap.IsList.push q _⟩
  cases al with
  | true => exact call_all_walk (wpAny_pyIter_list q ⟨_,_,_,_,_,_,_,rfl,W,st,tr,λ h' tk kp => by rw [ea]; exact h h' tk (kp' _ (λ b o e => Heap.get?_push_of_some _ e) h' kp)⟩)
  | false => exact call_any_walk (wpAny_pyIter_list q ⟨_,_,_,_,_,_,_,rfl,W,st,tr,λ h' tk kp => by rw [eb]; exact h h' tk (kp' _ (λ b o e => Heap.get?_push_of_some _ e) h' kp)⟩)
 | false =>
  have W := Walks.tuple (prog := prog) (w := w) (A := A.in1) hh s.heap.objs.size l (Nat.ne_of_lt hl) its.toArray
  have st : (s.heap.push { cls := .type "tuple_iterator",data := .fields #[.ref l,.int 0 0] }).IsTupleIter s.heap.objs.size l 0 /\ (s.heap.push { cls := .type "tuple_iterator",data := .fields #[.ref l,.int 0 0] }).IsTuple l its.toArray := ⟨⟨_,Heap.get?_push_size _ rfl,rfl,rfl⟩,(SSq.at (k := false) q λ o e => Heap.get?_push_of_some _ e : SSq false _ l _)⟩
  cases al with
  | true => exact call_all_walk (wpAny_pyIter_tuple q ⟨_,_,_,_,_,_,_,rfl,W,st,tr,λ h' tk kp => by rw [ea]; exact h h' tk (kp' _ (λ b o e => Heap.get?_push_of_some _ e) h' kp)⟩)
  | false => exact call_any_walk (wpAny_pyIter_tuple q ⟨_,_,_,_,_,_,_,rfl,W,st,tr,λ h' tk kp => by rw [eb]; exact h h' tk (kp' _ (λ b o e => Heap.get?_push_of_some _ e) h' kp)⟩)
theorem c_allany {bs : List Bool} (al : Bool) (h : LT O d (bs.map D.bl)) (hc : X.calm = true) : Q2w X O (.builtin (if al then "all" else "any")) [d] (.bl (if al then bs.all id else bs.any id)) := λ G pins s σ H vs us Q I r ⟨h1,h2,h3⟩ => by
 cases h2 with | cons i r2 =>
 cases r2
 obtain ⟨kk,ad,ws,rfl,q,is⟩ := h.sq h1 i
 obtain ⟨u,rfl,ru⟩ := vals1 r
 cases ru
 obtain ⟨its,va,sq,_⟩ := Q3r I q
 have e1 := is.length
 have e2 := va.length
 rw [List.length_map] at e1
 refine call_all_sq (bs := bs) (I.ok.hd hc) sq (λ i v hv => ?_) (by omega) al λ h' tk kp => ⟨.bl _,H,I.kept kp,rfl,h3 _ G H (Ext.refl _) h1 (.bl _)⟩
 have hi : i < bs.length := by rw [e1,e2]; exact (List.getElem?_eq_some_iff.mp hv).1
 obtain ⟨w,hw,iw⟩ := is.get (i := i) (d := .bl bs[i]) (by simp [hi])
 obtain ⟨z,hz,rz⟩ := va.get hw
 rw [hv] at hz
 cases hz
 cases iw
 rw [getD_in hi]
 exact rz
theorem c_all {bs : List Bool} (h : LT O d (bs.map D.bl)) (hc : X.calm = true := by rfl) : Q2w X O (.builtin "all") [d] (.bl (bs.all id)) := c_allany true h hc
theorem c_any {bs : List Bool} (h : LT O d (bs.map D.bl)) (hc : X.calm = true := by rfl) : Q2w X O (.builtin "any") [d] (.bl (bs.any id)) := c_allany false h hc
end
end DL
namespace DL
open PySem PySem.Spec PyProof.Rows L2
mutual
def npD : D -> Bool
 | .ptr _ => false
 | .tup xs => npDs xs
 | .lst xs => npDs xs
 | .scr xs => npDs xs
 | .dct _ xs => npDs xs
 | _ => true
def npDs : List D -> Bool
 | [] => true
 | d :: ds => npD d && npDs ds
end
theorem npDs_map {α : Type} {f : α -> D} (h : ∀ a,npD (f a) = true) (l : List α) : npDs (l.map f) = true := by
 induction l with
 | nil => rfl
 | cons a l ih => rw [List.map_cons]; unfold npDs; rw [h,ih]; rfl
theorem npDs_ints (l : List Int) : npDs (l.map D.int) = true := npDs_map (λ _ => rfl) l
section
variable {K : PySem.W.Frag} {G G' : Wd} {t : List Addr}
mutual
theorem Is.cut : ∀ {d : D} {v : V},Is K G' d v -> npD d = true -> ∀ l,Is K ⟨G'.g,l⟩ d v
 | _,_,.non,_,l => .non
 | _,_,.bl b,_,l => .bl b
 | _,_,.int i,_,l => .int i
 | _,_,.str x,_,l => .str x
 | _,_,.tup h r,e,l => .tup h (Iss.cut r e l)
 | _,_,.lst h r,e,l => .lst h (Iss.cut r e l)
 | _,_,.scr h r,e,l => .scr h (Iss.cut r e l)
 | _,_,.ptr n h,e,l => by cases e
 | _,_,.ty n,_,l => .ty n
 | _,_,.fn n,_,l => .fn n
 | _,_,.dct h hl r,e,l => .dct h hl (Iss.cut r e l)
theorem Iss.cut : ∀ {ds : List D} {vs : List V},Iss K G' ds vs -> npDs ds = true -> ∀ l,Iss K ⟨G'.g,l⟩ ds vs
 | _,_,.nil,_,l => .nil
 | _,_,.cons h r,e,l => by
  have e := (Bool.and_eq_true _ _).mp e
  exact .cons (Is.cut h e.1 l) (Iss.cut r e.2 l)
end
mutual
theorem Is.back (e : G'.l = G.l ++ t) : ∀ {d : D} {v v0 : V},Is K G d v0 -> Is K G' d v -> Is K ⟨G'.g,G.l⟩ d v
 | _,_,_,.non,h => by cases h; exact .non
 | _,_,_,.bl b,h => by cases h; exact .bl b
 | _,_,_,.int i,h => by cases h; exact .int i
 | _,_,_,.str x,h => by cases h; exact .str x
 | _,_,_,.tup _ r0,h => by cases h with | tup h r => exact .tup h (Iss.back e r0 r)
 | _,_,_,.lst _ r0,h => by cases h with | lst h r => exact .lst h (Iss.back e r0 r)
 | _,_,_,.scr _ r0,h => by cases h with | scr h r => exact .scr h (Iss.back e r0 r)
 | _,_,_,.ptr n q,h => by
  cases h with
  | ptr _ h =>
   refine .ptr n ?_
   rw [e,List.getElem?_append_left (List.getElem?_eq_some_iff.mp q).1] at h
   exact h
 | _,_,_,.ty n,h => by cases h; exact .ty n
 | _,_,_,.fn n,h => by cases h; exact .fn n
 | _,_,_,.dct _ _ r0,h => by cases h with | dct h hl r => exact .dct h hl (Iss.back e r0 r)
theorem Iss.back (e : G'.l = G.l ++ t) : ∀ {ds : List D} {vs v0 : List V},Iss K G ds v0 -> Iss K G' ds vs -> Iss K ⟨G'.g,G.l⟩ ds vs
 | _,_,_,.nil,h => by cases h; exact .nil
 | _,_,_,.cons q r,h => by cases h with | cons h1 h2 => exact .cons (Is.back e q h1) (Iss.back e r h2)
end
theorem FsIs.back (e : G'.l = G.l ++ t) : ∀ {fs : List (Str × D)} {vs v0 : List (Str × V)},FsIs K G fs v0 -> FsIs K G' fs vs -> FsIs K ⟨G'.g,G.l⟩ fs vs
 | _,_,_,.nil,h => by cases h; exact .nil
 | _,_,_,.cons q r,h => by cases h with | cons h1 h2 => exact .cons (Is.back e q h1) (FsIs.back e r h2)
theorem SA.cut {H H' : Hp} {O O2 : Sto} (s : SA K G H O) (e : Ext G G') (s' : SA K G' H' (O ++ O2)) : Ext G ⟨G'.g,G.l⟩ /\ SA K ⟨G'.g,G.l⟩ H' O := by
 obtain ⟨t,et⟩ := e.l
 refine ⟨⟨e.g,[],(List.append_nil _).symm⟩,⟨s'.sub,s.len,s.nd,λ a ha => s'.liv a (by rw [et]; exact List.mem_append_left _ ha),λ n m h => ?_⟩⟩
 have hn := (List.getElem?_eq_some_iff.mp h).1
 obtain ⟨a,q1,q2,q3⟩ := s'.mt n m (by rw [List.getElem?_append_left hn]; exact h)
 obtain ⟨a0,p1,p2,p3⟩ := s.mt n m h
 rw [et,List.getElem?_append_left (by rw [s.len]; exact hn)] at q1
 refine ⟨a,q1,q2,?_⟩
 cases m with
 | lst xs =>
  obtain ⟨vs,g1,g2⟩ := q3
  obtain ⟨v0,h1,h2⟩ := p3
  exact ⟨vs,g1,Iss.back et h2 g2⟩
 | ins C fs =>
  obtain ⟨dx,vs,g1,g2⟩ := q3
  obtain ⟨dx0,v0,h1,h2⟩ := p3
  exact ⟨dx,vs,g1,FsIs.back et h2 g2⟩
 | exc C fs ha =>
  obtain ⟨ob,g1,g2,g3,g4⟩ := q3
  obtain ⟨ob0,h1,h2,h3,_⟩ := p3
  refine ⟨ob,g1,g2,?_,g4⟩
  rcases h3 with h3 | ⟨dx0,v0,b1,b2,b3⟩
  ·exact .inl h3
  ·refine g3.imp id ?_
   rintro ⟨dx,vs,a1,a2,a3⟩
   exact ⟨dx,vs,a1,a2,FsIs.back et b3 a3⟩
 | dct ks xs =>
  obtain ⟨vs,g1,g2,g3⟩ := q3
  obtain ⟨v0,h1,h2,h3⟩ := p3
  exact ⟨vs,g1,g2,Iss.back et h3 g3⟩
 | pin ob vs ks xs => exact ⟨q3.1,q3.2.1,Iss.back et p3.2.2 q3.2.2⟩
end
section
variable {X : Cx} {ρ : Rho} {O : Sto} {e a b c : Expr} {es : List Expr} {d da db : D} {ds : List D} {R : D -> Sto -> Prop} {pos p : Pos} {x : Str} {rest : List Stmt} {P : Post}
theorem xs_keep (h : Exs X ρ O rest { nx := λ _ _ => False,rt := λ d O' => (∃ O2,O' = O ++ O2) /\ npD d = true /\ P.rt d O }) : Exs X ρ O rest P := λ G pins s σ H E I ⟨q1,q2,q3⟩ => by
 refine h G pins s σ H E I ⟨q1,q2,⟨λ σ' ρ' O' G3 H3 e3 s3 n3 q => q.elim,λ v d O' G3 H3 e3 s3 i3 r => ?_,λ σ' ρ' O' G3 H3 e3 s3 n3 q => q.elim,λ σ' ρ' O' G3 H3 e3 s3 n3 q => q.elim⟩⟩
 obtain ⟨⟨O2,rfl⟩,r2,r3⟩ := r
 obtain ⟨e4,s4⟩ := q1.cut e3 s3
 exact q3.rt v d O _ H3 e4 s4 (i3.cut r2 _) r3
def relSp (pre : List D -> Prop) (f : List D -> D -> Prop) : SpD := λ ds O R => pre ds /\ ∀ d,f ds d -> R d O
theorem x_asgE {tg : Expr} (he : Ev X ρ O e λ d O' => ∃ ρ1,Tg X tg d ρ ρ1 /\ P.nx ρ1 O') (hs : swapsWithSole [tg] e pos.line X.env = pure false := by rfl) (hw : swappedStores [tg] e X.env = pure none := by rfl)
  (h1 : (assignEach [tg] X.env).map (·.2) = [assign tg X.env] := by rfl) : Ex X ρ O (.Assign [tg] e pos) P := λ G =>
 PS.imp (ps_asg (he G) (g := λ v σ H Q => ∃ G1 d ρ1,Tg X tg d ρ ρ1 /\ Is X.K G1 d v /\ Same G1.g H /\ EnvR X.K G1 σ ρ /\ ∀ σ',EnvR X.K G1 σ' ρ1 -> Q σ' H) (λ pins s σ H v u Q I r ⟨G1,d,ρ1,ht,q⟩ => ht G1 pins s σ H v u Q I r q) hs hw h1) λ E σ H ⟨q1,q2,q3⟩ =>
  ⟨q1,q2,λ v d O' G' H' e1 s1 i1 ⟨ρ1,t1,r1⟩ => ⟨G',d,ρ1,t1,i1,s1.sub,q2.ext e1,λ σ' n' => q3.nx _ _ O' G' H' e1 s1 n' r1⟩⟩
theorem st0 {m : Option MO} {O2 : Sto} : (O ++ m :: O2)[O.length]? = some m := by
 rw [List.getElem?_append_right (Nat.le_refl _),Nat.sub_self]; rfl
theorem ss0 {m z : Option MO} {O2 : Sto} : (O ++ m :: O2).set O.length z = O ++ z :: O2 := by
 rw [List.set_append_right (h := Nat.le_refl _),Nat.sub_self]; rfl
section
variable {α : Type} {ps : List α} {f g : α -> D} {h : α -> Option D} {tg iter elt : Expr} {ifs : List Expr} {scope : Scope}
theorem fm_some (ps : List α) (g : α -> D) : (ps.map λ q => some (g q)).filterMap id = ps.map g := by
 induction ps with
 | nil => rfl
 | cons a l ih => rw [List.map_cons,List.filterMap_cons,ih]; rfl
theorem fm_map (ps : List α) (h : α -> Option D) : (ps.map h).filterMap id = ps.filterMap h := by
 rw [List.filterMap_map]; rfl
theorem Q5m (h : α -> Option D) (T F : List Str) (js : List Nat) (hi : EvI X ρ O tg iter (ps.map f)) (hsz : ps.length <= sizeLine) (turn : ∀ q,q ∈ ps -> CTurn X T F js ρ O scope tg elt ifs (f q) (h q))
  (hfl : F.length = js.length := by rfl) (hB : freeB X.N X.env.scope.names scope.names F js = true := by rfl) (hc : X.calm = true := by rfl) (hk : scope.kind = .function := by rfl) (hs : ∀ x,foldedSetIterable iter X.env x = pure x := by intro _; rfl) :
  EvP X ρ O (.ListComp elt [⟨tg,iter,ifs,0⟩] scope pos) (.lst (ps.filterMap h)) := by
 rw [<- fm_map]
 refine ev_compZ T F js hi (by rw [List.length_map,List.length_map]) (by rw [List.length_map]; exact hsz) (λ i x z h1 h2 => ?_) hfl hB hc hk hs
 rw [List.getElem?_map] at h1 h2
 cases e : ps[i]? with
 | none => rw [e] at h1; cases h1
 | some q => rw [e] at h1 h2; cases h1; cases h2; exact turn q (List.mem_of_getElem? e)
theorem Q0Z (g : α -> D) (T F : List Str) (js : List Nat) (hi : EvI X ρ O tg iter (ps.map f)) (hsz : ps.length <= sizeLine) (turn : ∀ q,q ∈ ps -> CTurn X T F js ρ O scope tg elt ifs (f q) (some (g q)))
  (hfl : F.length = js.length := by rfl) (hB : freeB X.N X.env.scope.names scope.names F js = true := by rfl) (hc : X.calm = true := by rfl) (hk : scope.kind = .function := by rfl) (hs : ∀ x,foldedSetIterable iter X.env x = pure x := by intro _; rfl) :
  EvP X ρ O (.ListComp elt [⟨tg,iter,ifs,0⟩] scope pos) (.lst (ps.map g)) := by
 rw [<- fm_some,fm_map]
 exact Q5m (λ q => some (g q)) T F js hi hsz turn hfl hB hc hk hs
theorem Q3I {xs : List D} (he : EvP X ρ O e d) (fa : LF d xs) : EvI X ρ O tg e xs := by
 rcases fa with rfl | rfl | rfl
 ·exact ei_lst he
 ·exact ei_scr he
 ·exact ei_tup he
end
end
theorem zipD_map {α β : Type} {f : α -> D} {g : β -> D} : ∀ (a : List α) (b : List β),zipD (a.map f) (b.map g) = (a.zip b).map λ q => .tup [f q.1,g q.2]
 | [],_ => rfl
 | _ :: _,[] => rfl
 | x :: a,y :: b => by
  have ih := zipD_map (f := f) (g := g) a b
  unfold zipD at ih ⊢
  rw [List.map_cons,List.map_cons,List.zipWith_cons_cons,ih]
  rfl
section
variable {X : Cx} {ρ : Rho} {O : Sto} {e a b c : Expr} {es : List Expr} {d da db : D} {ds : List D} {R : D -> Sto -> Prop} {pos p : Pos} {x : Str} {rest : List Stmt} {P : Post}
theorem Q3o {α β : Type} {f : α -> D} {g : β -> D} {as : List α} {bs : List β} (ha : EvP X ρ O a da) (hb : EvP X ρ O b db) (fa : LF da (as.map f)) (fb : LF db (bs.map g)) (hm : X.mg "zip" = none) (hg : Gl X "zip" := by rfl) (hs : starEach [a,b] X.env = [(false,eval a X.env),(false,eval b X.env)] := by rfl) (hs2 : starEach [b] X.env = [(false,eval b X.env)] := by rfl) :
  EvZ X ρ O (.Call (.Name "zip" p) [a,b] [] pos) ((as.zip bs).map λ q => .tup [f q.1,g q.2]) "zip" := by
 rw [<- zipD_map]
 exact ez_zip ha hb fa fb hm hg hs hs2
end
theorem atI_map {α : Type} {f : α -> D} {a : List α} {i : Int} {v : α} (h0 : 0 <= i) (h : a[i.toNat]? = some v) : atI (a.map f) i = some (f v) := by
 obtain ⟨k,rfl⟩ := Int.eq_ofNat_of_zero_le h0
 rw [Int.toNat_natCast] at h
 exact Q4G (by rw [List.getElem?_map,h]; rfl)
def sm {α : Type} (g : α -> Int) : List α -> Int
 | [] => 0
 | a :: l => g a + sm g l
section
variable {α β : Type} {g h : α -> Int} {l m : List α}
theorem sm_app : sm g (l ++ m) = sm g l + sm g m := by
 induction l with
 | nil => exact (Int.zero_add _).symm
 | cons a l ih => show g a + sm g (l ++ m) = (g a + sm g l) + sm g m; rw [ih]; omega
theorem sm_perm (p : l.Perm m) : sm g l = sm g m := by
 induction p with
 | nil => rfl
 | cons a _ ih => unfold sm; rw [ih]
 | swap a b l => unfold sm; unfold sm; omega
 | trans _ _ h1 h2 => rw [h1,h2]
theorem sm_take {i : Nat} {a : α} (e : l[i]? = some a) : sm g (l.take (i + 1)) = sm g (l.take i) + g a := by
 rw [List.take_add_one,e,sm_app]
 show _ + (g a + 0) = _
 omega
theorem Q4d (g : α -> Int) (l : List α) : (l.map g).sum = sm g l := by
 induction l with
 | nil => rfl
 | cons a l ih => rw [List.map_cons,List.sum_cons,ih]; rfl
theorem sum_sm (l : List Int) : l.sum = sm (λ i => i) l := by rw [<- Q4d,List.map_id']
theorem sm_le (q : ∀ a ∈ l,g a <= h a) : sm g l <= sm h l := by
 induction l with
 | nil => exact Int.le_refl _
 | cons a l ih =>
  have h1 := q a List.mem_cons_self
  have h2 := ih λ b hb => q b (List.mem_cons_of_mem _ hb)
  unfold sm
  omega
theorem sm_eq (q : ∀ a ∈ l,g a = h a) : sm g l = sm h l := by
 induction l with
 | nil => rfl
 | cons a l ih =>
  have h1 := q a List.mem_cons_self
  have h2 := ih λ b hb => q b (List.mem_cons_of_mem _ hb)
  unfold sm
  omega
theorem sm_add : sm (λ a => g a + h a) l = sm g l + sm h l := by
 induction l with
 | nil => rfl
 | cons a l ih => unfold sm; rw [ih]; omega
theorem sm_zero : sm (λ _ : α => (0 : Int)) l = 0 := by
 induction l with
 | nil => rfl
 | cons a l ih => unfold sm; rw [ih]; rfl
theorem sm_pos (q : ∀ a ∈ l,0 <= g a) : 0 <= sm g l := by
 have := sm_le (g := λ _ => 0) (h := g) q
 rw [sm_zero] at this
 exact this
theorem sm_bd {B : Int} (q : ∀ a ∈ l,g a <= B) : sm g l <= l.length * B := by
 induction l with
 | nil => show (0 : Int) <= ((0 : Nat) : Int) * B; simp
 | cons a l ih =>
  have h1 := q a List.mem_cons_self
  have h2 := ih λ b hb => q b (List.mem_cons_of_mem _ hb)
  unfold sm
  rw [List.length_cons,Int.natCast_add,Int.add_mul]
  show _ <= _ + (1 : Int) * B
  omega
theorem sm_bd' {B : Int} {n : Nat} (hB : 0 <= B) (hn : l.length <= n) (q : ∀ a ∈ l,g a <= B) : sm g l <= n * B := by
 have h1 := sm_bd q
 have h2 : (l.length : Int) * B <= (n : Int) * B := Int.mul_le_mul_of_nonneg_right (by omega) hB
 omega
theorem sm_zip_snd {a : List β} {b : List Int} (e : a.length = b.length) : sm (λ q : β × Int => q.2) (a.zip b) = b.sum := by
 induction a generalizing b with
 | nil => cases b with | nil => rfl | cons _ _ => cases e
 | cons x a ih =>
  cases b with
  | nil => cases e
  | cons y b =>
   rw [List.zip_cons_cons,List.sum_cons]
   unfold sm
   rw [ih (by simpa using e)]
end
theorem bitsP {b : Int} {n : Nat} (h0 : 0 <= b) (h1 : b < 2 ^ n) : PySem.Builtin.Int.intBits b <= n := by
 unfold PySem.Builtin.Int.intBits
 split
 ·exact Nat.zero_le _
 ·rename_i hz
  have hn : b.natAbs < 2 ^ n := by
   have e : ((2 ^ n : Nat) : Int) = 2 ^ n := by rw [Int.natCast_pow]; rfl
   omega
  have hp : b.natAbs ≠ 0 := by
   intro z; apply hz; rw [Int.natAbs_eq_zero.mp z]; rfl
  have := (Nat.log2_lt hp).mpr hn
  omega
theorem mulP {a b : Int} {m n : Nat} (a0 : 0 <= a) (a1 : a < 2 ^ m) (b0 : 0 <= b) (b1 : b < 2 ^ n) (h : m + n <= 134217728 := by decide) : IntMulOk a b := IntMulOk.of_le (bitsP a0 a1) (bitsP b0 b1) h
section
variable {prog : Program} {w : World} {A : Around} {E : Value -> Shared -> Prop} {s : Shared}
end
section
variable {X : Cx} {ρ : Rho} {O : Sto} {e a b c st : Expr} {es : List Expr} {d da db : D} {ds xs : List D} {R : D -> Sto -> Prop} {pos p p2 : Pos} {x : Str} {rest : List Stmt} {P : Post}
theorem reps {K : PySem.W.Frag} {G : Wd} {vs : List V} (r : Iss K G xs vs) (k : Nat) : Iss K G (List.replicate k xs).flatten (List.replicate k vs).flatten := by
 induction k with
 | zero => exact .nil
 | succ k ih => rw [List.replicate_succ,List.replicate_succ,List.flatten_cons,List.flatten_cons]; exact r.append ih
theorem rep1 {d : D} (n : Nat) : (List.replicate n [d]).flatten = List.replicate n d := by
 induction n with
 | zero => rfl
 | succ n ih => rw [List.replicate_succ,List.flatten_cons,ih]; rfl
end
theorem fm_if {α : Type} (p : α -> Bool) (g : α -> D) (l : List α) : l.filterMap (λ q => if p q = true then some (g q) else none) = (l.filter p).map g := by
 induction l with
 | nil => rfl
 | cons a l ih =>
  rw [List.filterMap_cons,List.filter_cons]
  cases h : p a with
  | true => simp [ih]
  | false => simp [ih]
theorem sm_mul {α : Type} {g : α -> Int} {l : List α} (c : Int) : sm (λ a => c * g a) l = c * sm g l := by
 induction l with
 | nil => show (0 : Int) = c * 0; rw [Int.mul_zero]
 | cons a l ih => show c * g a + _ = c * (g a + _); rw [ih,Int.mul_add]
theorem sm_map {α β : Type} {g : β -> Int} {f : α -> β} {l : List α} : sm g (l.map f) = sm (λ a => g (f a)) l := by
 induction l with
 | nil => rfl
 | cons a l ih => show g (f a) + _ = g (f a) + _; rw [ih]
section
variable {prog : Program} {w : World} {A : Around} {E : Value -> Shared -> Prop} {s : Shared}
theorem noFill_tup_mul : fillsNumberSlot (.type "tuple") "mul" = pure false :=
 PySem.fillsNumberSlot_seq (id := "tuple.__mul__") (r := some (.builtin "tuple.__rmul__")) F.slot_tuple_mul.lookup (by decide +kernel) F.slot_tuple_rmul.lookup (by decide +kernel)
theorem rep_tup : seqRepeat? (.type "tuple") = pure (some (.builtin "tuple.__mul__")) := by
 unfold seqRepeat?
 rw [PySem.seqSlot_of (T := "tuple") (name := "__mul__") F.slot_tuple_mul.lookup (by decide +kernel),PySem.seqSlot_of (T := "tuple") (name := "__rmul__") F.slot_tuple_rmul.lookup (by decide +kernel)]
 rfl
theorem rmul_int_tup {a : Int} {t : Tok} {l : Addr} {its : List Value} {Q : Value -> Shared -> Prop} (ht : IsTup s.heap l its.toArray) (h : Q .notImplemented s) : wpAny (model prog w) A (call (.builtin "int.__rmul__") [.int a t,.ref l]) Q E s := by
 refine wpAny_call_entry F.slot_int_rmul (typeIs_int s a t) F.entry_int_rmul ?_ (F.args_int_rmul_2 _ _)
 obtain ⟨o,ho,hc,n,hd⟩ := ht
 show wpAny (model prog w) _ (asInt? (.ref l) >>= _) _ _ s
 refine wpAny_bind ?_
 unfold asInt?
 refine wpAny_bind (wpAny_load ho ?_)
 rw [hd]
 refine wpAny_pure ?_
 exact wpAny_bind (wpAny_rule (wpAny_pure ⟨_,rfl,h⟩))
theorem mul_tup {k : Int} {t : Tok} {l : Addr} {its : List Value} {Q : Value -> Shared -> Prop} (ht : IsTup s.heap l its.toArray) (h1 : 1 <= k) (h2 : k < 2 ^ 62) (hn : its ≠ []) (hz : its.length * k.toNat <= sizeLine)
  (hq1 : k = 1 -> Q (.ref l) s) (hq2 : k ≠ 1 -> Q (.ref s.heap.objs.size) { s with heap := s.heap.push { cls := .type "tuple",data := .seq (List.replicate k.toNat its).flatten.toArray } }) : wpAny (model prog w) A (call (.builtin "tuple.__mul__") [.ref l,.int k t]) Q E s := by
 refine wpAny_call_entry F.slot_tuple_mul ht.typeIs F.entry_tuple_mul ?_ (F.args_tuple_mul_2 _ _)
 show wpAny (model prog w) _ (asIndex (.int k t) >>= _) _ _ s
 refine wpAny_bind ?_
 show wpAny (model prog w) _ (pure k) _ _ s
 refine wpAny_pure ?_
 rw [if_neg (by rw [Bool.or_eq_true,decide_eq_true_eq,decide_eq_true_eq]; omega)]
 refine wpAny_bind (tupleItemsOf_ ht ?_)
 have he : its.toArray.isEmpty = false := by cases its with | nil => exact absurd rfl hn | cons a l => rfl
 by_cases hk : k = 1
 ·rw [if_pos (by rw [hk,Bool.or_eq_true]; exact Or.inr rfl)]
  unfold Builtin.Tuple.tupleIsExact
  refine wpAny_bind (wpAny_bind (wpAny_typeOf ht.typeIs (wpAny_pure ?_)))
  rw [if_pos (by decide)]
  exact wpAny_bind (wpAny_rule (wpAny_pure ⟨_,rfl,hq1 hk⟩))
 ·have hk2 : (k == 1) = false := by simpa using hk
  rw [if_neg (by rw [he,hk2]; exact Bool.false_ne_true)]
  rw [if_neg (by rw [he,Bool.or_false,decide_eq_true_eq]; omega)]
  have hs : ((its.toArray.size : Nat) : Int) * k <= (sizeLine : Nat) := by
   rw [List.size_toArray]
   have e : k = ((k.toNat : Nat) : Int) := by omega
   rw [e]
   exact_mod_cast hz
  have hl := sizeLine_eq
  rw [hl] at hs
  rw [if_neg (by omega)]
  have ht2 : Builtin.Tuple.tupleTooMany (((its.toArray.size : Nat) : Int) * k) = false := by
   unfold Builtin.Tuple.tupleTooMany
   rw [hl]
   exact decide_eq_false (by omega)
  rw [if_neg (by rw [ht2]; exact Bool.false_ne_true)]
  have e : List.foldl (λ x1 x2 => x1 ++ x2) #[] (List.replicate k.toNat its.toArray) = (List.replicate k.toNat its).flatten.toArray := by
   have := foldl_rep its k.toNat []
   rw [List.nil_append] at this
   exact this
  rw [e]
  exact wpAny_bind (m := Builtin.Tuple.tupleExact _) (wpAny_newObj_type (wpAny_pure ⟨_,rfl,hq2 hk⟩) (by
   show (List.replicate k.toNat its).flatten.toArray.size <= sizeLine
   rw [List.size_toArray,len_rep,Nat.mul_comm]
   exact hz))
end
section
variable {X : Cx} {O : Sto} {xs : List D}
theorem o_repT {i : Int} (h1 : 1 <= i) (h2 : i < 2 ^ 62) (hn : xs ≠ []) (hz : xs.length * i.toNat <= sizeLine) : Op2 X O (binaryOp .Mult) (.tup xs) (.int i) (.tup (List.replicate i.toNat xs).flatten) := λ G pins s σ H x y v u Q I rx ry ⟨sa,j1,j2,k⟩ => by
 cases j2
 have j := j1
 obtain ⟨q,vs,rfl,g,r⟩ := tup_sq sa j1
 cases rx
 obtain ⟨t,rfl⟩ := ry
 obtain ⟨its,rr,ht,hzz⟩ := I.tuple g
 have hlen := rr.length
 have hn2 : its ≠ [] := by
  rintro rfl
  have := r.length
  rw [hlen] at this
  exact hn (List.eq_nil_of_length_eq_zero this)
 refine wpAny_binaryOp_repeat_ref (T := "tuple") (U := "int") (by decide) ht.typeIs (λ s' => typeIs_int s' i t) noFill_tup_mul F.fills_int_mul F.slot_int_rmul rep_tup F.slot_int_index.lookup
  (rmul_int_tup ht ⟨rfl,ht.typeIs,mul_tup ht h1 h2 hn2 (by rw [<- hlen,<- r.length]; exact hz) (λ e => ?_) (λ e => ?_)⟩)
 ·subst e
  refine ⟨.ref q,H,I,rfl,k _ G H (Ext.refl _) sa ?_⟩
  have : (List.replicate (1 : Int).toNat xs).flatten = xs := by show (xs ++ []) = xs; rw [List.append_nil]
  rw [this]
  exact j
 ·obtain ⟨e4,s4⟩ := sa.laid (o := .tup (List.replicate i.toNat vs).flatten) (p := s.heap.objs.size) (I.hok.fresh (Nat.le_refl _))
  refine ⟨.ref _,_,I.laid (t' := s.toks) (o := .tup (List.replicate i.toNat vs).flatten) (λ b ob q => Heap.get?_push_of_some _ q) (Nat.le_refl _) ?_,rfl,k _ _ _ e4 s4 (.tup (SqT.of Q0z) ((reps r _).ext e4))⟩
  exact ⟨by rw [len_rep,Nat.mul_comm,<- r.length]; exact hz,_,rr.rep i.toNat,TupN.new _ _⟩
end
def putD (f : Str) (d : D) : List (Str × D) -> List (Str × D)
 | [] => [(f,d)]
 | (g,x) :: r => if g = f then (g,d) :: r else (g,x) :: putD f d r
section
variable {K : PySem.W.Frag} {G : Wd}
theorem FsIs.look {f : Str} {d : D} : ∀ {fs : List (Str × D)} {vs : List (Str × V)},FsIs K G fs vs -> fs.lookup f = some d -> ∃ v,vs.lookup f = some v /\ Is K G d v
 | _,_,.nil,e => by cases e
 | _,_,.cons (f := g) h r,e => by
  rw [List.lookup_cons] at e
  cases hc : f == g with
  | true =>
   rw [hc] at e
   cases e
   exact ⟨_,by rw [List.lookup_cons,hc],h⟩
  | false =>
   rw [hc] at e
   obtain ⟨v,e1,e2⟩ := FsIs.look r e
   exact ⟨v,by rw [List.lookup_cons,hc]; exact e1,e2⟩
theorem FsIs.none {f : Str} : ∀ {fs : List (Str × D)} {vs : List (Str × V)},FsIs K G fs vs -> fs.lookup f = Option.none -> vs.lookup f = Option.none
 | _,_,.nil,e => rfl
 | _,_,.cons (f := g) h r,e => by
  rw [List.lookup_cons] at e
  cases hc : f == g with
  | true => rw [hc] at e; cases e
  | false =>
   rw [hc] at e
   rw [List.lookup_cons,hc]
   exact FsIs.none r e
theorem FsIs.put {f : Str} {d : D} {v : V} (i : Is K G d v) : ∀ {fs : List (Str × D)} {vs : List (Str × V)},FsIs K G fs vs -> FsIs K G (putD f d fs) (putF f v vs)
 | _,_,.nil => .cons i .nil
 | _,_,.cons (f := g) h r => by
  unfold putD putF
  by_cases e : g = f
  ·rw [if_pos e,if_pos e]; exact .cons i r
  ·rw [if_neg e,if_neg e]; exact .cons h (FsIs.put i r)
theorem FsIs.len : ∀ {fs : List (Str × D)} {vs : List (Str × V)},FsIs K G fs vs -> fs.length = vs.length
 | _,_,.nil => rfl
 | _,_,.cons _ r => by rw [List.length_cons,List.length_cons,r.len]
end
theorem SA.ins {K : PySem.W.Frag} {G : Wd} {H : Hp} {O : Sto} {q : Nat} {C : Addr} {fs : List (Str × D)} {v : V} (s : SA K G H O) (i : Is K G (.ptr q) v) (h : O[q]? = some (some (.ins C fs))) : ∃ a dx vs,v = .ref a /\ G.l[q]? = some a /\ H a = some (.ins C dx vs) /\ FsIs K G fs vs := by
 cases i with
 | ptr _ ha =>
  obtain ⟨a,h1,h2,dx,vs,h3,h4⟩ := s.mt q _ h
  cases Option.some.inj (ha.symm.trans h1)
  exact ⟨_,dx,vs,rfl,h1,h3,h4⟩
section
variable {X : Cx} {ρ : Rho} {O : Sto} {e a b c o value : Expr} {es : List Expr} {d da db : D} {ds : List D} {R : D -> Sto -> Prop} {pos p apos pos' : Pos} {x f m : Str} {rest : List Stmt} {P : Post} {q : Nat} {C : Addr} {fs : List (Str × D)}
theorem Q0o (he : EvP X ρ O e (.ptr q)) (hq : O[q]? = some (some (.ins C fs))) (c : Cls X.K C) (n : Q0u X.K C f) (hl : fs.lookup f = some d) (hb : attributeBase e f X.env (eval e X.env) = eval e X.env := by rfl) : EvP X ρ O (.Attribute e f pos) d := λ G =>
 PE.imp (pe_fld (he G) hb) λ σ H Q ⟨h1,h2,h3⟩ => ⟨h1,h2,λ v G1 H1 e1 s1 i1 => by
  obtain ⟨a,dx,vs,rfl,g1,g2,g3⟩ := s1.ins i1 hq
  obtain ⟨v,l,iv⟩ := g3.look hl
  exact ⟨a,C,dx,vs,v,rfl,g2,c,n,l,h3 v G1 H1 e1 s1 iv⟩⟩
theorem Q2x (hv : EvP X ρ O value d) (ho : EvP X ρ O o (.ptr q)) (hq : O[q]? = some (some (.ins C fs))) (c : Cls X.K C) (n : Q0u X.K C f) (hz : fs.length < 1000) (h : P.nx ρ (O.set q (some (.ins C (putD f d fs))))) (hs : swapsWith value (some (.Attribute o f pos')) pos.line X.env = pure false := by rfl) :
  Ex X ρ O (.Assign [.Attribute o f pos'] value pos) P := λ G pins s σ H E I ⟨h1,h2,h3⟩ => by
 refine plainObj_wpAny_Assign_Attribute (thn (hv G pins s σ H (λ v H1 => ∃ G1,Ext G G1 /\ SA X.K G1 H1 O /\ Is X.K G1 d v) I ⟨h1,h2,λ v G' H' e s i => ⟨G',e,s,i⟩⟩) λ u s1 ⟨y,H1,I1,ry,G1,e1,sa1,i1⟩ =>
  thn (ho G1 pins s1 σ H1 (λ v H2 => ∃ G2,Ext G1 G2 /\ SA X.K G2 H2 O /\ Is X.K G2 (.ptr q) v) I1 ⟨sa1,h2.ext e1,λ v G' H' e s i => ⟨G',e,s,i⟩⟩) λ ov s2 ⟨x,H2,I2,rx,G2,e2,sa2,i2⟩ => ?_) hs
 obtain ⟨a,dx,vs,rfl,g1,g2,g3⟩ := sa2.ins i2 hq
 obtain rfl : ov = Value.ref a := rx
 refine setattr_ok I2 g2 c n (by rw [<- g3.len]; exact hz) ry λ s3 I3 => ⟨σ,_,I3,?_⟩
 exact h3.nx σ ρ _ G2 _ (e1.trans e2) (sa2.put (m' := .ins C (putD f d fs)) hq g1 ⟨dx,_,Q0z,g3.put (i1.ext e2)⟩) (h2.ext (e1.trans e2)) h
structure Q0h (P : Program) (w : World) (K : PySem.W.Frag) (mg : Str -> Option Value) (base : Heap) (C : Addr) (k : Nat) (m : Str) (sp : SpD) : Prop where
 ex : ∃ f fd ps,FnOk P w K mg base CX0 k f fd ps (toSp K sp) /\ Meth K C m f /\ Q0C K fd ps []
 cls : Cls K C
theorem Q1F {k : Nat} {sp : SpD} {pl : Sem Bool} (M : Q0h X.prog X.w X.K X.mg X.base C k m sp) (hr : Room k X.A) (ho : EvP X ρ O o (.ptr q)) (hq : O[q]? = some (some (.ins C fs))) (hno : fs.lookup m = none) (ha : EvPs X ρ O (e :: es) ds) (hs : sp (.ptr q :: ds) O R)
  (hst : starEach (e :: es) X.env = (false,eval e X.env) :: starEach es X.env := by rfl) (hpl : (backTo pos (starEach es X.env)).any (·.1) = false := by rfl)
  (ht : eval (.Call (.Attribute o m apos) (e :: es) [] pos) X.env = (do
   let ov <- eval o X.env
   standAt apos.atName
   let (f,first) <- holding [ov] (getMethod ov m pl)
   callWith pos f first (backTo pos (starEach (e :: es) X.env)) (backToKw pos (keywordEach [] X.env))) := by rfl) : Ev X ρ O (.Call (.Attribute o m apos) (e :: es) [] pos) R := λ G pins s σ H Q I ⟨h1,h2,h3⟩ => by
 obtain ⟨f,fd,ps,g1,g2,g3⟩ := M.ex
 refine pe_meth (t := λ σ H Q => ∃ G1,SA X.K G1 H O /\ EnvR X.K G1 σ ρ /\ ∀ vs G' H',Ext G1 G' -> SA X.K G' H' O -> Iss X.K G' ds vs -> Q vs H') (ho G) M.cls g2 g1 hr g3 .nil pass0 (λ pos pins s σ H Q I ⟨G1,z⟩ => ha G1 pos pins s σ H Q I z) hst hpl ht pins s σ H Q I ⟨h1,h2,λ v G1 H1 e1 s1 i1 => ?_⟩
 obtain ⟨a,dx,vs,rfl,k1,k2,k3⟩ := s1.ins i1 hq
 refine ⟨a,dx,vs,rfl,k2,k3.none hno,G1,s1,h2.ext e1,λ us G2 H2 e2 s2 i2 => ?_⟩
 show toSp X.K sp (V.ref a :: (us ++ [])) H2 Q E0
 rw [List.append_nil]
 exact ⟨G2,O,.ptr q :: ds,R,s2,.cons (i1.ext e2) i2,hs,λ v d O' G' H' e3 s3 i3 r3 => h3 v d O' G' H' ((e1.trans e2).trans e3) s3 i3 r3⟩
theorem Q1Q {k : Nat} {sp : SpD} {pl : Sem Bool} (M : Q0h X.prog X.w X.K X.mg X.base C k m sp) (hr : Room k X.A) (ho : EvP X ρ O o (.ptr q)) (hq : O[q]? = some (some (.ins C fs))) (hno : fs.lookup m = none) (hs : sp [.ptr q] O R)
  (ht : eval (.Call (.Attribute o m apos) [] [] pos) X.env = (do
   let ov <- eval o X.env
   standAt apos.atName
   let (f,first) <- holding [ov] (getMethod ov m pl)
   callWith pos f first (backTo pos (starEach [] X.env)) (backToKw pos (keywordEach [] X.env))) := by rfl) : Ev X ρ O (.Call (.Attribute o m apos) [] [] pos) R := λ G pins s σ H Q I ⟨h1,h2,h3⟩ => by
 obtain ⟨f,fd,ps,g1,g2,g3⟩ := M.ex
 refine pe_meth0 (ho G) M.cls g2 g1 hr g3 .nil pass0 ht pins s σ H Q I ⟨h1,h2,λ v G1 H1 e1 s1 i1 => ?_⟩
 obtain ⟨a,dx,vs,rfl,k1,k2,k3⟩ := s1.ins i1 hq
 refine ⟨a,dx,vs,rfl,k2,k3.none hno,?_⟩
 show toSp X.K sp (V.ref a :: []) H1 Q E0
 exact ⟨G1,O,[.ptr q],R,s1,.cons i1 .nil,hs,λ v d O' G' H' e3 s3 i3 r3 => h3 v d O' G' H' (e1.trans e3) s3 i3 r3⟩
structure Q1C (P : Program) (w : World) (K : PySem.W.Frag) (mg : Str -> Option Value) (base : Heap) (C : Addr) (k : Nat) (x : Str) (sp : SpD) : Prop where
 ex : ∃ f fd ps,FnOk P w K mg base CX0 k f fd ps (toSp K sp) /\ Mk K C f /\ Q0C K fd ps []
 at_ : mg x = some (.ref C)
theorem made {K : PySem.W.Frag} {G : Wd} {H : Hp} {y dx : Addr} (s : SA K G H O) (h1 : H y = none) (h2 : H dx = none) (h3 : dx ≠ y) : Ext G ⟨G.g,G.l ++ [y]⟩ /\ SA K ⟨G.g,G.l ++ [y]⟩ (upd (upd H dx (.own y)) y (.ins C dx [])) (O ++ [some (.ins C [])]) :=
 (s.grow (Q4h h2)).new (by rw [Q0x]; exact h1; exact λ e => h3 e.symm) ⟨dx,[],Q0z,.nil⟩
theorem Q2d {k : Nat} {sp : SpD} (M : Q1C X.prog X.w X.K X.mg X.base C k x sp) (hr : Room (k + 1) X.A) (ha : EvPs X ρ O (e :: es) ds) (hs : sp (.ptr O.length :: ds) (O ++ [some (.ins C [])]) λ d O' => d = .non /\ R (.ptr O.length) O')
  (hg : Gl X x := by rfl) (hdb : (x == ("__debug__" : Str)) = false := by decide) (he : starEach (e :: es) X.env = (false,eval e X.env) :: starEach es X.env := by rfl) (hpl : (backTo pos (starEach es X.env)).any (·.1) = false := by rfl) :
  Ev X ρ O (.Call (.Name x p) (e :: es) [] pos) R := λ G pins s σ H Q I ⟨h1,h2,h3⟩ => by
 obtain ⟨f,fd,ps,g1,g2,g3⟩ := M.ex
 refine pe_make g2 g1 hr hg M.at_ g3 .nil pass0 (ha G) hdb he hpl pins s σ H Q I ⟨h1,h2,λ vs G1 H1 e1 s1 i1 => λ y dx k1 k2 k3 => ?_⟩
 obtain ⟨e2,s2⟩ := made (C := C) s1 k1 k2 k3
 have iy : Is X.K ⟨G1.g,G1.l ++ [y]⟩ (.ptr O.length) (.ref y) := .ptr _ (by rw [<- s1.len,List.getElem?_append_right (Nat.le_refl _),Nat.sub_self]; rfl)
 show toSp X.K sp (V.ref y :: (vs ++ [])) _ _ E0
 rw [List.append_nil]
 refine ⟨_,_,.ptr O.length :: ds,_,s2,.cons iy (i1.ext e2),hs,λ v d O' G' H' e3 s3 i3 r3 => ?_⟩
 obtain ⟨rfl,r⟩ := r3
 cases i3
 exact ⟨rfl,h3 _ _ O' G' H' ((e1.trans e2).trans e3) s3 (iy.ext e3) r⟩
end
section
variable {X : Cx} {ρ : Rho} {O : Sto} {e a b c o ix value : Expr} {es : List Expr} {d da db : D} {ds xs : List D} {R : D -> Sto -> Prop} {pos p apos tpos : Pos} {x f m : Str} {rest : List Stmt} {P : Post} {q j : Nat} {i : Int}
end
end DL
namespace DL
open PySem PySem.Spec PyProof.Rows L2 PySem.W
structure EW (n : Nat) (k : Bool) (l i : Nat) (j : Int) (xs : Array Value) (f0 f1 old : Value) (h : Heap) : Prop where
 z : h.get? (n + 1) = some { cls := .type "enumerate",dict := none,data := .fields #[f0,f1,.ref n,.int j 0,.none,old],slots := #[] }
 w : SIt k h n l i
 s : SSq k h l xs
 b : l < n
def Oth2 (n : Nat) (h h' : Heap) : Prop := ∀ c o,c ≠ n -> c ≠ n + 1 -> h.get? c = some o -> h'.get? c = some o
theorem Oth2.refl (n : Nat) (h : Heap) : Oth2 n h h := λ _ _ _ _ e => e
theorem Oth2.on {n : Nat} {h h1 h2 : Heap} (p : Oth2 n h h1) (q : Oth2 n h1 h2) : Oth2 n h h2 := λ c o c1 c2 e => q c o c1 c2 (p c o c1 c2 e)
theorem Oth2.more {n : Nat} {h h' : Heap} {o : Obj} (p : Oth2 n h h') : Oth2 n h (h'.push o) := p.on λ c u _ _ q => Heap.get?_push_of_some _ q
section
variable {prog : Program} {w : World} {A : Around} {E : Value -> Shared -> Prop} {s : Shared} {n l i : Nat} {j : Int} {k : Bool} {xs : Array Value} {f0 f1 old v : Value}
theorem EW.set {m : Nat} {vs : Array Value} {Q : Unit -> Shared -> Prop} (W : EW n k l i j xs f0 f1 old s.heap) (hm : m < 6)
  (hQ : ∀ h',h'.get? (n + 1) = some { cls := .type "enumerate",dict := none,data := .fields ((#[f0,f1,.ref n,.int j 0,.none,old] : Array Value).setIfInBounds m v),slots := #[] } -> SIt k h' n l i -> SSq k h' l xs -> Oth2 n s.heap h' -> h'.objs.size = s.heap.objs.size -> Q () { s with heap := h' }) : wpAny (model prog w) A (setField (.ref (n + 1)) m v) Q E s :=
 wpAny_setField_rec W.z hm λ h' g e => hQ h' g (W.w.at λ o => e.extBut _ _ (ap (by omega))) (W.s.at λ o => e.extBut _ _ (ap (by have := W.b; omega))) (λ c o _ c2 q => e.extBut _ _ c2 q) e.1
theorem EW.set0 {Q : Unit -> Shared -> Prop} (W : EW n k l i j xs f0 f1 old s.heap) (hQ : ∀ h',EW n k l i j xs v f1 old h' -> Oth2 n s.heap h' -> h'.objs.size = s.heap.objs.size -> Q () { s with heap := h' }) : wpAny (model prog w) A (setField (.ref (n + 1)) 0 v) Q E s := W.set (vs := #[]) (by decide) λ h' a b c d e => hQ h' ⟨a,b,c,W.b⟩ d e
theorem EW.set1 {Q : Unit -> Shared -> Prop} (W : EW n k l i j xs f0 f1 old s.heap) (hQ : ∀ h',EW n k l i j xs f0 v old h' -> Oth2 n s.heap h' -> h'.objs.size = s.heap.objs.size -> Q () { s with heap := h' }) : wpAny (model prog w) A (setField (.ref (n + 1)) 1 v) Q E s := W.set (vs := #[]) (by decide) λ h' a b c d e => hQ h' ⟨a,b,c,W.b⟩ d e
theorem EW.set3 {j' : Int} {Q : Unit -> Shared -> Prop} (W : EW n k l i j xs f0 f1 old s.heap) (hQ : ∀ h',EW n k l i j' xs f0 f1 old h' -> Oth2 n s.heap h' -> h'.objs.size = s.heap.objs.size -> Q () { s with heap := h' }) : wpAny (model prog w) A (setField (.ref (n + 1)) 3 (rawInt j')) Q E s := W.set (vs := #[]) (by decide) λ h' a b c d e => hQ h' ⟨a,b,c,W.b⟩ d e
theorem EW.set4 {Q : Unit -> Shared -> Prop} (W : EW n k l i j xs f0 f1 old s.heap) (hQ : ∀ h',EW n k l i j xs f0 f1 old h' -> Oth2 n s.heap h' -> h'.objs.size = s.heap.objs.size -> Q () { s with heap := h' }) : wpAny (model prog w) A (setField (.ref (n + 1)) 4 .none) Q E s := W.set (vs := #[]) (by decide) λ h' a b c d e => hQ h' ⟨a,b,c,W.b⟩ d e
theorem EW.set5 {Q : Unit -> Shared -> Prop} (W : EW n k l i j xs f0 f1 old s.heap) (hQ : ∀ h',EW n k l i j xs f0 f1 v h' -> Oth2 n s.heap h' -> h'.objs.size = s.heap.objs.size -> Q () { s with heap := h' }) : wpAny (model prog w) A (setField (.ref (n + 1)) 5 v) Q E s := W.set (vs := #[]) (by decide) λ h' a b c d e => hQ h' ⟨a,b,c,W.b⟩ d e
theorem EW.inner {Q : Value -> Shared -> Prop} (W : EW n k l i j xs f0 f1 old s.heap) (h : Q (.ref n) s) : wpAny (model prog w) A (field (.ref (n + 1)) 2) Q E s := wpAny_field W.z rfl (x := .ref n) rfl h
theorem EW.draw {x : Value} {Q : Value -> Shared -> Prop} (W : EW n k l i j xs f0 f1 old s.heap) (hx : xs[i]? = some x) (hQ : ∀ h',EW n k l (i + 1) j xs f0 f1 old h' -> Oth2 n s.heap h' -> h'.objs.size = s.heap.objs.size -> Q x { s with heap := h' }) : wpAny (model prog w) A (Builtin.SmallTypes.nextOf (.ref n)) Q E s :=
 sq_item W.w W.s hx λ h' g e => hQ h' ⟨e.extBut _ _ (ap (by omega)) W.z,g,W.s.at λ o => e.extBut _ _ (ap (by have := W.b; omega)),W.b⟩ (λ c o c1 _ q => e.extBut _ _ c1 q) e.1
theorem EW.free {Q : Bool -> Shared -> Prop} (W : EW n k l i j xs f0 f1 old s.heap) (hf : ZF f0) (y : Q true s) (z : ∀ h' f,EW n k l i j xs f0 f old h' -> Oth2 n s.heap h' -> h'.objs.size = s.heap.objs.size -> Q false { s with heap := h' }) : wpAny (model prog w) A (Builtin.SmallTypes.ownedTupleIsFree (.ref (n + 1))) Q E s := by
 obtain ⟨h,g,d,tk,os⟩ := s
 have hz := W.z
 dsimp only at hz
 rcases hf with rfl | ⟨c,rfl⟩
 ·wp_walk
  exact y
 ·wp_walk using alive_as
  cases h.get? (Int.toNat (c : Int)) with
  | none => wp_walk; exact y
  | some o =>
   by_cases m : f1 = .bool true
   ·subst m
    wp_walk
    exact z _ _ W (Oth2.refl _ _) rfl
   ·wp_walk using W.set1
    exact λ h' V o1 o2 => wpAny_pure (z h' _ V o1 o2)
theorem EW.more {h : Heap} {o : Obj} (W : EW n k l i j xs f0 f1 old h) : EW n k l i j xs f0 f1 old (h.push o) :=
 have e : ∀ c u,h.get? c = some u -> (h.push o).get? c = some u := λ c u q => Heap.get?_push_of_some _ q
 ⟨e _ _ W.z,W.w.at (e _),W.s.at (e _),W.b⟩
theorem enum_item {x : Value} {Q : Value -> Shared -> Prop} (W : EW n k l i j xs f0 f1 old s.heap) (hf : ZF f0) (hx : xs[i]? = some x)
  (hQ : ∀ h' t f0' f1' old' tk',EW n k l (i + 1) (j + 1) xs f0' f1' old' h' -> ZF f0' -> IsPair h' s.heap.objs.size (.int j t) x -> Oth2 n s.heap h' -> Q (.ref s.heap.objs.size) { s with heap := h',toks := tk' }) :
  wpAny (model prog w) A (Builtin.«enumerate.__next__» ⟨[.ref (n + 1)],[]⟩) (λ fin s' => ∃ v,fin = .done (.ret v) /\ Q v s') E s := by
 obtain ⟨h,g,d,tk,os⟩ := s
 dsimp only at W hQ
 have z := W.z
 have lt : n + 1 < h.objs.size := Heap.lt_size z
 wp_walk using W.inner,W.draw hx
 intro h1 W1 o1 z1
 have t1 := W1.z
 wp_walk using EW.set3 (s := ⟨h1,g,d,tk + 1,os⟩) W1
 intro h2 W2 o2 z2
 wp_walk using EW.set4 (s := ⟨h2,g,d,tk + 1,os⟩) W2
 intro h3 W3 o3 z3
 have zl : h3.objs.size = h.objs.size := z3.trans (z2.trans z1)
 have ol : Oth2 n h h3 := o1.on (o2.on o3)
 have W4 : EW n k l (i + 1) (j + 1) xs f0 f1 old (h3.push { cls := .type "tuple",data := .seq #[.int j tk,x] }) := W3.more
 have t4 := W4.z
 have pr : IsPair (h3.push { cls := .type "tuple",data := .seq #[.int j tk,x] }) h3.objs.size (.int j tk) x := Heap.get?_push_size _ rfl
 have far : ∀ m,m <= 1 -> h3.objs.size ≠ n + m := λ m hm => by omega
 have far0 : h3.objs.size ≠ n := far 0 (by decide)
 have far1 : h3.objs.size ≠ n + 1 := far 1 (by decide)
 rw [<- zl] at hQ
 wp_walk using EW.free (s := ⟨h3.push _,g,d,tk + 1,os⟩) W4 hf,EW.set5 (s := ⟨h3.push _,g,d,tk + 1,os⟩) W4
 ·intro h5 W5 o5 z5
  wp_walk using EW.set0 (s := ⟨h5,g,d,tk + 1,os⟩) W5
  intro h6 W6 o6 z6
  wp_walk using EW.set1 (s := ⟨h6,g,d,tk + 1,os⟩) W6
  intro h7 W7 o7 z7
  wp_walk
  exact ⟨_,rfl,hQ h7 tk _ _ _ _ W7 (.inr ⟨_,rfl⟩) (o7 _ _ far0 far1 (o6 _ _ far0 far1 (o5 _ _ far0 far1 pr))) (ol.more.on (o5.on (o6.on o7)))⟩
 ·intro h5 f W5 o5 z5
  wp_walk
  exact ⟨_,rfl,hQ h5 tk _ _ _ _ W5 hf (o5 _ _ far0 far1 pr) (ol.more.on o5)⟩
theorem enum_end {Q : PySem.Fin -> Shared -> Prop} (hh : A.handled = none) (W : EW n k l i j xs f0 f1 old s.heap) (he : xs[i]? = none) (hE : ∀ h' e,Oth2 n s.heap h' -> (∃ o,h'.get? e = some o /\ o.cls = .type "StopIteration") -> E (.ref e) { s with heap := h' }) :
  wpAny (model prog w) A (Builtin.«enumerate.__next__» ⟨[.ref (n + 1)],[]⟩) Q E s := by
 obtain ⟨h,g,d,tk,os⟩ := s
 dsimp only at W hE
 wp_walk using W.inner,sq_end hh W.w W.s he
 exact λ h' e x y => hE h' e (λ c o c1 _ q => x c o c1 q) y
def etn (k : Bool) (n l i : Nat) (h : Heap) : Prop := ∃ f0 f1 old,ZF f0 /\ h.get? (n + 1) = some { cls := .type "enumerate",dict := none,data := .fields #[f0,f1,.ref n,.int i 0,.none,old],slots := #[] } /\ SIt k h n l i
theorem EW.tn {h : Heap} (W : EW n k l i i xs f0 f1 old h) (hf : ZF f0) : etn k n l i h := ⟨f0,f1,old,hf,W.z,W.w⟩
theorem go_enum {tg : Expr} {u : Value} {Q : Unit -> Shared -> Prop} (W : EW n k l i j xs f0 f1 old s.heap) (hf : ZF f0) (hQ : ∀ h' f,EW n k l i j xs f f1 old h' -> ZF f -> Oth2 n s.heap h' -> Q () { s with heap := h' }) : wpAny (model prog w) A (letOwnedTupleGo tg (.ref (n + 1)) u) Q E s := by
 have same : Q () s := hQ s.heap _ W hf (Oth2.refl _ _)
 obtain ⟨h,g,d,tk,os⟩ := s
 have z := W.z
 dsimp only at z
 unfold letOwnedTupleGo
 cases tg <;> try exact wpAny_pure same
 all_goals cases u <;> try exact wpAny_pure same
 all_goals
  wp_walk
  split
  ·exact wpAny_bind (wpAny_rule (W.set0 (s := ⟨h,g,d,tk,os⟩) (v := .none) λ h' V o z => hQ h' _ V (.inl rfl) o))
  ·exact wpAny_pure same
theorem through_any {M : Model} {c : Value} {Q : Bool -> Shared -> Prop} (h : ∀ b,Q b s) : wpAny M A (Builtin.SmallTypes.calledThroughType c) Q E s := wpAny_bind (wpAny_stack_any λ _ => wpAny_pure (h _))
end
theorem enum_made (k : Bool) (l : Addr) (xs : Array Value) :
  Meets (Builtin.«enumerate.__new__» ⟨[.type "enumerate",.ref l],[]⟩) (λ _ R s => SSq k s.heap l xs /\
   ∀ h',EW s.heap.objs.size k l 0 0 xs .none (.bool false) .none h' -> (∀ c o,s.heap.get? c = some o -> h'.get? c = some o) -> R (.ok (.ret (.ref (s.heap.objs.size + 1)))) { s with heap := h' }) :=
 .of_wp λ prog w A R s q => by
  obtain ⟨h,g,d,tk,os⟩ := s
  obtain ⟨t,q⟩ := q
  have hsub := sub_enumerate
  have lt : l < h.objs.size := by
   cases k with
   | true => obtain ⟨o,g,_⟩ := (t : h.IsList l xs); exact Heap.lt_size g
   | false => obtain ⟨o,g,_⟩ := (t : h.IsTuple l xs); exact Heap.lt_size g
  wp_walk using through_any
  intro b
  have fin : ∀ a,a.isFreed = false -> (∀ (h : Heap) c,h.get? c = some a -> SIt k h c l 0) -> R (.ok (.ret (.ref (h.push a).objs.size))) ⟨(h.push a).push { cls := .type "enumerate",data := .fields #[.none,.bool false,.ref h.objs.size,.int 0 0,.none,.none] },g,d,tk,os⟩ := λ a fa ia => by
   have up : ∀ c u,h.get? c = some u -> ((h.push a).push { cls := .type "enumerate",data := .fields #[.none,.bool false,.ref h.objs.size,.int 0 0,.none,.none] }).get? c = some u := λ c u e => Heap.get?_push_of_some _ (Heap.get?_push_of_some _ e)
   rw [Heap.size_push]
   refine q _ ⟨?_,ia _ _ (Heap.get?_push_of_some _ (Heap.get?_push_size _ fa)),t.at (up _),lt⟩ up
   rw [<- Heap.size_push h a]
   exact Heap.get?_push_size _ rfl
  cases b
  all_goals
   wp_walk using iter_sq t
   intro a fa ia
   wp_walk
   exact ⟨_,rfl,fin a fa ia⟩
theorem call_enum {prog : Program} {w : World} {A : Around} {E : Value -> Shared -> Prop} {s : Shared} {k : Bool} {l : Addr} {xs : Array Value} {Q : Value -> Shared -> Prop} (t : SSq k s.heap l xs)
  (hQ : ∀ h',etn k s.heap.objs.size l 0 h' -> (∀ c o,s.heap.get? c = some o -> h'.get? c = some o) -> Q (.ref (s.heap.objs.size + 1)) { s with heap := h' }) : wpAny (model prog w) A (call (.type "enumerate") [.ref l]) Q E s :=
 callType_new F.called_enumerate (by decide) (F.typeCall_enumerate_1 _) (F.newCall_enumerate_1 _) (λ obj => F.args_object_init_2 obj _) F.entry_enumerate_new (enum_made k l xs) ⟨t,λ h' W up => ⟨⟨_,W.z,rfl⟩,hQ h' (W.tn (.inl rfl)) up⟩⟩
def Ite (k : Bool) (K : PySem.W.Frag) (l : Addr) : It :=
  ⟨λ i H => ∃ as a,Sq k K H l as /\ as[i]? = some a,
   λ i H x H' => ∃ T a,H T = none /\ H' = upd H T (.tup [.int (i : Nat),a]) /\ x = .ref T /\ ∀ as,Sq k K H l as -> as[i]? = some a,
   λ i H => ∃ as,Sq k K H l as /\ as.length <= i⟩
def efp (n : Nat) : List Addr := [n,n + 1]
theorem etn_keep {k : Bool} {n l i : Nat} {h h' : Heap} (st : etn k n l i h) (q : ∀ b ∈ efp n,∀ o,h.get? b = some o -> h'.get? b = some o) : etn k n l i h' := by
 obtain ⟨f0,f1,old,hf,z,w⟩ := st
 exact ⟨f0,f1,old,hf,q _ (by simp [efp]) _ z,w.at (q _ (by simp [efp]))⟩
theorem etn_obj {k : Bool} {n l i : Nat} {h : Heap} (st : etn k n l i h) : ∀ b ∈ efp n,∃ o,h.get? b = some o /\ ∀ v,o.data ≠ .cell v := by
 obtain ⟨f0,f1,old,hf,z,w⟩ := st
 intro b hb
 rcases List.mem_cons.mp hb with rfl | hb
 ·exact w.obj
 ·cases List.mem_singleton.mp hb
  exact ⟨_,z,λ v e => by cases e⟩
theorem Oth2.fp {n : Nat} {h h' : Heap} (p : Oth2 n h h') : ∀ c o,c ∉ efp n -> h.get? c = some o -> h'.get? c = some o := λ c o hc => p c o (λ e => hc (by simp [efp,e])) (λ e => hc (by simp [efp,e]))
theorem turn_enum {P : Program} {w : World} {K : PySem.W.Frag} {tg : Expr} (k : Bool) (n l : Nat) (hl : l < n) : Turn P w K tg (Ite k K l) (efp n) (n + 1) (etn k n l) where
 mem := by simp [efp]
 obj := λ i h st => etn_obj st
 keep := λ i h h' st q => etn_keep st q
 item := by
  intro X hP hw hK hc i pins s σ H E I hf st hg
  subst hP hw hK
  obtain ⟨as,a,q1,ga⟩ := hg
  obtain ⟨ia,va,sa,_⟩ := Q3r I q1
  obtain ⟨ua,hua,rua⟩ := va.get ga
  have hTn : s.heap.objs.size ∉ efp n := λ m => let ⟨o,e,_⟩ := etn_obj st _ m; Nat.lt_irrefl _ (Heap.lt_size e)
  obtain ⟨f0,f1,old,zf,z,w1⟩ := st
  refine next_by ⟨_,z,rfl⟩ F.slot_enumerate_next F.entry_enumerate_next (F.args_enumerate_next_1 _) (enum_item (x := ua) ⟨z,w1,sa,hl⟩ zf (by simpa using hua) λ h1 t f0' f1' old' tk' W1 zf1 pr o1 => ⟨_,rfl,go_enum (s := { s with heap := h1,toks := tk' }) W1 zf1 λ h2 f W2 zf2 o2 => ?_⟩)
  have Iz : L2.Inv X pins σ H { s with heap := h2,toks := tk' } := Q5n I hf (o1.on o2).fp
  have fr : H s.heap.objs.size = none := I.hok.fresh (Nat.le_refl _)
  refine ⟨.ref s.heap.objs.size,upd H s.heap.objs.size (.tup [.int (i : Nat),a]),?_,rfl,⟨_,a,fr,rfl,rfl,λ cs q => ?_⟩,?_,λ c hb => ?_⟩
  ·refine Inv_track Iz (I.fpOk (Nat.le_refl _) fr) I.sz ⟨show 2 <= sizeLine by decide,[.int i t,ua],.cons ⟨t,rfl⟩ (.cons rua .nil),?_⟩
   exact ⟨_,o2.fp _ _ hTn pr,rfl,rfl,_,rfl⟩
  ·rw [Q4I I q q1]; exact ga
  ·exact EW.tn (i := i + 1) W2 zf2
  ·rw [Q0x (λ e => hTn (by rw [<- e]; exact hb))]; exact (hf c hb).1
 done := by
  intro X hP hw hK hc i pins s σ H E I hf st hg
  subst hP hw hK
  obtain ⟨as,q1,hend⟩ := hg
  obtain ⟨ia,va,sa,_⟩ := Q3r I q1
  obtain ⟨f0,f1,old,zf,z,w1⟩ := st
  have e1 := va.length
  exact next_by ⟨_,z,rfl⟩ F.slot_enumerate_next F.entry_enumerate_next (F.args_enumerate_next_1 _) (enum_end (I.ok.hd hc) ⟨z,w1,sa,hl⟩ (by simp; omega) λ h' e p q => ⟨q,rfl,Q5n (t' := s.toks) I hf p.fp⟩)
 self := λ A i s Q E st h => by
  obtain ⟨f0,f1,old,zf,z,_⟩ := st
  exact own_iter ⟨_,z,rfl⟩ F.slot_enumerate_iter F.entry_enumerate_iter (F.args_enumerate_iter_1 _) F.slot_enumerate_next (wpAny_pure ⟨rfl,rfl⟩) h
theorem ite_yields {K : PySem.W.Frag} {G : Wd} {k : Bool} {l : Addr} {vs : List V} {xs : List D} (h1 : Sq k K G.g l vs) (r1 : Iss K G xs vs) : Q3b K G (Ite k K l) (xs.zipIdx.map λ p => .tup [.int (p.2 : Nat),p.1]) where
 go := λ i H e hi => by
  have hi : i < xs.length := by simpa using hi
  obtain ⟨a,ha,_⟩ := r1.get (i := i) (d := xs[i]) (by simp)
  exact ⟨vs,a,h1.same e,ha⟩
 stop := λ i H e hi => by
  have hi : xs.length <= i := by simpa using hi
  exact ⟨vs,h1.same e,by rw [<- r1.length]; exact hi⟩
 yld := λ i v H H' G2 O2 e s y hi => by
  obtain ⟨T,a,hT,rfl,rfl,y1⟩ := y
  obtain ⟨x,hx,ix⟩ := r1.getV (y1 vs (h1.same (e.g.trans s.sub)))
  obtain ⟨e3,s3⟩ := s.laid (o := .tup [.int (i : Nat),a]) hT
  refine ⟨.tup [.int (i : Nat),x],_,?_,e3,s3,.tup (SqT.of Q0z) (.cons (.int _) (.cons (ix.ext (e.trans e3)) .nil))⟩
  rw [List.getElem?_map,List.getElem?_zipIdx,hx]
  simp
section
variable {X : Cx} {ρ : Rho} {O : Sto} {e a b c : Expr} {es : List Expr} {d da db : D} {ds : List D} {R : D -> Sto -> Prop} {pos p : Pos} {x : Str} {xs ys : List D}
theorem ez_enum (ha : EvP X ρ O a da) (fa : LF da xs) (hm : X.mg "enumerate" = none) (hg : Gl X "enumerate" := by rfl) (hs : starEach [a] X.env = [(false,eval a X.env)] := by rfl) :
  EvZ X ρ O (.Call (.Name "enumerate" p) [a] [] pos) (xs.zipIdx.map λ p => .tup [.int (p.2 : Nat),p.1]) "enumerate" := λ G tg pins s σ H R I sa en k => by
 refine Call_ (Q4L I hg hm boot_enumerate (PyProof.Rows.callWith_type1 (thn (Q0b ha Q0e hs G pos pins s σ H (λ vs H' => ∃ G',Ext G G' /\ SA X.K G' H' O /\ Iss X.K G' [da] vs) I ⟨sa,en,λ vs G' H' e1 s1 i1 => ⟨G',e1,s1,i1⟩⟩) λ us s1 ⟨vs,H1,I1,r1,G1,e1,sa1,is1⟩ => ?_) (by rw [hs]; rfl) rfl))
 cases is1 with | cons i1 is1 =>
 cases is1
 obtain ⟨k1,l1,v1,rfl,q1,j1⟩ := fa.sq i1
 obtain ⟨u,rfl,ru⟩ := vals1 r1
 cases ru
 obtain ⟨t1,w1,g1,z1⟩ := Q3r I1 (q1.same sa1.sub)
 have lt : l1 < s1.heap.objs.size := by
  cases k1 with
  | true => obtain ⟨o,g,_⟩ := (g1 : s1.heap.IsList l1 _); exact Heap.lt_size g
  | false => obtain ⟨o,g,_⟩ := (g1 : s1.heap.IsTuple l1 _); exact Heap.lt_size g
 refine call_enum g1 λ h' Z kp => ?_
 have Ik : L2.Inv X pins σ H1 { s1 with heap := h',toks := s1.toks } := I1.kept kp
 refine ⟨⟨s1.heap.objs.size + 1,efp s1.heap.objs.size,etn k1 s1.heap.objs.size l1,Ite k1 X.K l1,H1,rfl,Ik,turn_enum k1 _ l1 lt,Z,λ b hb => ?_,k _ G1 H1 e1 sa1 (ite_yields q1 j1)⟩,?_⟩
 ·have hb' : s1.heap.objs.size <= b := by
   rcases List.mem_cons.mp hb with rfl | hb
   ·exact Nat.le_refl _
   ·cases List.mem_singleton.mp hb; exact Nat.le_succ _
  exact I1.fpOk hb' (I1.hok.fresh hb')
 ·obtain ⟨f0,f1,old,_,hz,_⟩ := Z
  exact ⟨_,hz,rfl⟩
theorem ez_enumM {α : Type} {f : α -> D} {as : List α} (ha : EvP X ρ O a da) (fa : LF da (as.map f)) (hm : X.mg "enumerate" = none) (hg : Gl X "enumerate" := by rfl) (hs : starEach [a] X.env = [(false,eval a X.env)] := by rfl) :
  EvZ X ρ O (.Call (.Name "enumerate" p) [a] [] pos) (as.zipIdx.map λ p => .tup [.int (p.2 : Nat),f p.1]) "enumerate" := by
 have e : (as.zipIdx.map λ p => D.tup [.int (p.2 : Nat),f p.1]) = ((as.map f).zipIdx.map λ p => D.tup [.int (p.2 : Nat),p.1]) := by
  rw [List.zipIdx_map,List.map_map]
  rfl
 rw [e]
 exact ez_enum ha fa hm hg hs
end
end DL
namespace DL
open PySem PySem.Spec PyProof.Rows L2
section
variable {X : Cx} {ρ : Rho} {O : Sto} {e a b c o value : Expr} {es : List Expr} {d da db : D} {ds : List D} {R : D -> Sto -> Prop} {pos p p2 apos pos' : Pos} {x y f m : Str} {rest : List Stmt} {P : Post} {q : Nat} {C C2 : Addr} {fs : List (Str × D)}
theorem ev_gint {i : Int} {t : Tok} (hm : X.mg x = some (.int i t)) (hg : Gl X x := by rfl) (hd : (x == ("__debug__" : Str)) = false := by decide) : EvP X ρ O (.Name x pos) (.int i) := λ G =>
 PE.imp (pe_glob (v := .int i) hg hm ⟨t,rfl⟩ hd) λ σ H Q ⟨h1,h2,h3⟩ => h3 _ G H (Ext.refl _) h1 (.int i)
structure Q5c (K : PySem.W.Frag) (C : Addr) : Prop where
 cls : Cls K C
 ha : PySem.W.findIn K (.ref C) "__class__" = some (some (.builtin "object.__class__"))
 hn : PySem.W.specialIn K (.builtin "object.__class__") "__get__" = some (some (.builtin "getset_descriptor.__get__"))
 htk : PySem.W.takesIn K (.builtin "object.__class__") = some true
 hm : PySem.W.mroIn K C (.type "object") = some true
theorem ev_isO {k : Bool} (hm : X.mg "isinstance" = none) (he : EvP X ρ O e (.ptr q)) (hq : O[q]? = some (some (.ins C fs))) (T : Q5c X.K C) (hx : X.mg x = some (.ref C2)) (hk : PySem.W.kitOne X.K (.ref C) (.ref C2) = some k)
  (hg : Gl X "isinstance" := by rfl) (hgx : Gl X x := by rfl) (hdx : (x == ("__debug__" : Str)) = false := by decide) (hs : starEach [e,.Name x p2] X.env = (false,eval e X.env) :: starEach [.Name x p2] X.env := by rfl) (hpl : (backTo pos (starEach [.Name x p2] X.env)).any (·.1) = false := by rfl) :
  EvP X ρ O (.Call (.Name "isinstance" p) [e,.Name x p2] [] pos) (.bl k) := λ G => by
 refine PE.imp (pe_callB (id := "isinstance") (r := λ vs H Q => ∃ a dx fs,vs = [.ref a,.ref C2] /\ H a = some (.ins C dx fs) /\ Q (.bl k) H) (λ pins s σ H xs us Q I r h => ?_) hg hm (by first | rfl | decide +kernel) (Q4C (he G) (Q4C (pe_glob (v := .ref C2) hgx hx rfl hdx) pa_nil rfl) hs) (by decide) (by decide) hs hpl) λ σ H Q ⟨h1,h2,h3⟩ => ?_
 ·obtain ⟨a,dx,fs,rfl,ha,hQ⟩ := h
  obtain ⟨u,u',rfl,ru,ru'⟩ := vals2 r
  cases ru'
  exact isinst_ok I ru (.ins ha T.cls T.ha T.hn T.htk T.hm) hk λ tk => ⟨.bl k,H,I.kept λ _ _ e => e,rfl,hQ⟩
 ·refine ⟨h1,h2,λ v G1 H1 e1 s1 i1 => ?_⟩
  obtain ⟨a,dx,vs,rfl,g1,g2,g3⟩ := s1.ins i1 hq
  exact ⟨a,dx,vs,rfl,g2,h3 _ G1 H1 e1 s1 (.bl k)⟩
structure OfCls (P : Program) (w : World) (K : PySem.W.Frag) (mg : Str -> Option Value) (base : Heap) (x : Str) (k : Nat) (m : Str) (sp : SpD) : Prop where
 ex : ∃ C mc f fd ps,mg x = some (.ref C) /\ PySem.W.specialIn K (.ref C) "__getattribute__" = some (some (.builtin "type.__getattribute__")) /\ PySem.W.readsIn K C mc = true /\ PySem.W.findCls K (.ref C) mc m = some (.val (.ref f)) /\ PySem.W.handedIn (.ref f) = true /\
  FnOk P w K mg base CX0 k f fd ps (toSp K sp) /\ PySem.W.keepIn K (.ref f) = true /\ Q0C K fd ps []
theorem Q4l {k : Nat} {sp : SpD} {pl : Sem Bool} (M : OfCls X.prog X.w X.K X.mg X.base x k m sp) (hr : Room k X.A) (ha : EvPs X ρ O (e :: es) ds) (hs : sp ds O R) (hg : Gl X x := by rfl) (hdb : (x == ("__debug__" : Str)) = false := by decide)
  (hst : starEach (e :: es) X.env = (false,eval e X.env) :: starEach es X.env := by rfl) (hpl : (backTo pos (starEach es X.env)).any (·.1) = false := by rfl)
  (ht : eval (.Call (.Attribute (.Name x p) m apos) (e :: es) [] pos) X.env = (do
   let ov <- eval (.Name x p) X.env
   standAt apos.atName
   let (f,first) <- holding [ov] (getMethod ov m pl)
   callWith pos f first (backTo pos (starEach (e :: es) X.env)) (backToKw pos (keywordEach [] X.env))) := by rfl) : Ev X ρ O (.Call (.Attribute (.Name x p) m apos) (e :: es) [] pos) R := λ G pins s σ H Q I ⟨h1,h2,h3⟩ => by
 obtain ⟨C,mc,f,fd,ps,g1,g2,g3,g4,g5,g6,g7,g8⟩ := M.ex
 refine PySem.W.methodCall_KW (pl := pl) (ld_glob I hg g1 (PySem.W.method_cls I.kIn g2 (PySem.W.cls_value I.kIn g3 g4 g5 ?_)) hdb) ht
 have I1 : L2.Inv X pins σ H { s with toks := s.toks + 1 } := I.kept λ _ _ e => e
 refine PySem.W.callWith_K (first := []) (h₀ := X.base) I.ok.mod.kin g7 (thn (ha G pos pins _ σ H (λ vs H' => ∃ G',Ext G G' /\ SA X.K G' H' O /\ Iss X.K G' ds vs) I1 ⟨h1,h2,λ vs G' H' e1 s1 i1 => ⟨G',e1,s1,i1⟩⟩) λ us s2 ⟨vs,H2,I2,r,G1,e1,s1,i1⟩ => ⟨I2.kIn,?_⟩) hst hpl
 refine run_fn (us := us) (vs := vs) (dvs := []) (E := E0) g6 hr g8 .nil pass0 I2 r ?_
 show toSp X.K sp (vs ++ []) H2 Q E0
 rw [List.append_nil]
 exact ⟨G1,O,ds,R,s1,i1,hs,λ v d O' G' H' e2 s2 i2 r2 => h3 v d O' G' H' (e1.trans e2) s2 i2 r2⟩
end
section
variable {X : Cx} {ρ : Rho} {O : Sto} {e a b c : Expr} {body orelse : List Stmt} {d da db : D} {pos : Pos} {P : Post}
end
section
variable {X : Cx} {ρ : Rho} {O : Sto} {a b : Expr} {pos : Pos} {R : D -> Sto -> Prop} {xs : List D}
end
end DL
namespace DL
open PySem PySem.Spec PyProof.Rows L2 PySem.W
section
variable {X : Cx} {ρ : Rho} {O : Sto} {d : D} {xs ys : List D}
theorem best_le (bt : Nat -> Nat -> Bool) : ∀ k,argBest bt k <= k
 | 0 => Nat.le_refl _
 | k + 1 => by
  have := best_le bt k
  unfold argBest
  split <;> omega
end
structure FunD (K : PySem.W.Frag) (x qual : Str) (st : Stmt) (f : Addr) (fd : FuncData) (dv : List Value) : Prop where
 ex : ∃ (T : Addr) (cT : Value) (dT : Option Addr) (nT : Nat) (sT : Array (Option Value)) (oc : Value) (od : Option Addr) (kV doc pm : Value) (an : Option Addr) (cdv ct : Value) (osl : Array (Option Value)),
  fd = PySem.W.fnOf x qual (Q0l st) (Q0k st) (Q0d st) (.ref T) kV doc pm an cdv ct /\ K.lookup f = some ⟨oc,od,.func fd,osl⟩ /\ PySem.W.codeIn K cdv qual = true /\ K.lookup T = some ⟨cT,dT,.seq dv.toArray nT,sT⟩
 kp : PySem.W.keepIn K (.ref f) = true
theorem funD_mk {K : PySem.W.Frag} {x qual : Str} {st : Stmt} {f T : Addr} {cT oc : Value} {dT od an : Option Addr} {nT : Nat} {sT osl : Array (Option Value)} {kV doc pm cdv ct : Value} {dv : List Value} (l : K.lookup f = some ⟨oc,od,.func (PySem.W.fnOf x qual (Q0l st) (Q0k st) (Q0d st) (.ref T) kV doc pm an cdv ct),osl⟩)
  (t : K.lookup T = some ⟨cT,dT,.seq dv.toArray nT,sT⟩) (c : PySem.W.codeIn K cdv qual = true) (k : PySem.W.keepIn K (.ref f) = true) : FunD K x qual st f (PySem.W.fnOf x qual (Q0l st) (Q0k st) (Q0d st) (.ref T) kV doc pm an cdv ct) dv := ⟨⟨T,cT,dT,nT,sT,oc,od,kV,doc,pm,an,cdv,ct,osl,rfl,l,c,t⟩,k⟩
theorem FunD.binds {K : PySem.W.Frag} {x qual : Str} {st : Stmt} {f : Addr} {fd : FuncData} {dv rest : List Value} {ps : List Str} (F : FunD K x qual st f fd dv)
  (h : ∀ (T : Addr) (kV doc pm : Value) (an : Option Addr) (cdv ct : Value) (us : List Value),(us ++ rest).length = ps.length -> ∃ k,bindArgs (PySem.W.fnOf x qual (Q0l st) (Q0k st) (Q0d st) (.ref T) kV doc pm an cdv ct) ⟨us,[]⟩ = seqItems? (.ref T) >>= k /\ k (some dv.toArray) = pure (ps.zip (us ++ rest))) : Q0C K fd ps rest := by
 obtain ⟨T,cT,dT,nT,sT,oc,od,kV,doc,pm,an,cdv,ct,osl,rfl,l,c,t⟩ := F.ex
 intro s us X hl
 obtain ⟨k,h1,h2⟩ := h T kV doc pm an cdv ct us hl
 exact PySem.W.binds_K X rfl t rfl h1 h2
section
variable {P : Program} {w : World} {K : PySem.W.Frag} {mg : Str -> Option Value} {base : Heap}
theorem okFD {x qual : Str} {st : Stmt} {f : Addr} {fd : FuncData} {N ps : List Str} {k : Nat} {sp : SpD} {dv : List Value} (F : FunD K x qual st f fd dv) (S : Q0n N ps (Q0d st))
  (len : ∀ ds O R,sp ds O R -> ds.length = ps.length)
  (hbody : ∀ (cdv : Value) (A : Around) (outer : List Env) (s : Shared) (H : Hp) (E : XK) (ds : List D) (O : Sto) (R : D -> Sto -> Prop),Room k (A.deeper (envOfC qual (Q0d st) s.heap.objs.size f cdv)) -> sp ds O R ->
   Exs (cxOf CX0 P w K mg base N qual (Q0d st) f cdv A outer s H E).nox (startD N ds) O (Q0k st) { nx := λ _ O' => R .non O',rt := R }) : FnOk P w K mg base CX0 (k + 1) f fd ps (toSp K sp) := by
 obtain ⟨T,cT,dT,nT,sT,oc,od,kV,doc,pm,an,cdv,ct,osl,rfl,l,c,t⟩ := F.ex
 refine fn_of l c S (λ vs H Q E h => ?_) λ A outer s H vs Q E hr h => ?_
 ·obtain ⟨G,O,ds,R,h1,h2,h3,h4⟩ := h
  rw [<- h2.length]
  exact len _ _ _ h3
 ·obtain ⟨G,O,ds,R,h1,h2,h3,h4⟩ := h
  exact ⟨_,(hbody cdv A outer s H E ds O R hr h3 G).nox,h1,start_env h2,⟨λ σ ρ O' G' H' e1 s1 n1 q => h4 _ _ O' G' H' e1 s1 .non q,λ v d O' G' H' e1 s1 i1 q => h4 v d O' G' H' e1 s1 i1 q,λ σ ρ O' G' H' e1 s1 n1 q => q.elim,λ σ ρ O' G' H' e1 s1 n1 q => q.elim⟩⟩
end
section
variable {X : Cx} {ρ : Rho} {O : Sto} {a : Expr} {pos p : Pos} {R : D -> Sto -> Prop} {xs : List D} {d : D}
end
def minP (ps : List (Int × Int)) : Int × Int := ps.getD (argBest (λ i j => ltP (ps.getD i (0,0)) (ps.getD j (0,0))) (ps.length - 1)) (0,0)
theorem ltP_all (g : Nat -> Int × Int) : ∀ k i,i <= k -> ltP (g i) (g (argBest (λ i j => ltP (g i) (g j)) k)) = false
 | 0,i,h => by
  have : i = 0 := by omega
  subst this
  show ltP (g 0) (g 0) = false
  unfold ltP
  exact decide_eq_false (by omega)
 | k + 1,i,h => by
  have ih := ltP_all g k
  unfold argBest
  by_cases hd : ltP (g (k + 1)) (g (argBest (λ i j => ltP (g i) (g j)) k)) = true
  ·rw [if_pos hd]
   by_cases he : i = k + 1
   ·subst he; unfold ltP; exact decide_eq_false (by omega)
   ·have := ih i (by omega)
    generalize argBest (λ i j => ltP (g i) (g j)) k = b at *
    unfold ltP at *
    have h1 := of_decide_eq_true hd
    have h2 := of_decide_eq_false this
    exact decide_eq_false (by omega)
  ·rw [if_neg hd]
   by_cases he : i = k + 1
   ·subst he; exact Bool.eq_false_iff.mpr hd
   ·exact ih i (by omega)
theorem minP_mem {ps : List (Int × Int)} (h : ps ≠ []) : minP ps ∈ ps := by
 have h0 := List.length_pos_iff.mpr h
 unfold minP
 rw [getD_in (by have := best_le (λ i j => ltP (ps.getD i (0,0)) (ps.getD j (0,0))) (ps.length - 1); omega)]
 exact List.getElem_mem _
theorem minP_le {ps : List (Int × Int)} {q : Int × Int} (h : q ∈ ps) : ltP q (minP ps) = false := by
 obtain ⟨i,hi,rfl⟩ := List.getElem_of_mem h
 have := ltP_all (λ i => ps.getD i (0,0)) (ps.length - 1) i (by omega)
 rw [getD_in hi] at this
 exact this
def PairAt (h : Heap) (v : Value) (p : Int × Int) : Prop := ∃ a o n t u,v = .ref a /\ h.get? a = some o /\ o.cls = .type "tuple" /\ o.data = .seq #[.int p.1 t,.int p.2 u] n
section
variable {prog : Program} {w : World} {A : Around} {E : Value -> Shared -> Prop} {s : Shared}
theorem lt_ints {a b : Int} {t u : Tok} {Q : Value -> Shared -> Prop} (h : Q (.bool (decide (a < b))) s) : wpAny (model prog w) A (richCompare .Lt (.int a t) (.int b u)) Q E s :=
 CmpOf.ints_lt (P := λ i v => v = if i = 0 then .int a t else .int b u) (λ i => if i = 0 then a else b) (λ i v e => ⟨if i = 0 then t else u,by subst e; split <;> rfl⟩) 0 1 _ _ s Q E rfl rfl h
theorem lt_pair {x y : Value} {p q : Int × Int} {Q : Value -> Shared -> Prop} (hx : PairAt s.heap x p) (hy : PairAt s.heap y q) (hu : A.units < cLine) (h : Q (.bool (ltP p q)) s) : wpAny (model prog w) A (richCompare .Lt x y) Q E s := by
 obtain ⟨a,oa,na,ta,ua,rfl,a1,a2,a3⟩ := hx
 obtain ⟨b,ob,nb,tb,ub,rfl,b1,b2,b3⟩ := hy
 have Ta : s.TypeIs (.ref a) "tuple" := ⟨oa,a1,a2⟩
 have Tb : s.TypeIs (.ref b) "tuple" := ⟨ob,b1,b2⟩
 refine wpAny_richCompare_same_room (op := .Lt) Ta Tb PySem.F.slot_tuple_lt (wpAny_call_entry PySem.F.slot_tuple_lt Ta PySem.F.entry_tuple_lt ?_ (PySem.F.args_tuple_lt_2 _ _)) hu
 obtain ⟨h0,g,d,tk,os⟩ := s
 obtain ⟨ca,da,xa,sa⟩ := oa
 obtain ⟨cb,db,xb,sb⟩ := ob
 simp only at a2 a3 b2 b3
 subst a2 a3 b2 b3
 dsimp only at a1 b1
 have f2 := AutoSeq1.sub_tuple_tuple
 have hq1 : ((p.1 == q.1) = true) ↔ p.1 = q.1 := by simp
 by_cases e1 : p.1 = q.1
 ·have z1 : (p.1 == q.1) = true := by simpa using e1
  by_cases e2 : p.2 = q.2
  ·have z2 : (p.2 == q.2) = true := by simpa using e2
   have z : ltP p q = false := by unfold ltP; exact decide_eq_false (by omega)
   rw [z] at h
   wp_walk using wpAny_loadPart' a1,wpAny_loadPart' b1,wpAny_eqBool_int
   exact ⟨.bool false,rfl,λ z => (by cases z),h⟩
  ·have z2 : (p.2 == q.2) = false := by simpa using e2
   have z : ltP p q = decide (p.2 < q.2) := by unfold ltP; exact decide_eq_decide.mpr (by omega)
   rw [z] at h
   wp_walk using wpAny_loadPart' a1,wpAny_loadPart' b1,wpAny_eqBool_int,lt_ints
   exact ⟨_,rfl,λ z => (by cases z),h⟩
 ·have z1 : (p.1 == q.1) = false := by simpa using e1
  have z : ltP p q = decide (p.1 < q.1) := by unfold ltP; exact decide_eq_decide.mpr (by omega)
  rw [z] at h
  wp_walk using wpAny_loadPart' a1,wpAny_loadPart' b1,wpAny_eqBool_int,lt_ints
  exact ⟨_,rfl,λ z => (by cases z),h⟩
theorem min_go {R : Result -> Shared -> Prop} {I S : Addr} {fp wr : List Addr} {n : Nat} {P : Nat -> Value -> Prop} {St : Nat -> Heap -> Prop} {Kp : Heap -> Prop} {bt : Nat -> Nat -> Bool} (W : Walks prog w A.in1 I fp wr n P St)
  (hc : ∀ i j vi vj (s : Shared) (Q : Value -> Shared -> Prop) (E : Value -> Shared -> Prop),P i vi -> P j vj -> Kp s.heap -> Q (.bool (bt i j)) s -> wpAny (model prog w) A.in1 (richCompare .Lt vi vj) Q E s)
  (hK : ∀ h h' : Heap,Kp h -> (∀ b o,b ∉ wr -> b ≠ S -> h.get? b = some o -> h'.get? b = some o) -> Kp h') (hS : S ∉ fp) :
  ∀ (k j : Nat) (s : Shared) (vb : Value) (c : Nat),j + 1 + k = n -> St (j + 1) s.heap -> Kp s.heap -> P (argBest bt j) vb -> s.heap.get? S = some (lsC [vb,vb] c) ->
   (∀ v h' tk,P (argBest bt (n - 1)) v -> (∀ b o,b ∉ wr -> b ≠ S -> s.heap.get? b = some o -> h'.get? b = some o) -> R (.ok (.ret v)) { s with heap := h',toks := tk }) -> codeAny (model prog w) A (.builtin "min.loop" ⟨[.ref I,.none,.ref S],[]⟩) R s
 | 0,j,s,vb,c,hk,st,kp,pb,own,fin => by
  refine Q3W F.plain_min_loop F.entry_min_loop ?_
  obtain ⟨h,g,d,tk,os⟩ := s
  have hn : j + 1 = n := hk
  subst hn
  have nx : ∀ (Q : Option Value -> Shared -> Prop) (E : Value -> Shared -> Prop) (f : Value -> Sem (Option Value)),(∀ h' tk',(∀ b o,b ∉ wr -> h.get? b = some o -> h'.get? b = some o) -> Q none ⟨h',g,d,tk',os⟩) -> wpAny (model prog w) A.in1 ((pyNext (.ref I)).tryCatch f) Q E ⟨h,g,d,tk,os⟩ := λ Q E f q => wpAny_tryCatch (W.done _ _ _ st q)
  wp_walk using wpAny_seqItems own rfl,nx
  intro h' tk' ke
  have own' := ke S _ (λ z => hS (W.sub _ z)) own
  wp_walk using wpAny_updateSeq own' rfl
  exact fin vb _ _ pb λ b o hb hbS e => (Heap.get?_update_other _ _ (Ne.symm hbS)).trans (ke b o hb e)
 | k + 1,j,s,vb,c,hk,st,kp,pb,own,fin => by
  refine Q3W F.plain_min_loop F.entry_min_loop ?_
  obtain ⟨h,g,d,tk,os⟩ := s
  have nx : ∀ (Q : Option Value -> Shared -> Prop) (E : Value -> Shared -> Prop) (f : Value -> Sem (Option Value)),(∀ v h' tk',P (j + 1) v -> St (j + 2) h' -> (∀ b o,b ∉ wr -> h.get? b = some o -> h'.get? b = some o) -> Q (some v) ⟨h',g,d,tk',os⟩) -> wpAny (model prog w) A.in1 ((pyNext (.ref I)).tryCatch f) Q E ⟨h,g,d,tk,os⟩ := λ Q E f q => wpAny_tryCatch (W.item _ _ _ _ (by omega) st q)
  wp_walk using wpAny_seqItems own rfl,nx
  intro v h' tk' pv st' ke
  have own' := ke S _ (λ z => hS (W.sub _ z)) own
  have kp' : Kp h' := hK h h' kp λ b o hb _ e => ke b o hb e
  have cmp : ∀ (Q : Value -> Shared -> Prop) (E : Value -> Shared -> Prop),Q (.bool (bt (j + 1) (argBest bt j))) ⟨h',g,d,tk',os⟩ -> wpAny (model prog w) A.in1 (richCompare .Lt v vb) Q E ⟨h',g,d,tk',os⟩ := λ Q E q => hc _ _ _ _ _ Q E pv pb kp' q
  wp_walk
  refine wpAny_tryCatch ?_
  have nm : (toString "min" ++ toString ".loop" : String) = "min.loop" := by decide
  rw [nm]
  have hb1 : argBest bt (j + 1) = if bt (j + 1) (argBest bt j) then j + 1 else argBest bt j := rfl
  cases hz : bt (j + 1) (argBest bt j) with
  | true =>
   rw [hz] at cmp hb1
   wp_walk using cmp,wpAny_truthy_bool,wpAny_updateSeq own' rfl
   refine ⟨plainId_quiet F.plain_min_loop _,min_go W hc hK hS k (j + 1) _ v _ (by omega) (W.frame _ _ _ st' λ b hbf o e => (Heap.get?_update_other _ _ (λ z : S = b => hS (by rw [z]; exact hbf))).trans e) (hK _ _ kp' λ b o _ hbS e => (Heap.get?_update_other _ _ (Ne.symm hbS)).trans e) (by rw [hb1]; exact pv) (Heap.get?_update_self _ own' rfl) λ v2 h2 tk2 p2 ke2 => fin v2 h2 tk2 p2 λ b o hbw hbS e => ke2 b o hbw hbS ((Heap.get?_update_other _ _ (Ne.symm hbS)).trans (ke b o hbw e))⟩
  | false =>
   rw [hz] at cmp hb1
   wp_walk using cmp,wpAny_truthy_bool
   exact ⟨plainId_quiet F.plain_min_loop _,min_go W hc hK hS k (j + 1) _ vb _ (by omega) st' kp' (by rw [hb1]; exact pb) own' λ v2 h2 tk2 p2 ke2 => fin v2 h2 tk2 p2 λ b o hbw hbS e => ke2 b o hbw hbS (ke b o hbw e)⟩
theorem min_first {R : Result -> Shared -> Prop} {I S : Addr} {fp wr : List Addr} {n : Nat} {P : Nat -> Value -> Prop} {St : Nat -> Heap -> Prop} {Kp : Heap -> Prop} {bt : Nat -> Nat -> Bool} {c : Nat} (W : Walks prog w A.in1 I fp wr n P St)
  (hc : ∀ i j vi vj (s : Shared) (Q : Value -> Shared -> Prop) (E : Value -> Shared -> Prop),P i vi -> P j vj -> Kp s.heap -> Q (.bool (bt i j)) s -> wpAny (model prog w) A.in1 (richCompare .Lt vi vj) Q E s)
  (hK : ∀ h h' : Heap,Kp h -> (∀ b o,b ∉ wr -> b ≠ S -> h.get? b = some o -> h'.get? b = some o) -> Kp h') (hS : S ∉ fp) (hn : 0 < n) (st : St 0 s.heap) (kp : Kp s.heap) (own : s.heap.get? S = some (lsC [] c))
  (fin : ∀ v h' tk,P (argBest bt (n - 1)) v -> (∀ b o,b ∉ wr -> b ≠ S -> s.heap.get? b = some o -> h'.get? b = some o) -> R (.ok (.ret v)) { s with heap := h',toks := tk }) : codeAny (model prog w) A (.builtin "min.loop" ⟨[.ref I,.none,.ref S],[]⟩) R s := by
 refine Q3W F.plain_min_loop F.entry_min_loop ?_
 obtain ⟨h,g,d,tk,os⟩ := s
 have nx : ∀ (Q : Option Value -> Shared -> Prop) (E : Value -> Shared -> Prop) (f : Value -> Sem (Option Value)),(∀ v h' tk',P 0 v -> St 1 h' -> (∀ b o,b ∉ wr -> h.get? b = some o -> h'.get? b = some o) -> Q (some v) ⟨h',g,d,tk',os⟩) -> wpAny (model prog w) A.in1 ((pyNext (.ref I)).tryCatch f) Q E ⟨h,g,d,tk,os⟩ := λ Q E f q => wpAny_tryCatch (W.item _ _ _ _ hn st q)
 wp_walk using wpAny_seqItems own rfl,nx
 intro v h' tk' pv st' ke
 have own' := ke S _ (λ z => hS (W.sub _ z)) own
 wp_walk using wpAny_updateSeq own' rfl
 have nm : (toString "min" ++ toString ".loop" : String) = "min.loop" := by decide
 rw [nm]
 exact ⟨plainId_quiet F.plain_min_loop _,min_go W hc hK hS (n - 1) 0 _ v _ (by omega) (W.frame _ _ _ st' λ b hbf o e => (Heap.get?_update_other _ _ (λ z : S = b => hS (by rw [z]; exact hbf))).trans e) (hK _ _ (hK _ _ kp λ b o hb _ e => ke b o hb e) λ b o _ hbS e => (Heap.get?_update_other _ _ (Ne.symm hbS)).trans e) pv (Heap.get?_update_self _ own' rfl) λ v2 h2 tk2 p2 ke2 => fin v2 h2 tk2 p2 λ b o hbw hbS e => ke2 b o hbw hbS ((Heap.get?_update_other _ _ (Ne.symm hbS)).trans (ke b o hbw e))⟩
theorem call_minP {l : Addr} {its : List Value} {ps : List (Int × Int)} {Q : Value -> Shared -> Prop} (hh : A.handled = none) (hu : A.in1.units < cLine) (q : s.heap.IsList l its.toArray) (hv : ∀ (i : Nat) (v : Value),its[i]? = some v -> PairAt s.heap v (ps.getD i (0,0))) (hn : ps.length = its.length) (h0 : 0 < ps.length)
  (h : ∀ v h' tk,its[argBest (λ i j => ltP (ps.getD i (0,0)) (ps.getD j (0,0))) (ps.length - 1)]? = some v -> (∀ b o,s.heap.get? b = some o -> h'.get? b = some o) -> Q v { s with heap := h',toks := tk }) : wpAny (model prog w) A (call (.builtin "min") [.ref l]) Q E s := by
 obtain ⟨h1,g,d,tk,os⟩ := s
 dsimp only at q hv h
 have hl : l < h1.objs.size := by obtain ⟨o,e,_⟩ := q; exact Heap.lt_size e
 refine call_function_tree F.kind_min F.plain_min F.entry_min (F.args_min1 (.ref l)) ?_
 have bp : Builtin.Builtins.bindParams "min" ["key","default"] 0 ⟨[],[]⟩ = pure [none,none] := rfl
 wp_walk using wpAny_pyIter_list q
 have nm : (toString "min" ++ toString ".loop" : String) = "min.loop" := by decide
 rw [nm]
 have W := Walks.list (prog := prog) (w := w) (A := A.in1) hh h1.objs.size l (Nat.ne_of_lt hl) its.toArray
 have ez : its.toArray.size = ps.length := by simp [hn]
 have up : ∀ b o,h1.get? b = some o -> ((h1.push { cls := .type "list_iterator",data := .fields #[.ref l,.int 0 0] }).push { cls := .type "list",data := .seq #[] }).get? b = some o := λ b o e => Heap.get?_push_of_some _ (Heap.get?_push_of_some _ e)
 have es : (h1.push { cls := .type "list_iterator",data := .fields #[.ref l,.int 0 0] }).objs.size = h1.objs.size + 1 := Heap.size_push ..
 refine ⟨plainId_quiet F.plain_min_loop _,min_first (c := 0) (Kp := λ h' => ∀ b o,h1.get? b = some o -> h'.get? b = some o) (bt := λ i j => ltP (ps.getD i (0,0)) (ps.getD j (0,0))) W (λ i j vi vj s' Q' E' pi pj kp hq => ?_) (λ h2 h3 kp ke b o e => ?_) ?_ (by rw [ez]; exact h0) ⟨⟨_,Heap.get?_push_of_some _ (Heap.get?_push_size _ rfl),rfl,rfl⟩,?_⟩ up (Heap.get?_push_size _ rfl) λ v h2 tk2 pv ke => ?_⟩
 ·have far : ∀ {x : Value} {p : Int × Int},PairAt h1 x p -> PairAt s'.heap x p := λ ⟨a,o,n,t,u,e,e1,r⟩ => ⟨a,o,n,t,u,e,kp a o e1,r⟩
  exact lt_pair (far (hv i vi (by simpa using pi))) (far (hv j vj (by simpa using pj))) hu hq
 ·have hb := Heap.lt_size e
  refine ke b o (by simpa using Nat.ne_of_lt hb) (λ z => ?_) (kp b o e)
  rw [z] at hb
  have hb : h1.objs.size + 1 < h1.objs.size := by rw [<- es]; exact hb
  omega
 ·intro z
  have z : h1.objs.size + 1 ∈ [h1.objs.size,l] := by rw [<- es]; exact z
  rcases List.mem_cons.mp z with z | z
  ·exact Nat.succ_ne_self _ z
  ·have z := List.mem_singleton.mp z
   rw [<- z] at hl
   exact Nat.lt_irrefl _ (Nat.lt_of_succ_lt hl)
 ·obtain ⟨o,e,r⟩ := q
  exact ⟨o,up _ _ e,r⟩
 ·rw [ez] at pv
  refine h v h2 tk2 (by simpa using pv) λ b o e => ke b o (by simpa using Nat.ne_of_lt (Heap.lt_size e)) (λ z => ?_) (up b o e)
  have hb := Heap.lt_size e
  rw [z] at hb
  have hb : h1.objs.size + 1 < h1.objs.size := by rw [<- es]; exact hb
  omega
end
section
variable {X : Cx} {O : Sto} {d : D} {k : Nat}
theorem c_minP {ps : List (Int × Int)} (hr : Room k X.A) (h : LV O d (ps.map pD)) (h0 : ps ≠ []) (hc : X.calm = true := by rfl) : Q2w X O (.builtin "min") [d] (pD (minP ps)) := λ G pins s σ H vs us Q I r ⟨h1,h2,h3⟩ => by
 cases h2 with | cons i r2 =>
 cases r2
 obtain ⟨ad,ws,rfl,q,is⟩ := h.sq h1 i
 obtain ⟨u,rfl,ru⟩ := vals1 r
 cases ru
 obtain ⟨its,va,sq,_⟩ := I.list q
 have e1 := is.length
 have e2 := va.length
 rw [List.length_map] at e1
 have hp := List.length_pos_iff.mpr h0
 have at' : ∀ i (v : Value),its[i]? = some v -> ∃ x,ws[i]? = some x /\ RelV x v /\ ∃ p,ps[i]? = some p /\ Is X.K G (pD p) x := λ i v hv => by
  have hi : i < ps.length := by rw [e1,e2]; exact (List.getElem?_eq_some_iff.mp hv).1
  obtain ⟨x,hx,ix⟩ := is.get (i := i) (d := pD ps[i]) (by simp [hi])
  obtain ⟨z,hz,rz⟩ := va.get hx
  rw [hv] at hz
  cases hz
  exact ⟨x,hx,rz,ps[i],List.getElem?_eq_getElem hi,ix⟩
 refine call_minP (ps := ps) (I.ok.hd hc) (show X.A.in1.units < cLine from ?_) sq.isList (λ i v hv => ?_) (by omega) hp λ v h' tk hv kp => ?_
 ·exact hu_of hr
 ·obtain ⟨x,hx,rx,p,hpp,ix⟩ := at' i v hv
  rw [List.getD_eq_getElem?_getD,hpp]
  cases ix with
  | tup hh rr =>
  cases rr with | cons j1 rr => cases rr with | cons j2 rr =>
  cases rr
  cases j1
  cases j2
  cases rx
  obtain ⟨its2,v2,⟨o,g1,g2,n,g3⟩,_⟩ := I.tuple (Q1D h1.sub hh)
  obtain ⟨u1,u2,rfl,q1,q2⟩ := vals2 v2
  obtain ⟨t,rfl⟩ := q1
  obtain ⟨t',rfl⟩ := q2
  exact ⟨_,o,n,t,t',rfl,g1,g2,g3⟩
 ·obtain ⟨x,hx,rx,p,hpp,ix⟩ := at' _ v hv
  have e : minP ps = p := by
   unfold minP
   rw [List.getD_eq_getElem?_getD,hpp]
   rfl
  rw [e] at h3
  exact ⟨x,H,I.kept kp,rx,h3 _ G H (Ext.refl _) h1 ix⟩
end
section
variable {X : Cx} {ρ : Rho} {O : Sto} {e : Expr} {p p2 pos pos2 : Pos}
end
section
variable {X : Cx} {ρ : Rho} {O : Sto} {e : Expr} {es : List Expr} {ds : List D} {R : D -> Sto -> Prop} {pos p : Pos} {x : Str} {C : Addr}
end
end DL
namespace DL
open PySem PySem.Spec PyProof.Rows L2
section
variable {X : Cx} {ρ : Rho} {O : Sto} {a b : Expr} {pos : Pos}
end
section
variable {X : Cx} {ρ : Rho} {O : Sto} {a e : Expr} {d : D}
end
section
variable {prog : Program} {w : World} {A : Around} {E : Value -> Shared -> Prop} {s : Shared}
end
section
variable {X : Cx} {O : Sto} {xs : List D}
end
section
variable {X : Cx} {ρ : Rho} {O : Sto} {a b : Expr} {d : D} {pos : Pos}
end
section
variable {X : Cx} {ρ : Rho} {O : Sto} {e a b c st : Expr} {d da db : D} {xs ys : List D} {R : D -> Sto -> Prop} {pos p p2 : Pos} {P : Post} {q : Nat}
end
section
variable {prog : Program} {w : World} {A : Around} {E : Value -> Shared -> Prop} {s : Shared}
end
section
variable {X : Cx} {ρ : Rho} {O : Sto} {a st lo : Expr} {xs : List D} {pos p2 : Pos}
end
section
variable {X : Cx} {ρ : Rho} {O : Sto} {e : Expr} {C C2 : Addr} {x : Str} {p p2 pos : Pos} {R : D -> Sto -> Prop}
end
section
variable {X : Cx} {ρ : Rho} {O : Sto} {o ix e : Expr} {pos tpos : Pos} {P : Post} {q : Nat}
end
end DL
namespace DL
open PySem PySem.Spec PyProof.Rows L2 PySem.W
section
variable {prog : Program} {w : World} {A : Around} {E : Value -> Shared -> Prop} {s : Shared} {n l : Nat} {j : Int} {xs : Array Value} {v : Value}
end
section
variable {X : Cx} {ρ : Rho} {O : Sto} {a : Expr} {pos p : Pos} {xs : List D}
end
section
variable {prog : Program} {w : World} {A : Around} {E : Value -> Shared -> Prop} {s : Shared} {l : Nat} {k : Int} {t : Tok} {vs : List Value} {ns : List Int}
end
section
variable {X : Cx} {ρ : Rho} {O : Sto} {a e : Expr}
end
end DL
namespace L2
open PySem PySem.Spec PyProof.Rows
def Mild {α : Type} : Sem α -> Prop
 | .pure _ => True
 | .raise _ => True
 | .unsupported _ => True
 | .finish _ => True
 | .rule _ k => Mild (k ())
 | .at _ k => Mild (k ())
 | .load _ _ k => ∀ o,Mild (k o)
 | .update _ _ f k => (∀ o : Obj,((f o).dict = o.dict /\ ctxOf (f o) = ctxOf o) /\ (o.data ≠ .freed -> (f o).data ≠ .freed)) /\ Mild (k ())
 | .alloc _ k => ∀ a,Mild (k a)
 | .loadIfAlive _ k => ∀ o,Mild (k o)
 | .point _ k => Mild (k ())
 | .fresh k => ∀ t,Mild (k t)
 | .ask k => ∀ t,Mild (k t)
 | .handled _ k => ∀ t,Mild (k t)
 | .stack k => ∀ t,Mild (k t)
 | .thread k => ∀ t,Mild (k t)
 | _ => False
section
variable {P : Program} {w : World}
end
section
variable {CX : CXT} {P : Program} {w : World} {K : PySem.W.Frag} {mg : Str -> Option Value} {base : Heap} {N : List Str} {qual : Str} {scope : Scope} {f : Addr} {cd : Value} {A : Around} {outer : List Env} {s : Shared} {H : Hp} {E : XK}
end
end L2
namespace DL
open PySem PySem.Spec PyProof.Rows L2
abbrev XR := Addr -> List (Str × D) -> Sto -> Prop
abbrev SpX := List D -> Sto -> (D -> Sto -> Prop) -> XR -> Prop
abbrev XC := Addr -> List (Str × D) -> Rho -> Sto -> Prop
section
variable {X : Cx} {mk : Prop} {ρ : Rho} {O : Sto} {e a b c o : Expr} {es : List Expr} {d da db : D} {ds : List D} {R : D -> Sto -> Prop} {RX : XC} {pos p apos : Pos} {x m : Str} {st : Stmt} {rest body orelse : List Stmt} {P : Post} {C : Addr} {q : Nat} {fs : List (Str × D)}
end
section
variable {P : Program} {w : World} {K : PySem.W.Frag} {mg : Str -> Option Value} {base : Heap}
end
end DL
namespace L2
open PySem PySem.Spec PyProof.Rows
section
variable {X : Cx} {pins : List (Addr × Obj)} {σ : St} {H : Hp} {s : Shared}
abbrev Cx.as (X : Cx) (A : Around) (calm : Bool) (pn : List (Addr × Obj)) (E : Value -> Shared -> Prop) : Cx := { X with A := A,calm := calm,pn := pn,xe := E }
end
end L2
namespace DL
open PySem PySem.Spec PyProof.Rows L2
abbrev bmV : List Value := [.type "ValueError",.type "Exception",.type "BaseException",.type "object"]
section
variable {X : Cx} {mk : Prop} {ρ : Rho} {O : Sto} {e a b c o : Expr} {es : List Expr} {d da db : D} {ds : List D} {R : D -> Sto -> Prop} {RX : XC} {pos p np cpos hpos : Pos} {x y n : Str} {st b₀ : Stmt} {rest body suite : List Stmt} {P : Post} {C CB : Addr} {fs : List (Str × D)}
end
end DL
namespace L2
open PySem PySem.Spec PyProof.Rows Builtin.ObjectAttr Builtin.Getset_descriptor
section
variable {prog : Program} {w : World} {A : Around} {E : Value -> Shared -> Prop} {s : Shared} {K : PySem.W.Frag} {x C : Addr} {n : Str}
end
end L2
namespace DL
open PySem PySem.Spec PyProof.Rows L2
section
variable {X : Cx} {ρ : Rho} {O : Sto} {e : Expr} {es : List Expr} {p p2 pos : Pos} {x : Str} {C C2 : Addr} {q : Nat} {fs : List (Str × D)} {k : Bool} {x1 : Nat}
end
end DL
namespace L2
open PySem PySem.Spec PyProof.Rows
section
variable {X : Cx} {tg a b c : Expr} {p pos : Pos}
end
end L2
namespace DL
open PySem PySem.Spec PyProof.Rows L2
section
variable {X : Cx} {ρ : Rho} {O : Sto} {a b c : Expr} {p pos : Pos} {P : Post} {st : Stmt} {rest : List Stmt}
end
end DL
namespace L2
open PySem PySem.Spec PyProof.Rows Builtin.ObjectAttr
open DL (bmV)
section
variable {prog : Program} {w : World} {A : Around} {s : Shared} {K : PySem.W.Frag} {C f N : Addr} {nm q : Str} {bs bm : List Value} {hdct : Bool} {sn : List Str} {sub : List Value} {ab : Bool} {col : Option Bool} {dd : Option Addr} {k0 k1 k2 k3 k5 : Option Value}
end
end L2
namespace L2
open PySem PySem.Spec PyProof.Rows Builtin.ObjectAttr DL
section
variable {X : Cx} {pins : List (Addr × Obj)} {σ : St} {H : Hp} {s : Shared} {C f a t : Addr} {name : Str}
end
end L2
namespace L2
open PySem PySem.Spec PyProof.Rows Builtin.ObjectAttr DL
section
variable {P : Program} {w : World} {K : PySem.W.Frag} {mg : Str -> Option Value} {base : Heap} {C f : Addr} {name sn nn qual : Str} {st : Stmt} {fd : FuncData} {p1 p2 p3 p4 : Pos}
end
end L2
namespace DL
open PySem PySem.Spec PyProof.Rows L2
section
variable {X : Cx} {mk : Prop} {ρ : Rho} {O : Sto} {e : Expr} {d : D} {RX : XC} {pos np cpos : Pos} {x name : Str} {P : Post} {C : Addr} {k : Nat}
end
end DL
namespace L2
open PySem PySem.Spec PyProof.Rows Builtin.ObjectAttr
section
variable {prog : Program} {w : World} {A : Around} {E : Value -> Shared -> Prop} {s : Shared} {K : PySem.W.Frag} {x C : Addr} {n : Str} {ox od : Obj} {u : Value}
end
end L2
namespace DL
open PySem PySem.Spec PyProof.Rows L2
section
variable {X : Cx} {ρ : Rho} {O : Sto} {e : Expr} {d : D} {pos : Pos} {f : Str} {C : Addr} {q : Nat} {fs : List (Str × D)}
end
section
variable {P : Program} {w : World} {K : PySem.W.Frag} {mg : Str -> Option Value} {base : Heap} {C : Addr} {k : Nat} {x m : Str} {sp : SpX}
end
end DL
namespace L2
open PySem PySem.Spec PyProof.Rows
end L2
namespace DL
open PySem PySem.Spec PyProof.Rows L2
section
variable {X : Cx} {O : Sto}
end
section
variable {X : Cx} {mk : Prop} {ρ : Rho} {O : Sto} {P : Post} {RX : XC} {pos : Pos}
end
section
variable {X : Cx} {O : Sto} {da db ea eb : D} {k : Nat} {v : Value}
end
section
variable {X : Cx} {ρ : Rho} {O : Sto} {value o ix : Expr} {P : Post} {pos tpos : Pos} {q j : Nat} {i : Int} {xs : List D}
end
end DL
namespace L2
open PySem PySem.Spec PyProof.Rows
def zeros (n : Int) : Str := if n = 1 then "0" else ⟨(List.replicate n.toNat (("0" : Str).cps)).foldl (· ++ ·) #[]⟩
end L2
namespace DL
open PySem PySem.Spec PyProof.Rows L2
section
variable {X : Cx} {ρ : Rho} {O : Sto} {a e : Expr} {d : D}
end
section
variable {X : Cx} {ρ : Rho} {O : Sto} {elt tg iter : Expr} {ifs : List Expr} {scope : Scope} {pos : Pos} {xs : List D} {zs : List (Option D)}
end
section
variable {X : Cx} {ρ : Rho} {O : Sto} {P : Post} {pos : Pos}
variable {α : Type} {ps : List α} {f g : α -> D} {h : α -> Option D} {tg iter elt : Expr} {ifs : List Expr} {scope : Scope}
end
section
variable {P : Program} {w : World} {K : PySem.W.Frag} {mg : Str -> Option Value} {base : Heap}
end
section
variable {prog : Program} {w : World} {A : Around} {E : Value -> Shared -> Prop} {s : Shared}
end
section
variable {X : Cx} {O : Sto}
end
section
variable {X : Cx} {mk : Prop} {ρ : Rho} {O : Sto} {value o : Expr} {RX : XC} {pos pos' : Pos} {f : Str} {P : Post} {C : Addr} {q : Nat} {fs : List (Str × D)}
end
end DL
namespace DL
open PySem PySem.Spec PyProof.Rows L2 PySem.SeqAt PySem.MeetsSeq
section
variable {X : Cx} {ρ : Rho} {O : Sto} {a e : Expr} {d : D}
end
end DL
namespace DL
open PySem PySem.Spec PyProof.Rows L2 PySem.W
section
variable {prog : Program} {w : World} {A : Around} {s : Shared} {E : Value -> Shared -> Prop} {it : Addr} {Ty : String}
end
section
variable {prog : Program} {w : World} {A : Around} {s : Shared} {E : Value -> Shared -> Prop} {it l : Addr} {i : Int}
end
section
variable {X : Cx} {ρ : Rho} {O : Sto} {a : Expr} {pos p pos2 p2 : Pos} {xs : List D}
end
end DL
namespace L2
open PySem PySem.Spec PyProof.Rows
section
variable {X : Cx} {tg a b c : Expr} {p pos : Pos}
end
end L2
namespace DL
open PySem PySem.Spec PyProof.Rows L2
section
variable {X : Cx} {ρ : Rho} {O : Sto} {a b c : Expr} {p pos : Pos} {P : Post} {st : Stmt} {rest : List Stmt}
end
section
variable {X : Cx} {ρ : Rho} {O : Sto} {a b e : Expr} {pos : Pos} {P : Post} {d da db ea eb : D} {k : Nat} {xs : List D}
end
section
variable {X : Cx} {ρ : Rho} {O : Sto} {a b e : Expr} {pos p : Pos} {d : D} {x y : Str}
end
section
variable {X : Cx} {ρ : Rho} {O : Sto} {a b e : Expr} {pos p : Pos} {d : D} {x y sep : Str}
end
section
variable {X : Cx} {ρ : Rho} {O : Sto} {pos : Pos} {x y : Str}
end
end DL
namespace L2
open PySem PySem.Spec PyProof.Rows
section
variable {prog : Program} {w : World} {A : Around} {E : Value -> Shared -> Prop}
end
end L2
namespace DL
open PySem PySem.Spec PyProof.Rows L2
section
variable {X : Cx} {ρ ρ1 : Rho} {O : Sto} {e a b : Expr} {es : List Expr} {d da : D} {ds xs : List D} {R : D -> Sto -> Prop} {P : Post} {pos p : Pos} {x : Str} {q : Nat} {v : Value}
end
section
variable {X : Cx} {ρ : Rho} {O : Sto} {e a b c : Expr} {d da db y : D} {ks : List Key} {xs : List D} {k : Key} {j q : Nat} {R : D -> Sto -> Prop} {P : Post} {pos apos cpos tpos : Pos}
end
section
variable {X : Cx} {ρ : Rho} {O : Sto} {a b e : Expr} {pos p : Pos} {d : D} {ks : List Key} {xs : List D}
end
section
variable {X : Cx} {ρ : Rho} {O : Sto} {a b e : Expr} {elts : List Expr} {x1 : Nat} {pos p tp apos cpos : Pos} {d : D} {ks : List Key} {xs : List D}
end
mutual
def sbD (n : Nat) (e : D) : D -> D
 | .ptr m => if m = n then e else .ptr m
 | .tup xs => .tup (sbDs n e xs)
 | .non => .non | .bl b => .bl b | .int i => .int i | .str x => .str x | .lst xs => .lst xs | .scr xs => .scr xs | .ty t => .ty t | .fn a => .fn a | .dct ks xs => .dct ks xs
def sbDs (n : Nat) (e : D) : List D -> List D
 | [] => []
 | x :: xs => sbD n e x :: sbDs n e xs
end
section
variable {X : Cx} {ρ : Rho} {O : Sto} {rest : List Stmt} {P : Post} {n q : Nat} {ks : List Key} {xs : List D} {d : D} {C : Addr} {fs : List (Str × D)} {f : Str}
end
end DL
namespace DL
open PySem PySem.Spec PyProof.Rows L2 PySem.W
section
variable {prog : Program} {w : World} {A : Around} {s : Shared} {E : Value -> Shared -> Prop} {T : String} {r d : Addr} {n : Nat} {P : Nat -> Value -> Prop} {OK : Heap -> Prop}
end
section
variable {X : Cx} {ρ : Rho} {O : Sto} {a b e : Expr} {pos p apos cpos : Pos} {d da : D} {ks : List Key} {xs : List D} {R : D -> Sto -> Prop}
end
instance : Inhabited Str := ⟨⟨#[]⟩⟩
section
variable {X : Cx} {ρ : Rho} {O : Sto} {e : Expr} {pos p : Pos} {da : D} {ps : List Str} {xs : List D}
end
section
variable {X : Cx} {ρ : Rho} {O : Sto} {a e : Expr} {pos apos cpos : Pos} {q : Nat} {ps : List Str} {x : Str} {P : Post} {ks : List Key} {xs : List D}
end
section
variable {X : Cx} {ρ : Rho} {O : Sto} {value o : Expr} {pos pos' : Pos} {q : Nat} {C : Addr} {fs : List (Str × D)} {f : Str} {P : Post}
theorem x_fldE (hv : Ev X ρ O value λ d O' => EvP X ρ O' o (.ptr q) /\ O'[q]? = some (some (.ins C fs)) /\ P.nx ρ (O'.set q (some (.ins C (putD f d fs))))) (c : Cls X.K C) (n : Q0u X.K C f) (hz : fs.length < 1000) (hs : swapsWith value (some (.Attribute o f pos')) pos.line X.env = pure false := by rfl) :
  Ex X ρ O (.Assign [.Attribute o f pos'] value pos) P := λ G pins s σ H E I ⟨h1,h2,h3⟩ => by
 refine plainObj_wpAny_Assign_Attribute (thn (hv G pins s σ H (λ v H1 => ∃ d O1 G1,Ext G G1 /\ SA X.K G1 H1 O1 /\ Is X.K G1 d v /\ EvP X ρ O1 o (.ptr q) /\ O1[q]? = some (some (.ins C fs)) /\ P.nx ρ (O1.set q (some (.ins C (putD f d fs))))) I ⟨h1,h2,λ v d O' G' H' e s i r => ⟨d,O',G',e,s,i,r⟩⟩) λ u s1 ⟨y,H1,I1,ry,d,O1,G1,e1,sa1,i1,ho,hq,h⟩ =>
  thn (ho G1 pins s1 σ H1 (λ v H2 => ∃ G2,Ext G1 G2 /\ SA X.K G2 H2 O1 /\ Is X.K G2 (.ptr q) v) I1 ⟨sa1,h2.ext e1,λ v G' H' e s i => ⟨G',e,s,i⟩⟩) λ ov s2 ⟨x,H2,I2,rx,G2,e2,sa2,i2⟩ => ?_) hs
 obtain ⟨a,dx,vs,rfl,g1,g2,g3⟩ := sa2.ins i2 hq
 obtain rfl : ov = Value.ref a := rx
 refine setattr_ok I2 g2 c n (by rw [<- g3.len]; exact hz) ry λ s3 I3 => ⟨σ,_,I3,?_⟩
 exact h3.nx σ ρ _ G2 _ (e1.trans e2) (sa2.put (m' := .ins C (putD f d fs)) hq g1 ⟨dx,_,Q0z,g3.put (i1.ext e2)⟩) (h2.ext (e1.trans e2)) h
end
section
variable {X : Cx} {ρ : Rho} {O : Sto} {e : Expr} {qs : List Str} {xs : List D}
end
section
variable {X : Cx} {ρ : Rho} {O : Sto}
end
section
variable {X : Cx} {ρ : Rho} {O : Sto} {a : Expr} {pos apos cpos : Pos} {q : Nat} {ks : List Key} {xs : List D} {P : Post}
end
end DL
namespace L2
open PySem PySem.Spec PyProof.Rows
end L2
namespace DL
open PySem PySem.Spec PyProof.Rows L2
end DL
namespace DL
open PySem PySem.Spec PyProof.Rows L2 PySem.W
section
variable {X : Cx} {O : Sto} {da db ea : D} {k : Nat} {xs : List D}
end
section
variable {X : Cx} {ρ : Rho} {O : Sto} {a e : Expr} {pos apos cpos : Pos} {q : Nat} {xs : List D} {P : Post}
theorem x_appendE (ho : EvP X ρ O a (.ptr q)) (he : Ev X ρ O e λ d O' => O'[q]? = some (some (.lst xs)) /\ P.nx ρ (O'.set q (some (.lst (xs ++ [d]))))) (hq : O[q]? = some (some (.lst xs))) (hz : xs.length < sizeLine)
  (hbase : attributeBase a ("append" : Str) X.env (eval a X.env) = eval a X.env := by rfl) (hline : (apos.endLine == cpos.line) = true := by rfl) (hst : starEach [e] X.env = [(false,eval e X.env)] := by rfl)
  (hsw : swapsWith (.Call (.Attribute a ("append" : Str) apos) [e] [] cpos) none pos.line X.env = pure false := by rfl) : Ex X ρ O (.Expr (.Call (.Attribute a ("append" : Str) apos) [e] [] cpos) pos) P := λ G =>
 PS.imp (ps_expr (pe_bm PySem.F.plainAttrs_list PySem.F.slot_list_append PySem.F.type_list_append mt_append (ho G)
  (Q4C (te := λ σ H Q => ∃ G1,SA X.K G1 H O /\ EnvR X.K G1 σ ρ /\ ∀ v d O' G' H',Ext G1 G' -> SA X.K G' H' O' -> Is X.K G' d v -> (O'[q]? = some (some (.lst xs)) /\ P.nx ρ (O'.set q (some (.lst (xs ++ [d]))))) -> Q v H') (λ pins s σ H Q I ⟨G1,q⟩ => he G1 pins s σ H Q I q) pa_nil hst) hbase
  (by rw [hst]; rfl) hline hst (by rfl)) hsw) λ E σ H ⟨q1,q2,q3⟩ => ⟨q1,q2,λ v G1 H1 e1 s1 i1 => by
   cases i1 with
   | ptr _ ha =>
   obtain ⟨a1,g0,g1,vs,g2,g3⟩ := s1.mt q _ hq
   obtain rfl := Option.some.inj (ha.symm.trans g0)
   refine ⟨.inl ⟨rfl,vs,SqL.of g2⟩,G1,s1,q2.ext e1,λ w d O' G2 H2 e2 s2 i2 ⟨hq2,h⟩ => ?_⟩
   obtain ⟨a2,g7,g4,us,g5,g6⟩ := s2.mt q _ hq2
   obtain rfl := Option.some.inj ((e2.at g0).symm.trans g7)
   refine ⟨_,us,w,rfl,rfl,g5,by rw [<- g6.length]; exact hz,?_⟩
   exact q3.nx σ ρ _ G2 _ (e1.trans e2) (s2.put (m' := .lst (xs ++ [d])) hq2 g7 ⟨_,Q0z,g6.append (.cons i2 .nil)⟩) (q2.ext (e1.trans e2)) h⟩
end
section
variable {X : Cx} {ρ : Rho} {O : Sto} {e a b c : Expr} {body : List Stmt} {d da db : D} {xs : List D} {ks : List Key} {ps : List Str} {R : D -> Sto -> Prop} {P : Post} {pos p : Pos} {j n : Nat}
end
section
variable {X : Cx} {ρ : Rho} {O : Sto} {e a b c iter tg : Expr} {st : Stmt} {body rest : List Stmt} {d da db : D} {xs : List D} {ks : List Key} {k : Key} {ob : Obj} {vs : List V} {ps : List Str} {R : D -> Sto -> Prop} {P : Post} {pos p : Pos} {j n : Nat}
end
section
variable {X : Cx} {O : Sto} {da db : D} {ks : List Key} {ns : List Int} {j : Nat}
end
section
variable {X : Cx} {ρ : Rho} {O : Sto} {a : Expr} {da : D} {xs : List D} {ks : List Key} {pos : Pos}
end
mutual
def ndD : D -> Bool
 | .dct _ _ => false
 | .tup xs => ndDs xs
 | .lst xs => ndDs xs
 | .scr xs => ndDs xs
 | .non => true | .bl _ => true | .int _ => true | .str _ => true | .ptr _ => true | .ty _ => true | .fn _ => true
def ndDs : List D -> Bool
 | [] => true
 | x :: xs => ndD x && ndDs xs
end
section
variable {K : PySem.W.Frag} {G : Wd} {p : Addr} {ob : Obj} {kvs : List (Key × V)}
end
section
variable {X : Cx} {ρ : Rho} {O : Sto} {e a b : Expr} {d d0 : D} {xs : List D} {ks : List Key} {k : Key} {R : D -> Sto -> Prop} {pos : Pos} {n : Nat}
end
section
variable {X : Cx} {ρ : Rho} {O : Sto} {a b : Expr} {d da db : D} {ks : List Key} {k : Key} {ns : List Int} {R : D -> Sto -> Prop} {pos : Pos} {j : Nat}
end
section
variable {X : Cx} {ρ : Rho} {O : Sto} {e a b : Expr} {d : D} {xs : List D} {ks : List Key} {R : D -> Sto -> Prop} {RT : Bool -> Sto -> Prop} {pos : Pos} {n : Nat}
end
end DL
namespace L2
open PySem PySem.Spec PyProof.Rows
section
variable {M : Model} {A : Around} {E : Value -> Shared -> Prop} {s : Shared} {B : Heap} {l : List Env} {a : Addr} {cls a0 : Value}
end
section
variable {CX : CXT} {P : Program} {w : World} {K : PySem.W.Frag} {mg : Str -> Option Value} {base : Heap} {N : List Str} {qual : Str} {scope : Scope} {f : Addr} {cd : Value} {A : Around} {outer : List Env} {s : Shared} {H : Hp} {E : XK}
end
end L2
namespace DL
open PySem PySem.Spec PyProof.Rows L2
section
variable {X : Cx} {N : List Str} {scope : Scope} {s2 s9 s10 : Shared} {H2 H9 H' : Hp} {fp : List Addr} {F : Value -> Shared -> Prop} {pins pinsY : List (Addr × Obj)} {σ σ9 : L2.St} {a C : Addr} {od : Option Addr} {B : Heap} {Q : Value -> Shared -> Prop} {acc : Value}
end
section
variable {X : Cx} {ρ : Rho} {O : Sto} {elt tg iter : Expr} {scope : Scope} {pos : Pos} {xs zs : List D} {RX : XC}
end
section
variable {X : Cx} {ρ : Rho} {O : Sto} {e c elt tg iter : Expr} {scope : Scope} {pos p : Pos} {xs : List D} {RX : XC} {st : Stmt} {rest body orelse : List Stmt} {P : Post} {R : D -> Sto -> Prop}
end
section
variable {P : Program} {w : World} {K : PySem.W.Frag} {mg : Str -> Option Value} {base : Heap}
end
section
variable {prog : Program} {w : World} {A : Around} {E : Value -> Shared -> Prop} {s : Shared}
end
section
variable {X : Cx} {O : Sto} {d : D} {q : Nat} {C ah : Addr} {fs : List (Str × D)}
end
end DL
namespace L2
open PySem PySem.Spec PyProof.Rows
end L2
namespace DL
open PySem PySem.Spec PyProof.Rows L2
section
variable {X : Cx} {ρ : Rho} {O : Sto} {a b a2 b2 : Expr} {d d2 : D} {k k2 : Key} {R : D -> Sto -> Prop} {pos : Pos}
end
end DL
namespace DL
open PySem PySem.Spec PyProof.Rows L2 PySem.W
section
open PySem.AutoSeq1 (wpAny_loadPart')
open PySem.SeqAt PySem.MeetsSeq PySem.MeetsSeq2 PySem.MeetsSeq3 PySem.SeqRoads2
end
section
variable {X : Cx} {ρ : Rho} {O : Sto} {da db : D} {ks : List Key} {ns : List Int} {j : Nat} {ts : List D}
end
end DL
namespace DL
open PySem PySem.Spec PyProof.Rows L2
section
variable {X : Cx} {ρ : Rho} {O : Sto} {da ea : D} {xs : List D} {k : Nat} {es : List Expr} {R : D -> Sto -> Prop} {pos : Pos}
end
section
variable {P : Program} {w : World} {K : PySem.W.Frag} {mg : Str -> Option Value} {base : Heap} {C : Addr} {j k : Nat} {x m : Str} {sp sp' : SpD}
theorem Q0h.mono (M : Q0h P w K mg base C j m sp) (h : j <= k) : Q0h P w K mg base C k m sp := let ⟨f,fd,ps,h1,h2⟩ := M.ex; ⟨⟨f,fd,ps,h1.mono h,h2⟩,M.cls⟩
end
section
variable {X : Cx} {mk : Prop} {ρ : Rho} {O : Sto} {x y : Str} {f : Addr} {p pos : Pos} {e : Expr} {es : List Expr} {ds : List D} {R : D -> Sto -> Prop} {RX : XC}
end
end DL
set_option maxHeartbeats 2000000
namespace DL
open PySem PySem.Spec PyProof.Rows L2 PySem.W
section
variable {prog : Program} {w : World} {A : Around} {E : Value -> Shared -> Prop} {s : Shared} {n l1 l2 l3 i1 i2 i3 : Nat} {k1 k2 k3 : Bool} {xs ys zs : Array Value} {f0 f1 a b c v : Value}
end
section
variable {prog : Program} {w : World} {A : Around} {E : Value -> Shared -> Prop} {s : Shared} {n l1 l2 l3 i1 i2 i3 i : Nat} {k1 k2 k3 : Bool} {xs ys zs : Array Value} {f0 f1 a b c v : Value}
end
section
variable {X : Cx} {ρ : Rho} {O : Sto} {a b c : Expr} {da db dc : D} {pos p : Pos} {xs ys zs : List D}
end
end DL
set_option maxHeartbeats 1000000
namespace DL
open PySem PySem.Spec PyProof.Rows L2
section
variable {X : Cx} {ρ : Rho} {O : Sto} {elt tg iter : Expr} {scope : Scope} {pos : Pos} {xs zs : List D}
theorem comp_coreS (S : Nat -> Sto) (hS0 : S 0 = O) (N : List Str) (js : List Nat) (ρ0 : Rho) (hi : EvI X ρ O tg iter xs) (hc : X.calm = true) (hk : scope.kind = .function) (hfr : FreeOk X scope) (hnm : ∀ x ∈ scope.names,x.2 = .local -> scope.names.lookup x.1 = some .local)
    (hl0 : ρ0.length = N.length)
    (h0 : ∀ (i : Nat) (d : D),ρ0[i]? = some (some d) -> ∃ (x : Str) (j : Nat),N[i]? = some x /\ scope.names.lookup x = some .free /\ (∀ y ∈ scope.names,y.1 = x -> y.2 ≠ .cell) /\ X.N[j]? = some x /\ ρ[j]? = some (some d) /\ Vis X.env.scope x)
    (hzl : zs.length = xs.length) (hsz : xs.length <= sizeLine)
    (turn : ∀ (s : Shared) (H : Hp) (fp : List Addr) (i : Nat) (x : D) (z : D),xs[i]? = some x -> zs[i]? = some z -> ∃ ρ1,Tg (cxC X N scope s H fp) tg x ρ0 ρ1 /\ ρ1.length = ρ0.length /\ (∀ (j : Nat) (d : D),ρ0[j]? = some (some d) -> ρ1[j]? = some (some d)) /\ Ev (cxC X N scope s H fp) ρ1 (S i) elt λ d O' => d = z /\ O' = S (i + 1))
    {use : Option (Value -> Sem Unit)} {pins : List (Addr × Obj)} {s : Shared} {σ : L2.St} {H : Hp} {G : Wd} {Q : Value -> Shared -> Prop} (I : L2.Inv X pins σ H s) (sa : SA X.K G H O) (en : EnvR X.K G σ ρ)
    (fin : ∀ (D C : Addr) (s' : Shared) (H5 : Hp) (G5 : Wd) (vs : List V),L2.Inv X pins σ (upd H5 D (.lst vs)) s' -> Ext G G5 -> SA X.K G5 H5 (S xs.length) -> H5 D = none -> Iss X.K G5 zs vs -> FpOk X pins (upd H5 D (.lst vs)) C -> (∃ m,s'.heap.Ns C m) -> compPost (model X.prog X.w) X.A X.xe use Q (.ref D) C (.ok .next) s')
    (hs : ∀ x,foldedSetIterable iter X.env x = pure x := by intro _; rfl) :
    wpAny (model X.prog X.w) X.A (comprehension (.ListComp elt [⟨tg,iter,[],0⟩] scope pos) scope X.env (firstIterPos [⟨tg,iter,[],0⟩] pos) (newList []) false (eval iter X.env) use) Q X.xe s := by
  refine wpAny_comprehension_free rfl hs (clos_eq λ y hy e => I.ok.has _ (hfr y hy e)) hk hnm (thn (hi G pins s σ H (λ J H1 => ∃ G1,Ext G G1 /\ SA X.K G1 H1 O /\ Q3b X.K G1 J xs) I ⟨sa,en,λ J G1 H1 e1 s1 y1 => ⟨G1,e1,s1,y1⟩⟩) λ v s1 h1 => thn h1 λ itv s2 h2 => ?_)
  obtain ⟨it,fp,tn,J,H2,e,I2,T,st2,f2,G2,e2,sa2,Yi⟩ := h2
  subst e
  have ho2 : ∀ b ∈ fp,∃ o,s2.heap.get? b = some o := λ b hb => let ⟨o,q,_⟩ := T.obj 0 _ st2 b hb; ⟨o,q⟩
  have hlt : ∀ b ∈ fp,b < s2.heap.objs.size := λ b hb => let ⟨o,q⟩ := ho2 b hb; Heap.lt_size q
  unfold newList
  refine wpAny_newObj_type (newEnv_comp λ bb hbb => ?_)
  have hbb' : bb = X.env.builtins := hbb
  subst hbb'
  have hz1 : (s2.heap.push { cls := .type "list",dict := none,data := .seq ([] : List Value).toArray }).objs.size = s2.heap.objs.size + 1 := Heap.size_push ..
  dsimp only
  rw [hz1]
  generalize hD : s2.heap.objs.size = dd at hz1 ⊢
  -- the block's own context
  have en2 : EnvR X.K G2 σ ρ := en.ext e2
  obtain ⟨σ0,hσl,hσ0⟩ := ex_list (λ i (o : Option V) => (∀ d,ρ0[i]? = some (some d) -> ∃ v,o = some v /\ Is X.K G2 d v) /\ ∀ v,o = some v -> ∃ (x : Str) (j : Nat),N[i]? = some x /\ scope.names.lookup x = some .free /\ (∀ y ∈ scope.names,y.1 = x -> y.2 ≠ .cell) /\ X.N[j]? = some x /\ σ[j]? = some (some v) /\ Vis X.env.scope x) N.length (λ i hi => by
    cases q : ρ0[i]? with
    | none => exact ⟨none,And.intro (λ d z => nomatch z) (λ v z => nomatch z)⟩
    | some o =>
      cases o with
      | none => exact ⟨none,And.intro (λ d z => nomatch z) (λ v z => nomatch z)⟩
      | some d =>
        obtain ⟨x,j,q1,q2,q3,q4,q5,q6⟩ := h0 i d q
        obtain ⟨v,q7,q8⟩ := en2.get j d q5
        exact ⟨some v,And.intro (λ d' z => by cases z; exact ⟨v,rfl,q8⟩) (λ v' z => by cases z; exact ⟨x,j,q1,q2,q3,q4,q7,q6⟩)⟩)
  have en0 : EnvR X.K G2 σ0 ρ0 := ⟨hσl.trans hl0.symm,λ i d e => by
    have hi : i < σ0.length := by rw [hσl,<- hl0]; exact (List.getElem?_eq_some_iff.mp e).1
    obtain ⟨v,e1,e2⟩ := (hσ0 i σ0[i] (List.getElem?_eq_getElem hi)).1 d e
    exact ⟨v,by rw [List.getElem?_eq_getElem hi,e1],e2⟩⟩
  have I3 := inv_comp (N := N) (scope := scope) (fp := fp) (σ0 := σ0) I2 f2 ho2 hk hfr hσl (λ i v e => (hσ0 i _ e).2 v rfl) s2.toks { cls := .type "list",dict := none,data := .seq ([] : List Value).toArray }
  generalize hY : cxC X N scope s2 H2 fp = Y at I3
  have hD1 : (pushCells ((s2.heap.push { cls := .type "list",dict := none,data := .seq ([] : List Value).toArray }).push { cls := .type "dict",data := .dict #[] }) scope.names).get? dd = some (lstO []) := by
    refine pushCells_keeps _ _ _ _ (Heap.get?_push_of_some _ ?_)
    rw [<- hD]
    exact Heap.get?_push_size _ rfl
  have hHD : H2 dd = none := I2.hok.fresh (by rw [hD]; exact Nat.le_refl _)
  have hsD : s2.heap.get? dd = none := Heap.get?_none_of_le (by rw [hD]; exact Nat.le_refl _)
  have hDC : dd ≠ Y.env.locals := by
    rw [<- hY]; show dd ≠ s2.heap.objs.size + 1; rw [hD]; exact Nat.ne_of_lt (Nat.lt_succ_self _)
  have hfs : ∀ b ∈ frs X.stack,b < s2.heap.objs.size := λ b hb => by
    rcases List.mem_cons.mp (I2.stkSub b hb) with q | q
    · rw [q]; exact I2.lt
    · exact Nat.lt_of_not_le λ z => I2.nofs z q
  have hYfs : Y.fs = frs X.stack := by rw [<- hY]; rfl
  have hDfs : dd ∉ Y.fs := λ z => by rw [hYfs] at z; have := hfs dd z; rw [hD] at this; exact Nat.lt_irrefl _ this
  have hYex : Y.ex = fp := by rw [<- hY]; rfl
  have hYpn : Y.pn = [] := by rw [<- hY]; rfl
  have hYxe : Y.xe = λ _ _ => False := by rw [<- hY]; rfl
  have hYs : Y.s₀.heap.objs.size = dd := by rw [<- hY]; exact hD
  have hYc : ∀ x c,Y.env.cells.lookup x = some c -> c ≠ dd /\ ∀ b ∈ fp,c ≠ b := λ x c e => by
    refine ⟨?_,λ b hb => ?_⟩
    · intro z
      subst z
      obtain ⟨v,o,q1,q2⟩ := I3.cell x c e
      rw [hD1] at q1; cases q1; cases q2
    · have := I3.ok.exf b (by rw [hYex]; exact hb)
      exact this.2 x c e
  have fpY : ∀ {H' : Hp} {pl : List (Addr × Obj)},(∀ b ∈ fp,H' b = none) -> (∀ p ∈ pl,p.1 = dd) -> ∀ b ∈ fp,FpOk Y pl H' b := λ hn hp b hb => ⟨hn b hb,(I3.ok.exf b (by rw [hYex]; exact hb)).1,I3.ok.exfs b (by rw [hYex]; exact hb),.inl (by rw [hYex]; exact hb),λ x c e => (hYc x c e).2 b hb,λ p hq => by
    rw [hYpn,List.nil_append] at hq
    rw [hp p hq]
    exact Nat.ne_of_gt (by rw [<- hD]; exact hlt b hb)⟩
  have I4 : L2.Inv Y [(dd,lstO [])] σ0 H2 { s2 with heap := pushCells ((s2.heap.push { cls := .type "list",dict := none,data := .seq ([] : List Value).toArray }).push { cls := .type "dict",data := .dict #[] }) scope.names,toks := s2.toks } := I3.pins_of λ p hp => by
    rw [List.mem_singleton.mp hp]
    exact ⟨hD1,hHD,hDC,hDfs,λ v z => by cases z⟩
  have st4 : tn 0 (pushCells ((s2.heap.push { cls := .type "list",dict := none,data := .seq ([] : List Value).toArray }).push { cls := .type "dict",data := .dict #[] }) scope.names) := T.keep 0 _ _ st2 λ b hb o e => pushCells_keeps _ _ b o (Heap.get?_push_of_some _ (Heap.get?_push_of_some _ e))
  have hYp : Y.prog = X.prog := by rw [<- hY]; rfl
  have hYw : Y.w = X.w := by rw [<- hY]; rfl
  have hYK : Y.K = X.K := by rw [<- hY]; rfl
  have hYA : Y.A = X.A := by rw [<- hY]; rfl
  have hYcm : Y.calm = true := by rw [<- hY]; exact hc
  have loop : ∀ s3 : Shared,s3 = { s2 with heap := pushCells ((s2.heap.push { cls := .type "list",dict := none,data := .seq ([] : List Value).toArray }).push { cls := .type "dict",data := .dict #[] }) scope.names } ->
      codeAny (model X.prog X.w) X.A (.compLoop (.ListComp elt [⟨tg,iter,[],0⟩] scope pos) 0 (.ref it) (.ref dd) Y.env) (compPost (model X.prog X.w) X.A X.xe use Q (.ref dd) (dd + 1)) s3 := by
    rintro s3 rfl
    refine Q4N (λ n s' => ∃ (i : Nat) (G' : Wd) (σ' : L2.St) (H' : Hp) (vs : List V) (its : List Value),n = xs.length - i /\ i <= xs.length /\ L2.Inv Y [(dd,lstO its)] σ' H' s' /\ tn i s'.heap /\ (∀ b ∈ fp,H' b = none) /\ Ext G2 G' /\ SA X.K G' H' (S i) /\ EnvR X.K G' σ' ρ0 /\
      Iss X.K G' (zs.take i) vs /\ Vals vs its /\ its.length <= i) ?_ xs.length _ ⟨0,G2,σ0,H2,[],[],rfl,Nat.zero_le _,I4,st4,λ b hb => (f2 b hb).1,Ext.refl _,hS0 ▸ sa2,en0,.nil,.nil,Nat.le_refl _⟩
    rintro n s5 F ⟨i,G5,σ5,H5,vs,its,rfl,hil,I5,st5,fr5,e5,sa5,en5,is5,va5,hl5⟩
    by_cases hlt5 : i < xs.length
    · have hx : xs[i]? = some xs[i] := List.getElem?_eq_getElem hlt5
      have hzi : i < zs.length := by omega
      have hz : zs[i]? = some zs[i] := List.getElem?_eq_getElem hzi
      generalize xs[i] = x at hx
      generalize zs[i] = z at hz
      have it5 := T.item Y hYp hYw hYK hYcm i [(dd,lstO its)] s5 σ5 H5 F I5 (fpY fr5 (λ p hp => by rw [List.mem_singleton.mp hp])) st5 (Yi.go i H5 (e5.g.trans sa5.sub) hlt5)
      rw [hYA] at it5
      refine thn it5 λ r s6 ⟨u,hr,h6⟩ => ?_
      subst hr
      refine thn h6 λ _ s7 ⟨xv,H7,I7,r7,y7,st7,fr7⟩ => ?_
      obtain ⟨x',G7,hx',e7,sa7,ix⟩ := Yi.yld i xv H5 H7 G5 (S i) e5 sa5 y7 hlt5
      have : x' = x := Option.some.inj (hx'.symm.trans hx)
      subst this
      have I7' := I7.pinned (fpY fr7 (λ p hp => by rw [List.mem_singleton.mp hp])) (T.obj _ _ st7)
      obtain ⟨ρ1,tg1,hl1,hs1,kp1⟩ := turn s2 H2 fp i x' z hx hz
      rw [hY] at tg1 kp1
      have xeF : ∀ {α : Type} {t : Sem α} {P : α -> Shared -> Prop} {q : Shared},wpAny (model Y.prog Y.w) Y.A t P Y.xe q -> wpAny (model X.prog X.w) X.A t P F q := λ h => by
        rw [hYp,hYw,hYA,hYxe] at h
        exact wpAny_mono h (λ _ _ q => q) λ _ _ q => q.elim
      refine thn (xeF (tg1 G7 _ s7 σ5 H7 xv u (λ σ' H' => EnvR X.K G7 σ' ρ1 /\ H' = H7) I7' r7 (by
        rw [hYK]
        exact ⟨ix,sa7.sub,en5.ext e7,λ σ' q => ⟨q,rfl⟩⟩))) λ _ s8 ⟨σ8,H8,I8,en8,hH8⟩ => ?_
      subst hH8
      -- back to the invariant,with or without one more
      have again : ∀ {s9 : Shared} {H9 : Hp} {G9 : Wd} {its' : List Value} {vs' : List V},L2.Inv Y ((dd,lstO its') :: Q2C fp s7.heap) σ8 H9 s9 -> Ext G7 G9 -> SA X.K G9 H9 (S (i + 1)) -> Iss X.K G9 (zs.take (i + 1)) vs' -> Vals vs' its' -> its'.length <= i + 1 ->
          ∃ m,m < xs.length - i /\ ∃ (i : Nat) (G' : Wd) (σ' : L2.St) (H' : Hp) (vs : List V) (its : List Value),m = xs.length - i /\ i <= xs.length /\ L2.Inv Y [(dd,lstO its)] σ' H' s9 /\ tn i s9.heap /\ (∀ b ∈ fp,H' b = none) /\ Ext G2 G' /\ SA X.K G' H' (S i) /\ EnvR X.K G' σ' ρ0 /\
            Iss X.K G' (zs.take i) vs /\ Vals vs its /\ its.length <= i := λ {s9 H9 G9 its' vs'} I9 e9 sa9 is9 va9 hl9 => by
        refine ⟨xs.length - (i + 1),by omega,i + 1,G9,σ8,H9,vs',its',rfl,hlt5,I9.pins_of (λ p hp => I9.pin p (by rw [hYpn,List.nil_append]; rw [List.mem_singleton.mp hp]; exact List.mem_cons_self)),T.keep _ _ _ st7 λ b hb o e => (I9.pin (b,o) (by rw [hYpn,List.nil_append]; exact List.mem_cons_of_mem _ (Q2m hb e))).1,λ b hb => ?_,(e5.trans e7).trans e9,sa9,(en8.weak hl1.symm hs1).ext e9,is9,va9,hl9⟩
        obtain ⟨o,e,_⟩ := T.obj _ _ st7 b hb
        exact (I9.pin (b,o) (by rw [hYpn,List.nil_append]; exact List.mem_cons_of_mem _ (Q2m hb e))).2.1
      have more : ∀ {s9 : Shared} {G9 : Wd} {H9 : Hp},L2.Inv Y ([(dd,lstO its)] ++ Q2C fp s7.heap) σ8 H9 s9 -> Ext G7 G9 -> SA X.K G9 H9 (S i) -> Ev Y ρ1 (S i) elt (λ d O' => d = z /\ O' = S (i + 1)) -> wpAny (model X.prog X.w) X.A (eval elt Y.env) (λ x s5 => wpAny (model X.prog X.w) X.A (call (.builtin "list.append") [.ref dd,x]) (λ _ s6 => ∃ m,m < xs.length - i /\ ∃ (i : Nat) (G' : Wd) (σ' : L2.St) (H' : Hp) (vs : List V) (its : List Value),m = xs.length - i /\ i <= xs.length /\ L2.Inv Y [(dd,lstO its)] σ' H' s6 /\ tn i s6.heap /\ (∀ b ∈ fp,H' b = none) /\ Ext G2 G' /\ SA X.K G' H' (S i) /\ EnvR X.K G' σ' ρ0 /\
            Iss X.K G' (zs.take i) vs /\ Vals vs its /\ its.length <= i) F s5) F s9 := λ {s9 G9 H9} I9 e9 sa9 ev => by
        refine thn (xeF (ev G9 _ s9 σ8 H9 (λ v H' => ∃ G',Ext G9 G' /\ SA X.K G' H' (S (i + 1)) /\ Is X.K G' z v) I9 (by
          rw [hYK]
          exact ⟨sa9,en8.ext e9,λ v d O' G' H' q1 q2 q3 q4 => by obtain ⟨rfl,rfl⟩ := q4; exact ⟨G',q1,q2,q3⟩⟩))) λ uy s10 ⟨vy,H10,I10,r10,G10,e10,sa10,iy⟩ => ?_
        have p10 := I10.pin (dd,lstO its) (by rw [hYpn,List.nil_append]; exact List.mem_append_left _ List.mem_cons_self)
        refine append_at (hsz := by show its.toArray.size <= sizeLine; rw [List.size_toArray]; omega) p10.1 λ h' hs' hD' => ?_
        have Ia : L2.Inv Y (Q2C fp s7.heap) σ8 H10 s10 := I10.pins_of λ p hp => I10.pin p (by rw [hYpn,List.nil_append]; exact List.mem_append_right _ hp)
        have Ib : L2.Inv Y (Q2C fp s7.heap) σ8 H10 { s10 with heap := h' } := Ia.turned (t' := s10.toks) (λ b o hb e => (hs'.2 b hb).trans e) p10.2.1 hDC (.inr (by rw [hYs]; exact Nat.le_refl _)) (λ x c e => (hYc x c e).1) (λ p hp => by
          rw [hYpn,List.nil_append] at hp
          obtain ⟨hb,_⟩ := of_pinsAt hp
          exact Nat.ne_of_lt (by rw [<- hD]; exact hlt p.1 hb))
        have Ic : L2.Inv Y ((dd,lstO (its ++ [uy])) :: Q2C fp s7.heap) σ8 H10 { s10 with heap := h' } := Ib.pins_of λ p hp => by
          rcases List.mem_cons.mp hp with q | q
          · rw [q]
            refine ⟨hD'.trans ?_,p10.2.1,hDC,hDfs,λ v z => by cases z⟩
            congr 1
            simp [lstO]
          · exact Ib.pin p (by rw [hYpn,List.nil_append]; exact q)
        refine again Ic (e9.trans e10) sa10 (vs' := vs ++ [vy]) ?_ (va5.append (.cons r10 .nil)) (by rw [List.length_append,List.length_singleton]; omega)
        rw [List.take_succ,hz]
        exact (is5.ext ((e7.trans e9).trans e10)).append (.cons iy .nil)
      unfold compTests
      refine wpAny_bind (wpAny_tests_nil (wpAny_pure ?_))
      simp only [if_true]
      exact more I8 (Ext.refl _) sa7 kp1
    · have hie : i = xs.length := by omega
      subst hie
      have dn := T.done Y hYp hYw hYK hYcm xs.length [(dd,lstO its)] s5 σ5 H5 F I5 (fpY fr5 (λ p hp => by rw [List.mem_singleton.mp hp])) st5 (Yi.stop _ H5 (e5.g.trans sa5.sub) (Nat.le_refl _))
      rw [hYA] at dn
      refine thn dn λ r s6 ⟨hr,I6⟩ => ?_
      subst hr
      have p6 := I6.pin (dd,lstO its) (by rw [hYpn,List.nil_append]; exact List.mem_cons_self)
      rw [<- hzl,List.take_length] at is5
      have vl : vs.length <= sizeLine := by rw [va5.length]; omega
      have Ix : L2.Inv X pins σ (upd H5 dd (.lst vs)) s6 := by
        have un := I6.base
        rw [hYfs,hYex,<- hY] at un
        have un : Un (frs X.stack) fp H2 H5 s2.heap s6.heap := un
        refine I2.call' (ch := fp) (I6.os.trans (by rw [<- hY]; rfl)) (Un_more un hHD hsD) ?_ I6.bare λ b hb => ?_
        · have hk6 := I6.hok
          rw [hYp,hYw] at hk6
          exact HOk_more hk6 p6.2.1 ⟨vl,its,its.length,va5,p6.1⟩
        · obtain ⟨_,f1,_,f3,f4,f5⟩ := f2 b hb
          exact ⟨f3,f1,f4,f5⟩
      refine fin dd (dd + 1) s6 _ _ vs Ix (e2.trans e5) sa5 p6.2.1 is5 ?_ ?_
      · have hC : dd + 1 = Y.env.locals := by rw [<- hY]; show dd + 1 = s2.heap.objs.size + 1; rw [hD]
        have ge : s2.heap.objs.size <= dd + 1 := by rw [hD]; exact Nat.le_succ _
        have := I2.fpOk (H' := upd H5 dd (.lst vs)) ge (by
          have q := I6.free
          rw [<- hC] at q
          rw [Q0x (show dd + 1 ≠ dd from Nat.succ_ne_self _)]
          exact q)
        exact this
      · obtain ⟨m,hn,_⟩ := I6.loc
        rw [<- hY] at hn
        have hn : s6.heap.Ns (s2.heap.objs.size + 1) m := hn
        rw [hD] at hn
        exact ⟨m,hn⟩
  have eY : Y.env = { scope := relabel scope X.env,locals := dd + 1,globals := X.env.globals,cells := cellsFrom (dd + 1 + 1) scope.names (Q2e X.env scope.names []),qual := X.env.qual,func := none,code := X.env.code,frame := X.env.frame,builtins := X.env.builtins } := by
    rw [<- hY]
    show compEnvC _ _ _ _ = _
    rw [hD]
    rfl
  rw [<- eY]
  exact codeAny_compStart_list (loop _ rfl) (T.self X.A 0 _ _ _ st4 (loop _ rfl))
def CTurnS (X : Cx) (T F : List Str) (js : List Nat) (ρ : Rho) (Oa Ob : Sto) (scope : Scope) (tg elt : Expr) (x z : D) : Prop :=
 ∀ (s : Shared) (H : Hp) (fp : List Addr),∃ ts : Rho,ts.length = T.length /\ Tg (cxC X (T ++ F) scope s H fp) tg x (T.map (λ _ => (none : Option D)) ++ frOf ρ js) (ts ++ frOf ρ js) /\ Ev (cxC X (T ++ F) scope s H fp) (ts ++ frOf ρ js) Oa elt λ d O' => d = z /\ O' = Ob
theorem ev_compS {R : D -> Sto -> Prop} (S : Nat -> Sto) (hS0 : S 0 = O) (T F : List Str) (js : List Nat) (hi : EvI X ρ O tg iter xs) (hzl : zs.length = xs.length) (hsz : xs.length <= sizeLine) (turn : ∀ (i : Nat) (x z : D),xs[i]? = some x -> zs[i]? = some z -> CTurnS X T F js ρ (S i) (S (i + 1)) scope tg elt x z) (hR : R (.lst zs) (S xs.length))
  (hfl : F.length = js.length) (hB : freeB X.N X.env.scope.names scope.names F js = true) (hc : X.calm = true) (hk : scope.kind = .function) (hs : ∀ x,foldedSetIterable iter X.env x = pure x) :
  Ev X ρ O (.ListComp elt [⟨tg,iter,[],0⟩] scope pos) R := λ G pins s σ H Q I ⟨h1,h2,h3⟩ => by
 rw [eval_ListComp]
 refine comp_coreS S hS0 (T ++ F) js (T.map (λ _ => (none : Option D)) ++ frOf ρ js) hi hc hk (freeB_free hB) (freeB_loc hB) (by simp [frOf,hfl]) (freeB_at hB) hzl hsz (λ s H fp i x z q1 q2 => ?_) I h1 h2 (λ dd C s' H5 G5 vs I' e' sa5 hd5 is5 fo ns => ?_) hs
 ·obtain ⟨ts,t1,t2,t3⟩ := turn i x z q1 q2 s H fp
  obtain ⟨u1,u2⟩ := sub_fr (fr := frOf ρ js) t1
  exact ⟨_,t2,u1,u2,t3⟩
 ·obtain ⟨m,hn⟩ := ns
  refine ⟨m,hn,λ h' hs' => ?_⟩
  obtain ⟨f0,f1,f2,f3,f4,f5⟩ := fo
  obtain ⟨e2,s2⟩ := sa5.laid (o := .lst vs) hd5
  exact ⟨.ref dd,upd H5 dd (.lst vs),I'.turned (t' := s'.toks) (λ b o hb e => (hs'.2 b hb).trans e) f0 f1 f3 f4 f5,rfl,h3 _ _ _ _ _ (e'.trans e2) s2 (.lst Q0z (is5.ext e2)) hR⟩
end
section
variable {X : Cx} {ρ : Rho} {O : Sto} {e : Expr} {es : List Expr} {R : D -> Sto -> Prop} {x : Str} {p pos : Pos}
theorem ev_callTyA {T : String} (hm : X.mg x = none) (ha : EvAs X ρ O (e :: es) λ ds O1 => ∃ d,Q2w X O1 (.type T) ds d /\ R d O1) (hg : Gl X x := by rfl) (hv : bootBuiltins x = some (.type T) := by first | rfl | decide +kernel) (hn : x ≠ "__name__" := by decide) (hdb : (x == ("__debug__" : Str)) = false := by decide)
  (he : starEach (e :: es) X.env = (false,eval e X.env) :: starEach es X.env := by rfl) (hpl : (backTo pos (starEach es X.env)).any (·.1) = false := by rfl) : Ev X ρ O (.Call (.Name x p) (e :: es) [] pos) R := λ G =>
 PE.imp (pe_callTy (r := λ vs H Q => ∃ G1 O1 ds d,SA X.K G1 H O1 /\ Iss X.K G1 ds vs /\ Q2w X O1 (.type T) ds d /\ ∀ w G' H',Ext G1 G' -> SA X.K G' H' O1 -> Is X.K G' d w -> Q w H') (λ pins s σ H xs us Q I r ⟨G1,O1,ds,d,q1,q2,hc,q3⟩ => hc G1 pins s σ H xs us Q I r ⟨q1,q2,q3⟩) hg hm hv (ha G) hn hdb he hpl)
  λ σ H Q ⟨h1,h2,h3⟩ => ⟨h1,h2,λ vs ds O1 G1 H1 e1 s1 i1 ⟨d,hc,hR⟩ => ⟨G1,O1,ds,d,s1,i1,hc,λ w G2 H2 e2 s2 i2 => h3 w d O1 G2 H2 (e1.trans e2) s2 i2 hR⟩⟩
end
section
variable {X : Cx} {ρ : Rho} {O : Sto} {pos : Pos} {R : D -> Sto -> Prop}
variable {α : Type} {ps : List α} {f : α -> D} {tg iter elt : Expr} {scope : Scope}
theorem ev_compSM (g : Nat -> D) (S : Nat -> Sto) (hS0 : S 0 = O) (T F : List Str) (js : List Nat) (hi : EvI X ρ O tg iter (ps.map f)) (hsz : ps.length <= sizeLine) (turn : ∀ (i : Nat) (q : α),ps[i]? = some q -> CTurnS X T F js ρ (S i) (S (i + 1)) scope tg elt (f q) (g i)) (hR : R (.lst ((List.range ps.length).map g)) (S ps.length))
  (hfl : F.length = js.length := by rfl) (hB : freeB X.N X.env.scope.names scope.names F js = true := by first | rfl | decide +kernel) (hc : X.calm = true := by rfl) (hk : scope.kind = .function := by rfl) (hs : ∀ x,foldedSetIterable iter X.env x = pure x := by intro _; rfl) :
  Ev X ρ O (.ListComp elt [⟨tg,iter,[],0⟩] scope pos) R :=
 ev_compS (zs := (List.range ps.length).map g) S hS0 T F js hi (by rw [List.length_map,List.length_range,List.length_map]) (by rw [List.length_map]; exact hsz) (λ i x z q1 q2 => by
  rw [List.getElem?_map] at q1 q2
  obtain ⟨q,hq,rfl⟩ := Option.map_eq_some_iff.mp q1
  obtain ⟨j,hj,rfl⟩ := Option.map_eq_some_iff.mp q2
  have hi := (List.getElem?_eq_some_iff.mp hq).1
  rw [List.getElem?_range hi] at hj
  cases hj
  exact turn i q hq) (by rw [List.length_map]; exact hR) hfl hB hc hk hs
end
end DL
namespace DL
open PySem PySem.Spec PyProof.Rows L2 PySem.W
section
variable {X : Cx} {ρ : Rho} {O : Sto} {e : Expr} {p p2 pos pos2 : Pos}
variable {R : D -> Sto -> Prop}
end
section
variable {X : Cx} {ρ : Rho} {O : Sto} {e a b c : Expr} {body : List Stmt} {d da db : D} {xs : List D} {ks : List Key} {ps : List Str} {R : D -> Sto -> Prop} {P : Post} {pos p : Pos} {j n : Nat}
end
end DL
namespace DL
open PySem PySem.Spec PyProof.Rows L2
section
variable {X : Cx} {ρ : Rho} {O : Sto} {e : Expr} {es : List Expr} {R : D -> Sto -> Prop} {x : Str} {C : Addr} {p pos : Pos}
theorem ev_makeA {k : Nat} {sp : SpD} (M : Q1C X.prog X.w X.K X.mg X.base C k x sp) (hr : Room (k + 1) X.A) (ha : EvAs X ρ O (e :: es) λ ds O1 => sp (.ptr O1.length :: ds) (O1 ++ [some (.ins C [])]) λ d O' => d = .non /\ R (.ptr O1.length) O')
  (hg : Gl X x := by rfl) (hdb : (x == ("__debug__" : Str)) = false := by decide) (he : starEach (e :: es) X.env = (false,eval e X.env) :: starEach es X.env := by rfl) (hpl : (backTo pos (starEach es X.env)).any (·.1) = false := by rfl) :
  Ev X ρ O (.Call (.Name x p) (e :: es) [] pos) R := λ G pins s σ H Q I ⟨h1,h2,h3⟩ => by
 obtain ⟨f,fd,ps,g1,g2,g3⟩ := M.ex
 refine pe_make g2 g1 hr hg M.at_ g3 .nil pass0 (ha G) hdb he hpl pins s σ H Q I ⟨h1,h2,λ vs ds O1 G1 H1 e1 s1 i1 hs => λ y dx k1 k2 k3 => ?_⟩
 obtain ⟨e2,s2⟩ := made (C := C) s1 k1 k2 k3
 have iy : Is X.K ⟨G1.g,G1.l ++ [y]⟩ (.ptr O1.length) (.ref y) := .ptr _ (by rw [<- s1.len,List.getElem?_append_right (Nat.le_refl _),Nat.sub_self]; rfl)
 show toSp X.K sp (V.ref y :: (vs ++ [])) _ _ E0
 rw [List.append_nil]
 refine ⟨_,_,.ptr O1.length :: ds,_,s2,.cons iy (i1.ext e2),hs,λ v d O' G' H' e3 s3 i3 r3 => ?_⟩
 obtain ⟨rfl,r⟩ := r3
 cases i3
 exact ⟨rfl,h3 _ _ O' G' H' ((e1.trans e2).trans e3) s3 (iy.ext e3) r⟩
end
end DL
set_option maxHeartbeats 4000000
namespace My
open PySem PySem.Spec PyProof.Rows L2 DL
def top (i : Nat) : Stmt := PySem.Challenge.pw_heedwise_k72_the_head_is_bound.main.body.getD i (.Pass ⟨0,0,0,0⟩)
abbrev Q2g : Stmt := top 6
abbrev N_is_whole : List Str := ["value"]
theorem sc_is_whole : Q0n N_is_whole ["value"] (Q0d Q2g) := by constructor <;> first | rfl | decide +kernel
abbrev Q4A : Stmt := top 7
abbrev N_power : List Str := ["base","exponent","product","step"]
theorem Q5h : Q0n N_power ["base","exponent"] (Q0d Q4A) := by constructor <;> first | rfl | decide +kernel
abbrev Q2h : Stmt := top 8
abbrev N_halvings : List Str := ["count","times","left"]
theorem Q2q : Q0n N_halvings ["count"] (Q0d Q2h) := by constructor <;> first | rfl | decide +kernel
abbrev Q2S : Stmt := top 9
abbrev N_counted : List Str := ["weights"]
theorem sc_counted : Q0n N_counted ["weights"] (Q0d Q2S) := by constructor <;> first | rfl | decide +kernel
abbrev Q3v : Stmt := top 10
abbrev N_middle : List Str := ["numbers","weights","shares","whole","reached","number","share"]
theorem Q2o : Q0n N_middle ["numbers","weights"] (Q0d Q3v) := by constructor <;> first | rfl | decide +kernel
abbrev Q1e : Stmt := top 17
abbrev N_check_within : List Str := ["what","value","least","most"]
theorem sc_check_within : Q0n N_check_within ["what","value","least","most"] (Q0d Q1e) := by constructor <;> first | rfl | decide +kernel
abbrev Q1y : Stmt := top 18
abbrev N_check_scale : List Str := ["scale"]
theorem sc_check_scale : Q0n N_check_scale ["scale"] (Q0d Q1y) := by constructor <;> first | rfl | decide +kernel
abbrev Q1f : Stmt := top 19
abbrev N_check_making : List Str := ["many","scale"]
theorem sc_check_making : Q0n N_check_making ["many","scale"] (Q0d Q1f) := by constructor <;> first | rfl | decide +kernel
abbrev Q0O : Stmt := top 20
abbrev Q4Z : List Str := ["top","bottom"]
theorem Q4w : Q0n Q4Z ["top","bottom"] (Q0d Q0O) := by constructor <;> first | rfl | decide +kernel
abbrev Q1M : Stmt := top 21
abbrev N_check_push : List Str := ["many","push","one"]
theorem Q4g : Q0n N_check_push ["many","push"] (Q0d Q1M) := by constructor <;> first | rfl | decide +kernel
abbrev Q1x : Stmt := top 22
abbrev N_check_share : List Str := ["share","parts"]
theorem sc_check_share : Q0n N_check_share ["share","parts"] (Q0d Q1x) := by constructor <;> first | rfl | decide +kernel
abbrev Q1u : Stmt := top 24
abbrev N_is_on_scale : List Str := ["scale","value"]
theorem sc_is_on_scale : Q0n N_is_on_scale ["scale","value"] (Q0d Q1u) := by constructor <;> first | rfl | decide +kernel
abbrev Q2Q : Stmt := top 25
abbrev N_is_said : List Str := ["many","scale","said"]
theorem sc_is_said : Q0n N_is_said ["many","scale","said"] (Q0d Q2Q) := by constructor <;> first | rfl | decide +kernel
abbrev Q2P : Stmt := top 26
abbrev N_is_turn : List Str := ["many","scale","turn"]
theorem sc_is_turn : Q0n N_is_turn ["many","scale","turn"] (Q0d Q2P) := by constructor <;> first | rfl | decide +kernel
abbrev Q1L : Stmt := top 27
abbrev N_check_said : List Str := ["many","scale","said"]
theorem sc_check_said : Q0n N_check_said ["many","scale","said"] (Q0d Q1L) := by constructor <;> first | rfl | decide +kernel
abbrev Q1J : Stmt := top 28
abbrev N_check_turn : List Str := ["many","scale","said","so"]
theorem sc_check_turn : Q0n N_check_turn ["many","scale","said","so"] (Q0d Q1J) := by constructor <;> first | rfl | decide +kernel
abbrev Q1w : Stmt := top 29
abbrev N_check_turns : List Str := ["many","scale","turns","number","turn"]
theorem Q2F : Q0n N_check_turns ["many","scale","turns"] (Q0d Q1w) := by constructor <;> first | rfl | decide +kernel
abbrev Q2i : Stmt := top 30
abbrev N_awake_in : List Str := ["said"]
theorem sc_awake_in : Q0n N_awake_in ["said"] (Q0d Q2i) := by constructor <;> first | rfl | decide +kernel
abbrev Q3B : Stmt := top 31
abbrev N_charge : List Str := ["what","so"]
theorem sc_charge : Q0n N_charge ["what","so"] (Q0d Q3B) := by constructor <;> first | rfl | decide +kernel
abbrev Q1c : Stmt := top 33
abbrev N_middle_awake : List Str := ["said","weights","awake"]
theorem Q3h : Q0n N_middle_awake ["said","weights"] (Q0d Q1c) := by constructor <;> first | rfl | decide +kernel
abbrev Q0V : Stmt := Q0B (top 34) 0
abbrev N_Hand___init__ : List Str := ["self","many","scale"]
theorem Q4Q : Q0n N_Hand___init__ ["self","many","scale"] (Q0d Q0V) := by constructor <;> first | rfl | decide +kernel
abbrev Q1z : Stmt := Q0B (top 34) 1
abbrev N_Hand_heeded : List Str := ["self"]
theorem sc_Hand_heeded : Q0n N_Hand_heeded ["self"] (Q0d Q1z) := by constructor <;> first | rfl | decide +kernel
abbrev Q2l : Stmt := Q0B (top 34) 2
abbrev N_Hand_say : List Str := ["self","said"]
theorem sc_Hand_say : Q0n N_Hand_say ["self","said"] (Q0d Q2l) := by constructor <;> first | rfl | decide +kernel
abbrev Q1X : Stmt := Q0B (top 34) 3
abbrev N_Hand_hear : List Str := ["self","said","so"]
theorem sc_Hand_hear : Q0n N_Hand_hear ["self","said","so"] (Q0d Q1X) := by constructor <;> first | rfl | decide +kernel
abbrev Q1Y : Stmt := Q0B (top 34) 4
abbrev N_Hand_anew : List Str := ["self"]
theorem sc_Hand_anew : Q0n N_Hand_anew ["self"] (Q0d Q1Y) := by constructor <;> first | rfl | decide +kernel
abbrev Q1U : Stmt := top 36
abbrev N_are_alike : List Str := ["hands"]
theorem sc_are_alike : Q0n N_are_alike ["hands"] (Q0d Q1U) := by constructor <;> first | rfl | decide +kernel
abbrev Q2R : Stmt := top 37
abbrev N_is_head : List Str := ["hands","head"]
theorem sc_is_head : Q0n N_is_head ["hands","head"] (Q0d Q2R) := by constructor <;> first | rfl | decide +kernel
abbrev Q1K : Stmt := top 38
abbrev N_check_tier : List Str := ["hands","head"]
theorem sc_check_tier : Q0n N_check_tier ["hands","head"] (Q0d Q1K) := by constructor <;> first | rfl | decide +kernel
abbrev Q0U : Stmt := Q0B (top 39) 0
abbrev N_Tier___init__ : List Str := ["self","hands","head"]
theorem Q4P : Q0n N_Tier___init__ ["self","hands","head"] (Q0d Q0U) := by constructor <;> first | rfl | decide +kernel
abbrev Q0E : Stmt := Q0B (top 39) 1
abbrev Q3Y : List Str := ["self"]
theorem Q3D : Q0n Q3Y ["self"] (Q0d Q0E) := by constructor <;> first | rfl | decide +kernel
abbrev Q2k : Stmt := Q0B (top 39) 2
abbrev N_Tier_ask : List Str := ["self","said"]
theorem sc_Tier_ask : Q0n N_Tier_ask ["self","said"] (Q0d Q2k) := by constructor <;> first | rfl | decide +kernel
abbrev Q2j : Stmt := Q0B (top 39) 3
abbrev N_Tier_say : List Str := ["self","said"]
theorem sc_Tier_say : Q0n N_Tier_say ["self","said"] (Q0d Q2j) := by constructor <;> first | rfl | decide +kernel
abbrev Q1V : Stmt := Q0B (top 39) 4
abbrev N_Tier_hear : List Str := ["self","said","so","sayings","hand"]
theorem Q3i : Q0n N_Tier_hear ["self","said","so"] (Q0d Q1V) := by constructor <;> first | rfl | decide +kernel
abbrev Q1W : Stmt := Q0B (top 39) 5
abbrev N_Tier_anew : List Str := ["self"]
theorem sc_Tier_anew : Q0n N_Tier_anew ["self"] (Q0d Q1W) := by constructor <;> first | rfl | decide +kernel
abbrev s_ran : Stmt := top 41
abbrev N_ran : List Str := ["hand","turns","runner","sayings","said","so"]
theorem sc_ran : Q0n N_ran ["hand","turns"] (Q0d s_ran) := by constructor <;> first | rfl | decide +kernel
abbrev Q1d : Stmt := top 42
abbrev N_has_greatest : List Str := ["top","bottom","own"]
theorem sc_has_greatest : Q0n N_has_greatest ["top","bottom","own"] (Q0d Q1d) := by constructor <;> first | rfl | decide +kernel
abbrev Q1t : Stmt := top 43
abbrev N_most_errors : List Str := ["many","top","bottom","own","errors","kept","bound"]
theorem Q0R : Q0n N_most_errors ["many","top","bottom","own"] (Q0d Q1t) := by constructor <;> first | rfl | decide +kernel
abbrev Q2K : Stmt := top 45
abbrev N_push_of : List Str := ["many","push"]
theorem sc_push_of : Q0n N_push_of ["many","push"] (Q0d Q2K) := by constructor <;> first | rfl | decide +kernel
abbrev Q1v : Stmt := top 46
abbrev N_first_least : List Str := ["scores","advisers"]
theorem sc_first_least : Q0n N_first_least ["scores","advisers"] (Q0d Q1v) := by constructor <;> first | rfl | decide +kernel
abbrev Q0F : Stmt := Q0B (top 47) 0
abbrev Q3Z : List Str := ["self","many","scale","push"]
theorem Q3E : Q0n Q3Z ["self","many","scale","push"] (Q0d Q0F) := by constructor <;> first | rfl | decide +kernel
abbrev Q1n : Stmt := Q0B (top 47) 3
abbrev N_Follower_say : List Str := ["self","said","awake"]
theorem Q3k : Q0n N_Follower_say ["self","said"] (Q0d Q1n) := by constructor <;> first | rfl | decide +kernel
abbrev Q0W : Stmt := Q0B (top 47) 4
abbrev N_Follower_hear : List Str := ["self","said","so"]
theorem Q4R : Q0n N_Follower_hear ["self","said","so"] (Q0d Q0W) := by constructor <;> first | rfl | decide +kernel
abbrev Q0X : Stmt := Q0B (top 47) 5
abbrev N_Follower_anew : List Str := ["self"]
theorem Q4S : Q0n N_Follower_anew ["self"] (Q0d Q0X) := by constructor <;> first | rfl | decide +kernel
abbrev Q0I : Stmt := Q0B (top 49) 0
abbrev Q4s : List Str := ["self","many","scale"]
theorem Q3S : Q0n Q4s ["self","many","scale"] (Q0d Q0I) := by constructor <;> first | rfl | decide +kernel
abbrev Q0Q : Stmt := Q0B (top 49) 3
abbrev Q5b : List Str := ["self"]
theorem Q4y : Q0n Q5b ["self"] (Q0d Q0Q) := by constructor <;> first | rfl | decide +kernel
abbrev Q1l : Stmt := Q0B (top 49) 4
abbrev N_Rounder_hear : List Str := ["self","said","so","left"]
theorem Q3j : Q0n N_Rounder_hear ["self","said","so"] (Q0d Q1l) := by constructor <;> first | rfl | decide +kernel
abbrev Q1m : Stmt := Q0B (top 49) 5
abbrev N_Rounder_anew : List Str := ["self"]
theorem sc_Rounder_anew : Q0n N_Rounder_anew ["self"] (Q0d Q1m) := by constructor <;> first | rfl | decide +kernel
abbrev Q1s : Stmt := top 51
abbrev N_times_awake : List Str := ["keeper","own","off","kept"]
theorem Q3J : Q0n N_times_awake ["keeper","own","off"] (Q0d Q1s) := by constructor <;> first | rfl | decide +kernel
abbrev Q1b : Stmt := top 52
abbrev N_times_asleep : List Str := ["keeper","own"]
theorem sc_times_asleep : Q0n N_times_asleep ["keeper","own"] (Q0d Q1b) := by constructor <;> first | rfl | decide +kernel
abbrev Q4z : Stmt := top 53
abbrev N_times : List Str := ["keeper","own","what","so"]
theorem sc_times : Q0n N_times ["keeper","own","what","so"] (Q0d Q4z) := by constructor <;> first | rfl | decide +kernel
abbrev Q0G : Stmt := Q0B (top 55) 0
abbrev Q4q : List Str := ["self","many","scale","top","bottom"]
theorem Q3Q : Q0n Q4q ["self","many","scale","top","bottom"] (Q0d Q0G) := by constructor <;> first | rfl | decide +kernel
abbrev Q0P : Stmt := Q0B (top 55) 1
abbrev Q5a : List Str := ["self"]
theorem Q4x : Q0n Q5a ["self"] (Q0d Q0P) := by constructor <;> first | rfl | decide +kernel
abbrev Q0T : Stmt := Q0B (top 55) 4
abbrev N_Weigher_weigh : List Str := ["self","said","so","own"]
theorem Q2Y : Q0n N_Weigher_weigh ["self","said","so"] (Q0d Q0T) := by constructor <;> first | rfl | decide +kernel
abbrev Q1g : Stmt := Q0B (top 55) 5
abbrev N_Weigher_hear : List Str := ["self","said","so"]
theorem sc_Weigher_hear : Q0n N_Weigher_hear ["self","said","so"] (Q0d Q1g) := by constructor <;> first | rfl | decide +kernel
abbrev Q1h : Stmt := Q0B (top 55) 6
abbrev N_Weigher_anew : List Str := ["self"]
theorem sc_Weigher_anew : Q0n N_Weigher_anew ["self"] (Q0d Q1h) := by constructor <;> first | rfl | decide +kernel
abbrev Q0H : Stmt := Q0B (top 57) 0
abbrev Q4r : List Str := ["self","many","scale","top","bottom","share","parts"]
theorem Q3R : Q0n Q4r ["self","many","scale","top","bottom","share","parts"] (Q0d Q0H) := by constructor <;> first | rfl | decide +kernel
abbrev Q1j : Stmt := Q0B (top 57) 1
abbrev N_Shifter_deal : List Str := ["self","dealt","kept"]
theorem Q2r : Q0n N_Shifter_deal ["self"] (Q0d Q1j) := by constructor <;> first | rfl | decide +kernel
abbrev Q1i : Stmt := Q0B (top 57) 2
abbrev N_Shifter_hear : List Str := ["self","said","so"]
theorem sc_Shifter_hear : Q0n N_Shifter_hear ["self","said","so"] (Q0d Q1i) := by constructor <;> first | rfl | decide +kernel
abbrev Q1k : Stmt := Q0B (top 57) 3
abbrev N_Shifter_anew : List Str := ["self"]
theorem sc_Shifter_anew : Q0n N_Shifter_anew ["self"] (Q0d Q1k) := by constructor <;> first | rfl | decide +kernel
abbrev Q1T : Stmt := top 59
abbrev N_l_cell_at : List Str := ["_law_script","_law_k"]
theorem sc_l_cell_at : Q0n N_l_cell_at ["_law_script","_law_k"] (Q0d Q1T) := by constructor <;> first | rfl | decide +kernel
abbrev Q3y : Stmt := top 60
abbrev N_l_next : List Str := ["_law_x"]
theorem sc_l_next : Q0n N_l_next ["_law_x"] (Q0d Q3y) := by constructor <;> first | rfl | decide +kernel
abbrev Q3x : Stmt := top 61
abbrev N_l_seed : List Str := ["_law_script","_law_k","_law_x"]
theorem sc_l_seed : Q0n N_l_seed ["_law_script","_law_k"] (Q0d Q3x) := by constructor <;> first | rfl | decide +kernel
abbrev Q3w : Stmt := top 62
abbrev N_l_turn : List Str := ["_law_x","_law_many_here","_law_scale","_law_sleeps","_law_so","_law_said","_law_k","_law_what"]
theorem Q2b : Q0n N_l_turn ["_law_x","_law_many_here","_law_scale","_law_sleeps"] (Q0d Q3w) := by constructor <;> first | rfl | decide +kernel
abbrev Q2L : Stmt := top 63
abbrev N_l_turns : List Str := ["_law_script","_law_start","_law_many_here","_law_scale","_law_sleeps","_law_most","_law_fewest_turns","_law_found","_law_k"]
theorem Q2J : Q0n N_l_turns ["_law_script","_law_start","_law_many_here","_law_scale","_law_sleeps"] (Q0d Q2L) := by constructor <;> first | rfl | decide +kernel
abbrev Q3z : Stmt := top 64
abbrev N_l_many : List Str := ["_law_x"]
theorem sc_l_many : Q0n N_l_many ["_law_x"] (Q0d Q3z) := by constructor <;> first | rfl | decide +kernel
abbrev Q1I : Stmt := top 65
abbrev N_l_fraction : List Str := ["_law_x","_law_bottom"]
theorem Q4f : Q0n N_l_fraction ["_law_x"] (Q0d Q1I) := by constructor <;> first | rfl | decide +kernel
abbrev Q3A : Stmt := top 66
abbrev N_l_hand : List Str := ["_law_many_here","_law_scale","_law_x","_law_bottom","_law_top","_law_way"]
theorem Q4e : Q0n N_l_hand ["_law_many_here","_law_scale","_law_x"] (Q0d Q3A) := by constructor <;> first | rfl | decide +kernel
abbrev Q2N : Stmt := top 67
abbrev N_l_hands : List Str := ["_law_many_here","_law_scale","_law_x","_law_found","_law_k"]
theorem Q3u : Q0n N_l_hands ["_law_many_here","_law_scale","_law_x"] (Q0d Q2N) := by constructor <;> first | rfl | decide +kernel
abbrev Q2M : Stmt := top 68
abbrev N_l_power : List Str := ["_law_base","_law_exponent","_law_found","_law_k"]
theorem Q3t : Q0n N_l_power ["_law_base","_law_exponent"] (Q0d Q2M) := by constructor <;> first | rfl | decide +kernel
abbrev Q2O : Stmt := top 69
abbrev N_l_bound : List Str := ["_law_many_here","_law_top","_law_bottom","_law_paid","_law_erred_turns","_law_less"]
theorem sc_l_bound : Q0n N_l_bound ["_law_many_here","_law_top","_law_bottom","_law_paid","_law_erred_turns"] (Q0d Q2O) := by constructor <;> first | rfl | decide +kernel
abbrev s_law : Stmt := top 70
abbrev N_law : List Str := ["_law_script","_law_x","_law_many_here","_law_turns_here","_law_hands_here","_law_top","_law_bottom","_law_tier","_law_sayings","_law_wrong","_law_said","_law_so","_law_paid","_law_hand_here","_law_most"]
theorem Q2p : Q0n N_law ["_law_script"] (Q0d s_law) := by constructor <;> first | rfl | decide +kernel
structure Txt (K : PySem.W.Frag) (mg : Str -> Option Value) (CK1 CK5 CK3 CK2 CK0 CK4 : Addr) : Prop where
 b_len : mg "len" = none
 b_tuple : mg "tuple" = none
 b_list : mg "list" = none
 b_sum : mg "sum" = none
 b_zip : mg "zip" = none
 b_sorted : mg "sorted" = none
 b_range : mg "range" = none
 b_isinstance : mg "isinstance" = none
 b_int : mg "int" = none
 b_bool : mg "bool" = none
 b_all : mg "all" = none
 b_any : mg "any" = none
 b_enumerate : mg "enumerate" = none
 b_abs : mg "abs" = none
 b_min : mg "min" = none
 b_max : mg "max" = none
 g_MOST_ADVISERS : ∃ t,mg "MOST_ADVISERS" = some (.int 24 t)
 g_MOST_SCALE : ∃ t,mg "MOST_SCALE" = some (.int 10 t)
 g_MOST_BOTTOM : ∃ t,mg "MOST_BOTTOM" = some (.int 100 t)
 g_MOST_PARTS : ∃ t,mg "MOST_PARTS" = some (.int 100 t)
 g_MOST_FIGURES : ∃ t,mg "MOST_FIGURES" = some (.int 60 t)
 c_Hand : Q5c K CK1
 m_Hand : mg "Hand" = some (.ref CK1)
 n_Hand_many : Q0u K CK1 "many"
 n_Hand_scale : Q0u K CK1 "scale"
 i_Hand_Hand : PySem.W.kitOne K (.ref CK1) (.ref CK1) = some true
 c_Weigher : Q5c K CK5
 m_Weigher : mg "Weigher" = some (.ref CK5)
 n_Weigher_many : Q0u K CK5 "many"
 n_Weigher_scale : Q0u K CK5 "scale"
 n_Weigher_top : Q0u K CK5 "top"
 n_Weigher_bottom : Q0u K CK5 "bottom"
 n_Weigher_tops : Q0u K CK5 "tops"
 n_Weigher_under : Q0u K CK5 "under"
 i_Weigher_Hand : PySem.W.kitOne K (.ref CK5) (.ref CK1) = some true
 c_Shifter : Q5c K CK3
 m_Shifter : mg "Shifter" = some (.ref CK3)
 n_Shifter_many : Q0u K CK3 "many"
 n_Shifter_scale : Q0u K CK3 "scale"
 n_Shifter_top : Q0u K CK3 "top"
 n_Shifter_bottom : Q0u K CK3 "bottom"
 n_Shifter_tops : Q0u K CK3 "tops"
 n_Shifter_under : Q0u K CK3 "under"
 n_Shifter_share : Q0u K CK3 "share"
 n_Shifter_parts : Q0u K CK3 "parts"
 i_Shifter_Hand : PySem.W.kitOne K (.ref CK3) (.ref CK1) = some true
 c_Rounder : Q5c K CK2
 m_Rounder : mg "Rounder" = some (.ref CK2)
 n_Rounder_many : Q0u K CK2 "many"
 n_Rounder_scale : Q0u K CK2 "scale"
 n_Rounder_inside : Q0u K CK2 "inside"
 n_Rounder_over : Q0u K CK2 "over"
 i_Rounder_Hand : PySem.W.kitOne K (.ref CK2) (.ref CK1) = some true
 c_Follower : Q5c K CK0
 m_Follower : mg "Follower" = some (.ref CK0)
 n_Follower_many : Q0u K CK0 "many"
 n_Follower_scale : Q0u K CK0 "scale"
 n_Follower_push : Q0u K CK0 "push"
 n_Follower_reached : Q0u K CK0 "reached"
 i_Follower_Hand : PySem.W.kitOne K (.ref CK0) (.ref CK1) = some true
 c_Tier : Q5c K CK4
 m_Tier : mg "Tier" = some (.ref CK4)
 n_Tier_many : Q0u K CK4 "many"
 n_Tier_scale : Q0u K CK4 "scale"
 n_Tier_hands : Q0u K CK4 "hands"
 n_Tier_head : Q0u K CK4 "head"
 n_Tier_charged : Q0u K CK4 "charged"
 i_Tier_Hand : PySem.W.kitOne K (.ref CK4) (.ref CK1) = some true
def cnt (ws : List Int) : List Int := if ws.sum = 0 then ws.map (λ _ => 1) else ws
theorem cnt_len (ws : List Int) : (cnt ws).length = ws.length := by unfold cnt; split <;> simp
def Wok (ws : List Int) : Prop := ∀ w ∈ ws,0 <= w
theorem cnt_ok {ws : List Int} (h : Wok ws) : Wok (cnt ws) := by
 unfold cnt
 split
 ·intro w hw
  obtain ⟨_,_,rfl⟩ := List.mem_map.mp hw
  decide
 ·exact h
def go (W : Int) : Int -> List (Int × Int) -> Int
 | _,[] => 0
 | r,p :: l => if W <= 2 * (r + p.2) then p.1 else go W (r + p.2) l
def mid (ns ws : List Int) : Int := go (cnt ws).sum 0 (srt ltP (ns.zip (cnt ws)))
def Two (ns ws : List Int) : Prop := ns.length = ws.length /\ ws.length <= 63 /\ Wok ws
def spCounted : List D -> D -> Prop := λ ds d => ∃ ws : List Int,ds = [.tup (ws.map D.int)] /\ ws.length <= 63 /\ d = .lst ((cnt ws).map D.int)
def spMiddle : List D -> D -> Prop := λ ds d => ∃ ns ws : List Int,ds = [.tup (ns.map D.int),.tup (ws.map D.int)] /\ Two ns ws /\ d = .int (mid ns ws)
def Q1a (ns : List Int) (k : Int) : Int := (ns[k.toNat]?).getD 0
def spCell : List D -> D -> Prop := λ ds d => ∃ (ns : List Int) (k : Int),ds = [.scr (ns.map D.int),.int k] /\ 0 <= k /\ d = .int (Q1a ns k)
def below (f : Int) (ns ws : List Int) : Int := sm (λ q => if q.1 < f then q.2 else 0) (ns.zip ws)
def there (f : Int) (ns ws : List Int) : Int := sm (λ q => if q.1 = f then q.2 else 0) (ns.zip ws)
def rightB (f : Int) (ns ws : List Int) : Bool := if ns = [] then decide (f = 0) else (decide (f ∈ ns) && (decide (2 * below f ns (cnt ws) < (cnt ws).sum) && decide ((cnt ws).sum <= 2 * (below f ns (cnt ws) + there f ns (cnt ws)))))
theorem go_at (W : Int) : ∀ (L : List (Int × Int)) (r : Int),2 * r < W -> W <= 2 * (r + sm (λ q => q.2) L) -> ∃ A p B,L = A ++ p :: B /\ 2 * (r + sm (λ q => q.2) A) < W /\ W <= 2 * (r + sm (λ q => q.2) A + p.2) /\ go W r L = p.1
 | [],r,h1,h2 => by exfalso; unfold sm at h2; omega
 | p :: L,r,h1,h2 => by
  unfold go
  by_cases h : W <= 2 * (r + p.2)
  ·rw [if_pos h]
   refine ⟨[],p,L,rfl,?_,?_,rfl⟩
   ·show 2 * (r + 0) < W; omega
   ·show W <= 2 * (r + 0 + p.2); omega
  ·rw [if_neg h]
   have h2 : W <= 2 * (r + (p.2 + sm (λ q => q.2) L)) := h2
   obtain ⟨A,q,B,e1,e2,e3,e4⟩ := go_at W L (r + p.2) (by omega) (by omega)
   refine ⟨p :: A,q,B,by rw [e1]; rfl,?_,?_,e4⟩
   ·show 2 * (r + (p.2 + sm (λ q => q.2) A)) < W; omega
   ·show W <= 2 * (r + (p.2 + sm (λ q => q.2) A) + q.2); omega
theorem sum_pos {ws : List Int} (h : Wok ws) : 0 <= ws.sum := by
 rw [sum_sm]; exact sm_pos λ a ha => h a ha
theorem cnt_pos {ws : List Int} (h : Wok ws) (hn : ws ≠ []) : 0 < (cnt ws).sum := by
 unfold cnt
 split
 ·cases ws with
  | nil => exact absurd rfl hn
  | cons a l =>
   rw [List.map_cons,List.sum_cons]
   have : 0 <= (l.map λ _ => (1 : Int)).sum := by rw [Q4d]; exact sm_pos λ _ _ => by decide
   omega
 ·have := sum_pos h
  omega
theorem right_mid {ns ws : List Int} (h : Two ns ws) : rightB (mid ns ws) ns ws = true := by
 obtain ⟨h1,h2,h3⟩ := h
 unfold rightB
 by_cases hn : ns = []
 ·rw [if_pos hn]
  subst hn
  have e : mid [] ws = 0 := by unfold mid srt; simp [go]
  exact decide_eq_true e
 ·rw [if_neg hn]
  have hw : ws ≠ [] := by
   intro e; apply hn
   rw [e] at h1
   exact List.eq_nil_of_length_eq_zero h1
  have hp := cnt_pos h3 hw
  have hc := cnt_ok h3
  have hl : ns.length = (cnt ws).length := by rw [cnt_len]; exact h1
  unfold mid below there
  generalize cnt ws = cs at hp hc hl
  have pm := Q5e ltP (ns.zip cs)
  have pw := srt_pw ordP (ns.zip cs)
  have hs : sm (λ q : Int × Int => q.2) (srt ltP (ns.zip cs)) = cs.sum := by rw [sm_perm pm,sm_zip_snd hl]
  obtain ⟨A,p,B,e1,e2,e3,e4⟩ := go_at cs.sum (srt ltP (ns.zip cs)) 0 (by omega) (by rw [hs]; omega)
  rw [e4]
  have nn : ∀ q ∈ srt ltP (ns.zip cs),0 <= q.2 := λ q hq => hc _ (List.of_mem_zip (pm.mem_iff.mp hq)).2
  rw [<- sm_perm (g := λ q : Int × Int => if q.1 < p.1 then q.2 else 0) pm,<- sm_perm (g := λ q : Int × Int => if q.1 = p.1 then q.2 else 0) pm]
  have hm : p.1 ∈ ns := (List.of_mem_zip (pm.mem_iff.mp (by rw [e1]; exact List.mem_append_right _ List.mem_cons_self) : (p.1,p.2) ∈ ns.zip cs)).1
  rw [e1] at pw nn ⊢
  have pA : ∀ q ∈ A,q.1 <= p.1 := λ q hq => by
   have := (List.pairwise_append.mp pw).2.2 q hq p List.mem_cons_self
   simp [ltP] at this
   omega
  have pB : ∀ q ∈ B,p.1 <= q.1 := λ q hq => by
   have := (List.pairwise_cons.mp (List.pairwise_append.mp pw).2.1).1 q hq
   simp [ltP] at this
   omega
  have b1 : sm (λ q : Int × Int => if q.1 < p.1 then q.2 else 0) (A ++ p :: B) <= sm (λ q => q.2) A := by
   rw [sm_app]
   have z : sm (λ q : Int × Int => if q.1 < p.1 then q.2 else 0) (p :: B) = 0 := by
    rw [sm_eq (h := λ _ => 0),sm_zero]
    intro a ha
    rcases List.mem_cons.mp ha with rfl | ha
    ·exact if_neg (by omega)
    ·exact if_neg (by have := pB a ha; omega)
   rw [z]
   have := sm_le (l := A) (g := λ q : Int × Int => if q.1 < p.1 then q.2 else 0) (h := λ q => q.2) λ a ha => by
    have := nn a (List.mem_append_left _ ha)
    try dsimp only
    split <;> omega
   omega
  have b2 : sm (λ q => q.2) A + p.2 <= sm (λ q : Int × Int => if q.1 < p.1 then q.2 else 0) (A ++ p :: B) + sm (λ q : Int × Int => if q.1 = p.1 then q.2 else 0) (A ++ p :: B) := by
   rw [<- sm_add,sm_app]
   have z : p.2 <= sm (λ q : Int × Int => (if q.1 < p.1 then q.2 else 0) + (if q.1 = p.1 then q.2 else 0)) (p :: B) := by
    show p.2 <= ((if p.1 < p.1 then p.2 else 0) + (if p.1 = p.1 then p.2 else 0)) + sm _ B
    rw [if_neg (by omega),if_pos rfl]
    have := sm_pos (l := B) (g := λ q : Int × Int => (if q.1 < p.1 then q.2 else 0) + (if q.1 = p.1 then q.2 else 0)) λ a ha => by
     have := nn a (List.mem_append_right _ (List.mem_cons_of_mem _ ha))
     try dsimp only
     split <;> split <;> omega
    omega
   have := sm_eq (l := A) (g := λ q : Int × Int => q.2) (h := λ q => (if q.1 < p.1 then q.2 else 0) + (if q.1 = p.1 then q.2 else 0)) λ a ha => by
    have := pA a ha
    try dsimp only
    split <;> split <;> omega
   omega
  rw [decide_eq_true hm,decide_eq_true (by omega),decide_eq_true (by omega)]
  rfl
theorem mid_half {ns ws : List Int} (h : Two ns ws) (hn : ns ≠ []) : 2 * below (mid ns ws) ns (cnt ws) < (cnt ws).sum /\ (cnt ws).sum <= 2 * (below (mid ns ws) ns (cnt ws) + there (mid ns ws) ns (cnt ws)) := by
 have h := right_mid h
 unfold rightB at h
 rw [if_neg hn,Bool.and_eq_true,Bool.and_eq_true] at h
 exact ⟨of_decide_eq_true h.2.1,of_decide_eq_true h.2.2⟩
def od : Option Int -> D
 | none => .non
 | some i => .int i
abbrev Tn := List (Option Int) × Int
def tD (t : Tn) : D := .tup [.tup (t.1.map od),.int t.2]
def ab (i : Int) : Int := if i < 0 then -i else i
def chg : Option Int -> Int -> Int
 | none,_ => 0
 | some w,z => ab (w - z)
theorem od_np (o : Option Int) : npD (od o) = true := by cases o <;> rfl
theorem tD_np (t : Tn) : npD (tD t) = true := by
 show (npDs (t.1.map od) && (true && true)) = true
 rw [npDs_map od_np]
 rfl
def sat2 (said : List (Option Int)) (k : Nat) : Option Int := (said[k]?).getD none
def ax (said : List (Option Int)) : List Nat := (List.range said.length).filter λ k => (sat2 said k).isSome
def nsA (said : List (Option Int)) : List Int := (ax said).map λ k => (sat2 said k).getD 0
def wsA (said : List (Option Int)) (ws : List Int) : List Int := (ax said).map λ k => ws.getD k 0
def midA (said : List (Option Int)) (ws : List Int) : Int := mid (nsA said) (wsA said ws)
theorem zipIdx_range (said : List (Option Int)) : said.zipIdx = (List.range said.length).map λ k => (sat2 said k,k) := by
 refine List.ext_getElem? λ i => ?_
 rw [List.getElem?_zipIdx,List.getElem?_map]
 by_cases h : i < said.length
 ·rw [List.getElem?_range h,List.getElem?_eq_getElem h]
  simp [sat2,h]
 ·rw [List.getElem?_eq_none (by omega),List.getElem?_eq_none (by simp; omega)]
  rfl
theorem isN_od (w : Option Int) : (!isN (od w)) = w.isSome := by cases w <;> rfl
theorem awake_eq (said : List (Option Int)) : (said.zipIdx.filterMap λ q => if (!isN (od q.1)) = true then some (D.int (q.2 : Nat)) else none) = (ax said).map λ k => D.int (k : Nat) := by
 rw [fm_if (λ q : Option Int × Nat => !isN (od q.1)) (λ q => D.int (q.2 : Nat)),zipIdx_range,List.filter_map,List.map_map]
 unfold ax
 congr 1
 exact List.filter_congr λ k _ => isN_od _
theorem at2 {said : List (Option Int)} {k : Nat} (h : k < said.length) : atI (said.map od) (k : Int) = some (od (sat2 said k)) := by
 refine Q4G ?_
 rw [List.getElem?_map,List.getElem?_eq_getElem h]
 simp [sat2,h]
theorem ax_lt {said : List (Option Int)} {k : Nat} (h : k ∈ ax said) : k < said.length := List.mem_range.mp (List.mem_filter.mp h).1
theorem ax_od {said : List (Option Int)} {k : Nat} (h : k ∈ ax said) : od (sat2 said k) = .int ((sat2 said k).getD 0) := by
 have := (List.mem_filter.mp h).2
 cases e : sat2 said k with
 | none => rw [e] at this; cases this
 | some w => rfl
theorem at_ax {said : List (Option Int)} {k : Nat} (h : k ∈ ax said) : atI (said.map od) (k : Int) = some (.int ((sat2 said k).getD 0)) := by rw [at2 (ax_lt h),ax_od h]
theorem at_ws {ws : List Int} {k : Nat} (h : k < ws.length) : atI (ws.map D.int) (k : Int) = some (.int (ws.getD k 0)) := by
 refine Q4G ?_
 rw [List.getElem?_map,List.getElem?_eq_getElem h]
 simp [List.getD,h]
theorem ax_len (said : List (Option Int)) : (ax said).length <= said.length := by
 have := List.length_filter_le (λ k => (sat2 said k).isSome) (List.range said.length)
 rw [List.length_range] at this
 exact this
theorem twoA {said : List (Option Int)} {ws : List Int} (hs : said.length <= 24) (hw : Wok ws) : Two (nsA said) (wsA said ws) := by
 refine ⟨by unfold nsA wsA; rw [List.length_map,List.length_map],?_,λ w h => ?_⟩
 ·unfold wsA; rw [List.length_map]; have := ax_len said; omega
 ·obtain ⟨k,_,rfl⟩ := List.mem_map.mp h
  by_cases hk : k < ws.length
  ·rw [List.getD_eq_getElem?_getD,List.getElem?_eq_getElem hk]
   exact hw _ (List.getElem_mem hk)
  ·rw [List.getD_eq_getElem?_getD,List.getElem?_eq_none (by omega)]
   exact Int.le_refl _
def onS (s : Int) : Option Int -> Bool
 | none => false
 | some i => decide (0 <= i) && decide (i <= s)
def Q0N (m s : Int) (said : List (Option Int)) : Prop := (said.length : Int) = m /\ m <= 24 /\ ∀ w ∈ said,w = none \/ onS s w = true
def Q4c : List D -> D -> Prop := λ ds d => ∃ w : Option Int,ds = [od w] /\ d = .bl w.isSome
def spOnS : List D -> D -> Prop := λ ds d => ∃ (s : Int) (w : Option Int),ds = [.int s,od w] /\ d = .bl (onS s w)
def Q5g : List D -> D -> Prop := λ ds d => ∃ (m s : Int) (said : List (Option Int)),ds = [.int m,.int s,.tup (said.map od)] /\ Q0N m s said /\ d = .bl true
def Q2n : List D -> D -> Prop := λ ds d => ∃ (m s : Int) (said : List (Option Int)),ds = [.int m,.int s,.tup (said.map od)] /\ Q0N m s said /\ d = .non
def Q2U : List D -> D -> Prop := λ ds d => ∃ (x : Str) (v l h : Int),ds = [.str x,.int v,.int l,.int h] /\ (l <= v /\ v <= h) /\ d = .non
def spMaking : List D -> D -> Prop := λ ds d => ∃ m s : Int,ds = [.int m,.int s] /\ (1 <= m /\ m <= 24) /\ (1 <= s /\ s <= 10) /\ d = .non
def spScale : List D -> D -> Prop := λ ds d => ∃ s : Int,ds = [.int s] /\ (1 <= s /\ s <= 10) /\ d = .non
def Q4v : List D -> D -> Prop := λ ds d => ∃ t b : Int,ds = [.int t,.int b] /\ (0 <= t /\ t < b /\ b <= 100) /\ d = .non
def spAwake : List D -> D -> Prop := λ ds d => ∃ said : List (Option Int),ds = [.tup (said.map od)] /\ said.length <= 24 /\ d = .lst ((ax said).map λ k => D.int (k : Nat))
def spMA : List D -> D -> Prop := λ ds d => ∃ (said : List (Option Int)) (ws : List Int),ds = [.tup (said.map od),.tup (ws.map D.int)] /\ said.length <= 24 /\ ws.length = said.length /\ Wok ws /\ d = .int (midA said ws)
def Q2c (m s : Int) : List (Str × D) := [("many",.int m),("scale",.int s)]
def Q1B (m s t b : Int) (ws : List Int) (u : Int) : List (Str × D) := [("many",.int m),("scale",.int s),("top",.int t),("bottom",.int b),("tops",.tup (ws.map D.int)),("under",.int u)]
theorem Q0q {f g : Str} {d x : D} {r : List (Str × D)} (h : (g = f) -> False) : putD f d ((g,x) :: r) = (g,x) :: putD f d r := by
 show (if g = f then (g,d) :: r else (g,x) :: putD f d r) = _
 rw [if_neg h]
theorem Q4K {f : Str} {d x : D} {r : List (Str × D)} : putD f d ((f,x) :: r) = (f,d) :: r := by
 show (if f = f then (f,d) :: r else (f,x) :: putD f d r) = _
 rw [if_pos rfl]
theorem put_hand (m s : Int) : putD "scale" (.int s) (putD "many" (.int m) []) = Q2c m s := by
 show putD "scale" (.int s) [("many",.int m)] = _
 rw [Q0q (by decide +kernel)]
 rfl
def f3 (m s t : Int) : List (Str × D) := [("many",.int m),("scale",.int s),("top",.int t)]
def f4 (m s t b : Int) : List (Str × D) := [("many",.int m),("scale",.int s),("top",.int t),("bottom",.int b)]
def f5 (m s t b : Int) (d : D) : List (Str × D) := [("many",.int m),("scale",.int s),("top",.int t),("bottom",.int b),("tops",d)]
theorem put_top (m s t : Int) : putD "top" (.int t) (Q2c m s) = f3 m s t := by
 unfold Q2c
 rw [Q0q (by decide +kernel),Q0q (by decide +kernel)]
 rfl
theorem put_bottom (m s t b : Int) : putD "bottom" (.int b) (f3 m s t) = f4 m s t b := by
 unfold f3
 rw [Q0q (by decide +kernel),Q0q (by decide +kernel),Q0q (by decide +kernel)]
 rfl
theorem put_tops (m s t b : Int) (d : D) : putD "tops" d (f4 m s t b) = f5 m s t b d := by
 unfold f4
 rw [Q0q (by decide +kernel),Q0q (by decide +kernel),Q0q (by decide +kernel),Q0q (by decide +kernel)]
 rfl
theorem put_under (m s t b u : Int) (ws : List Int) : putD "under" (.int u) (f5 m s t b (.tup (ws.map D.int))) = Q1B m s t b ws u := by
 unfold f5
 rw [Q0q (by decide +kernel),Q0q (by decide +kernel),Q0q (by decide +kernel),Q0q (by decide +kernel),Q0q (by decide +kernel)]
 rfl
theorem Q1N {f : Str} {d : D} {r : List (Str × D)} : List.lookup f ((f,d) :: r) = some d := by rw [List.lookup_cons,beq_self_eq_true]
theorem Q0s {f g : Str} {d : D} {r : List (Str × D)} (h : (f == g) = false) : List.lookup f ((g,d) :: r) = List.lookup f r := by rw [List.lookup_cons,h]
section
variable (m s t b u : Int) (ws : List Int)
theorem hl_many : (Q2c m s).lookup ("many" : Str) = some (.int m) := Q1N
theorem Q5k : (Q2c m s).lookup ("scale" : Str) = some (.int s) := by unfold Q2c; rw [Q0s (by decide +kernel),Q1N]
theorem hl_heeded : (Q2c m s).lookup ("heeded" : Str) = none := by unfold Q2c; rw [Q0s (by decide +kernel),Q0s (by decide +kernel)]; rfl
theorem wl_many : (Q1B m s t b ws u).lookup ("many" : Str) = some (.int m) := Q1N
theorem wl_scale : (Q1B m s t b ws u).lookup ("scale" : Str) = some (.int s) := by unfold Q1B; rw [Q0s (by decide +kernel),Q1N]
theorem wl_top : (Q1B m s t b ws u).lookup ("top" : Str) = some (.int t) := by unfold Q1B; rw [Q0s (by decide +kernel),Q0s (by decide +kernel),Q1N]
theorem wl_bottom : (Q1B m s t b ws u).lookup ("bottom" : Str) = some (.int b) := by unfold Q1B; rw [Q0s (by decide +kernel),Q0s (by decide +kernel),Q0s (by decide +kernel),Q1N]
theorem wl_tops : (Q1B m s t b ws u).lookup ("tops" : Str) = some (.tup (ws.map D.int)) := by unfold Q1B; rw [Q0s (by decide +kernel),Q0s (by decide +kernel),Q0s (by decide +kernel),Q0s (by decide +kernel),Q1N]
theorem wl_under : (Q1B m s t b ws u).lookup ("under" : Str) = some (.int u) := by unfold Q1B; rw [Q0s (by decide +kernel),Q0s (by decide +kernel),Q0s (by decide +kernel),Q0s (by decide +kernel),Q0s (by decide +kernel),Q1N]
theorem wl_no {f : Str} (h : ([("many" : Str),"scale","top","bottom","tops","under"].all λ g => !(f == g)) = true) : (Q1B m s t b ws u).lookup f = none := by
 simp only [List.all_cons,List.all_nil,Bool.and_true,Bool.and_eq_true,Bool.not_eq_true'] at h
 obtain ⟨h1,h2,h3,h4,h5,h6⟩ := h
 unfold Q1B
 rw [Q0s h1,Q0s h2,Q0s h3,Q0s h4,Q0s h5,Q0s h6]
 rfl
end
def spHeedH (CK1 : Addr) : SpD := λ ds O R => ∃ (q : Nat) (m s : Int),ds = [.ptr q] /\ O[q]? = some (some (.ins CK1 (Q2c m s))) /\ (1 <= m /\ m <= 24) /\ R (.tup ((List.replicate m.toNat (1 : Int)).map D.int)) O
theorem Q1H {O : Sto} {q : Nat} {x y : Option MO} (h : O[q]? = some x) : (O.set q y)[q]? = some y := by
 have := (List.getElem?_eq_some_iff.mp h).1
 rw [List.getElem?_set_self this]
theorem ones (n : Nat) : (List.replicate n [D.int 1]).flatten = (List.replicate n (1 : Int)).map D.int := by rw [rep1,List.map_replicate]
def TnOk (m : Nat) (s : Int) (t : Tn) : Prop := t.1.length = m /\ (∀ w ∈ t.1,w = none \/ onS s w = true) /\ 0 <= t.2 /\ t.2 <= s
def prA (said : List (Option Int)) (ws : List Int) : List (Int × Int) := (ax said).map λ k => ((sat2 said k).getD 0,ws.getD k 0)
theorem prA_zip (said : List (Option Int)) (ws : List Int) : prA said ws = (nsA said).zip (wsA said ws) := by
 unfold prA nsA wsA
 rw [List.zip_map']
theorem ones_sum (w : List Int) : (w.map λ _ => (1 : Int)).sum = (w.length : Nat) := by
 induction w with
 | nil => rfl
 | cons a l ih => rw [List.map_cons,List.sum_cons,ih,List.length_cons]; omega
theorem eqD_selfI (a : List Int) : eqD (.tup (a.map D.int)) (.tup (a.map D.int)) = true := by rw [eqD_intsT,decide_eq_true rfl]
theorem plT (a : List Int) : plD (.tup (a.map D.int)) = true := plD_ints a
theorem dp_ints (a : List Int) : dpD (.tup (a.map D.int)) <= 60 := by
 have := dpD_ints a
 show dpDs (a.map D.int) + 1 <= 60
 omega
theorem TnOk.said {m : Nat} {s : Int} {t : Tn} (h : TnOk m s t) (hm : m <= 24) : Q0N (m : Nat) s t.1 := ⟨by rw [h.1],by omega,h.2.1⟩
def spPow : List D -> D -> Prop := λ ds d => ∃ b n : Int,ds = [.int b,.int n] /\ (0 <= b /\ b <= 1000) /\ (0 <= n /\ n <= 60000) /\ d = .int (b ^ n.toNat)
theorem Q4k {a b : Int} (h0 : 0 <= a) (h : a <= b) : ∀ n : Nat,a ^ n <= b ^ n
 | 0 => by simp
 | n + 1 => by
  rw [Int.pow_succ,Int.pow_succ]
  exact Int.mul_le_mul (Q4k h0 h n) h h0 (Int.pow_nonneg (Int.le_trans h0 h))
theorem small {a : Int} (h0 : 0 <= a) (h : a < 256) (n : Nat) : 0 <= a ^ n /\ a ^ n < 2 ^ (8 * n + 1) := by
 refine ⟨Int.pow_nonneg h0,?_⟩
 have h1 : a ^ n <= 256 ^ n := Q4k h0 (Int.le_of_lt h) n
 have h2 : (2 : Int) ^ (8 * n + 1) = 256 ^ n * 2 := by rw [Int.pow_succ,Int.pow_mul]; rfl
 have h3 : (0 : Int) < 256 ^ n := Int.pow_pos (by decide)
 rw [h2]
 omega
def Q2V : List D -> D -> Prop := λ ds d => ∃ (w : Option Int) (z : Int),ds = [od w,.int z] /\ d = .int (chg w z)
def tA (t b sc own off : Int) : Int := t ^ off.toNat * b ^ (sc - off).toNat * 2 * b ^ own.toNat
def tS (t b sc own : Int) : Int := b ^ sc.toNat * (b ^ own.toNat + t ^ own.toNat)
def tF (t b sc own so : Int) : Option Int -> Int
 | none => tS t b sc own
 | some x => tA t b sc own (ab (x - so))
def Q2G (t b sc d so : Int) (said : List (Option Int)) (ws : List Int) : List Int := (ws.zip said).map λ p => p.1 * tF t b sc d so p.2
structure Frac (sc t b : Int) : Prop where
 s1 : 1 <= sc
 s2 : sc <= 10
 t0 : 0 <= t
 tb : t < b
 b2 : b <= 100
structure WOk (n : Nat) (ws : List Int) (u : Int) : Prop where
 w : ∀ x ∈ ws,0 <= x /\ x < 2 ^ (250 * (n + 1))
 u0 : 0 <= u
 u1 : u < 2 ^ (250 * (n + 1))
theorem Q2s {x y : Int} {a c : Nat} (x0 : 0 <= x) (x1 : x < 2 ^ a) (y0 : 0 <= y) (y1 : y < 2 ^ c) : 0 <= x * y /\ x * y < 2 ^ (a + c) := by
 refine ⟨Int.mul_nonneg x0 y0,?_⟩
 rw [Int.pow_add]
 by_cases h : y = 0
 ·subst h
  rw [Int.mul_zero]
  exact Int.mul_pos (Int.pow_pos (by decide)) (Int.pow_pos (by decide))
 ·have h1 : x * y < 2 ^ a * y := Int.mul_lt_mul_of_pos_right x1 (by omega)
  have h2 : 2 ^ a * y <= 2 ^ a * 2 ^ c := Int.mul_le_mul_of_nonneg_left (Int.le_of_lt y1) (Int.pow_nonneg (by decide))
  omega
theorem p2_le {x : Int} {a c : Nat} (h : x < 2 ^ a) (hc : a <= c) : x < 2 ^ c := by
 obtain ⟨d,rfl⟩ := Nat.exists_eq_add_of_le hc
 have h1 : (1 : Int) <= 2 ^ d := Int.pow_pos (by decide)
 have h2 : (0 : Int) <= 2 ^ a := Int.pow_nonneg (by decide)
 have := Int.mul_le_mul_of_nonneg_left h1 h2
 rw [Int.pow_add]
 omega
theorem pw81 {x : Int} {e : Int} (h0 : 0 <= x) (h1 : x <= 100) (he : e <= 10) : 0 <= x ^ e.toNat /\ x ^ e.toNat < 2 ^ 81 := by
 have := small h0 (show x < 256 by omega) e.toNat
 exact ⟨this.1,p2_le this.2 (by omega)⟩
theorem tA_ok {sc t b own off : Int} (h : Frac sc t b) (ho : own <= sc) (hf : 0 <= off /\ off <= sc) : 0 <= tA t b sc own off /\ tA t b sc own off < 2 ^ 250 := by
 have := h.s1; have := h.s2; have := h.t0; have := h.tb; have := h.b2
 have a1 := pw81 (x := t) (e := off) h.t0 (by omega) (by omega)
 have a2 := pw81 (x := b) (e := sc - off) (by omega) (by omega) (by omega)
 have a3 := pw81 (x := b) (e := own) (by omega) (by omega) (by omega)
 have b1 := Q2s a1.1 a1.2 a2.1 a2.2
 have b2 := Q2s (c := 2) b1.1 b1.2 (show (0 : Int) <= 2 by decide) (by decide)
 have b3 := Q2s b2.1 b2.2 a3.1 a3.2
 exact ⟨b3.1,p2_le b3.2 (by decide)⟩
theorem tS_ok {sc t b own : Int} (h : Frac sc t b) (ho : own <= sc) : 0 <= tS t b sc own /\ tS t b sc own < 2 ^ 250 := by
 have := h.s1; have := h.s2; have := h.t0; have := h.tb; have := h.b2
 have a1 := pw81 (x := b) (e := sc) (by omega) (by omega) (by omega)
 have a2 := pw81 (x := b) (e := own) (by omega) (by omega) (by omega)
 have a3 := pw81 (x := t) (e := own) h.t0 (by omega) (by omega)
 have e : (2 : Int) ^ 82 = 2 ^ 81 + 2 ^ 81 := by decide
 have b1 := Q2s (y := b ^ own.toNat + t ^ own.toNat) (c := 82) a1.1 a1.2 (by omega) (by rw [e]; omega)
 exact ⟨b1.1,p2_le b1.2 (by decide)⟩
theorem onS_ok {s x : Int} (h : onS s (some x) = true) : 0 <= x /\ x <= s := by
 have h : (decide (0 <= x) && decide (x <= s)) = true := h
 rw [Bool.and_eq_true] at h
 exact ⟨of_decide_eq_true h.1,of_decide_eq_true h.2⟩
theorem ab_ok {s x so : Int} (h : 0 <= x /\ x <= s) (hs : 0 <= so /\ so <= s) : 0 <= ab (x - so) /\ ab (x - so) <= s := by
 unfold ab
 split <;> omega
theorem tF_ok {sc t b own so : Int} {w : Option Int} (h : Frac sc t b) (ho : own <= sc) (hs : 0 <= so /\ so <= sc) (hw : w = none \/ onS sc w = true) : 0 <= tF t b sc own so w /\ tF t b sc own so w < 2 ^ 250 := by
 cases w with
 | none => exact tS_ok h ho
 | some x =>
  rcases hw with hw | hw
  ·cases hw
  ·exact tA_ok h ho (ab_ok (onS_ok hw) hs)
theorem Q3n {m sc : Int} {said : List (Option Int)} {ws : List Int} (hs : Q0N m sc said) (h0 : 0 <= sc) (hw : Wok ws) : 0 <= midA said ws /\ midA said ws <= sc := by
 have h24 : said.length <= 24 := by have := hs.1; have := hs.2.1; omega
 have hr := right_mid (twoA (ws := ws) h24 hw)
 unfold midA
 unfold rightB at hr
 by_cases hn : nsA said = []
 ·rw [if_pos hn] at hr
  rw [of_decide_eq_true hr]
  omega
 ·rw [if_neg hn,Bool.and_eq_true] at hr
  have hm := of_decide_eq_true hr.1
  unfold nsA at hm
  obtain ⟨k,hk,e⟩ := List.mem_map.mp hm
  have hlt := ax_lt hk
  have hq := (List.mem_filter.mp hk).2
  unfold nsA
  rw [<- e]
  have hmem : sat2 said k ∈ said := by
   unfold sat2
   rw [List.getElem?_eq_getElem hlt]
   exact List.getElem_mem hlt
  cases hx : sat2 said k with
  | none => rw [hx] at hq; cases hq
  | some x =>
   rw [hx] at hmem
   rcases hs.2.2 _ hmem with h | h
   ·cases h
   ·exact onS_ok h
def Q5f : List D -> D -> Prop := λ ds d => ∃ (m s : Int) (said : List (Option Int)) (so : Int),ds = [.int m,.int s,.tup [.tup (said.map od),.int so]] /\ Q0N m s said /\ (0 <= so /\ so <= s) /\ d = .bl true
def Q1r : List D -> D -> Prop := λ ds d => ∃ (m s : Int) (said : List (Option Int)) (so : Int),ds = [.int m,.int s,.tup (said.map od),.int so] /\ Q0N m s said /\ (0 <= so /\ so <= s) /\ d = .non
theorem wput_tops (m s t b u : Int) (ws vs : List Int) : putD "tops" (.tup (vs.map D.int)) (Q1B m s t b ws u) = Q1B m s t b vs u := by
 unfold Q1B
 rw [Q0q (by decide +kernel),Q0q (by decide +kernel),Q0q (by decide +kernel),Q0q (by decide +kernel),Q4K]
theorem wput_under (m s t b u v : Int) (ws : List Int) : putD "under" (.int v) (Q1B m s t b ws u) = Q1B m s t b ws v := by
 unfold Q1B
 rw [Q0q (by decide +kernel),Q0q (by decide +kernel),Q0q (by decide +kernel),Q0q (by decide +kernel),Q0q (by decide +kernel),Q4K]
def nW (t b sc dd so : Int) (said : List (Option Int)) (ws : List Int) (k : Nat) : Int := ws.getD k 0 * tF t b sc dd so (sat2 said k)
theorem nW_all {t b sc dd so : Int} {said : List (Option Int)} {ws : List Int} (h : ws.length = said.length) : (List.range said.length).map (nW t b sc dd so said ws) = Q2G t b sc dd so said ws := by
 unfold Q2G nW
 refine List.ext_getElem? λ i => ?_
 rw [List.getElem?_map,List.getElem?_map]
 by_cases hi : i < said.length
 ·have hz : i < (ws.zip said).length := by rw [List.length_zip]; omega
  rw [List.getElem?_range hi,List.getElem?_eq_getElem hz,List.getElem_zip]
  have h1 : ws.getD i 0 = ws[i] := by rw [List.getD_eq_getElem?_getD,List.getElem?_eq_getElem (by omega)]; rfl
  have h2 : sat2 said i = said[i] := by unfold sat2; rw [List.getElem?_eq_getElem hi]; rfl
  show some (ws.getD i 0 * tF t b sc dd so (sat2 said i)) = some (ws[i] * tF t b sc dd so said[i])
  rw [h1,h2]
 ·rw [List.getElem?_eq_none (by simp; omega),List.getElem?_eq_none (by rw [List.length_zip]; omega)]
  rfl
theorem wOk_next {n : Nat} {t b sc dd so u : Int} {said : List (Option Int)} {ws : List Int} (hf : Frac sc t b) (hw : WOk n ws u) (hs : ∀ w ∈ said,w = none \/ onS sc w = true) (hso : 0 <= so /\ so <= sc) (hd : 0 <= dd /\ dd <= sc) : WOk (n + 1) (Q2G t b sc dd so said ws) (u * tS t b sc dd) := by
 have e : 250 * (n + 1 + 1) = 250 * (n + 1) + 250 := by omega
 have h1 := tS_ok (own := dd) hf hd.2
 have h2 := Q2s hw.u0 hw.u1 h1.1 h1.2
 refine ⟨λ x hx => ?_,h2.1,by rw [e]; exact h2.2⟩
 obtain ⟨p,hp,rfl⟩ := List.mem_map.mp hx
 have h3 := hw.w _ (List.of_mem_zip hp).1
 have h4 := tF_ok hf hd.2 hso (hs _ (List.of_mem_zip hp).2)
 have h5 := Q2s h3.1 h3.2 h4.1 h4.2
 exact ⟨h5.1,by rw [e]; exact h5.2⟩
theorem Q3m {t b sc dd so : Int} {said : List (Option Int)} {ws : List Int} (h : ws.length = said.length) : (Q2G t b sc dd so said ws).length = ws.length := by
 unfold Q2G
 rw [List.length_map,List.length_zip]
 omega
theorem wOk_ones (n : Nat) : WOk 0 (List.replicate n 1) 1 := ⟨λ x hx => by rw [List.eq_of_mem_replicate hx]; exact ⟨by decide,by decide⟩,by decide,by decide⟩
def nxt (x : Int) : Int := (x * x + 48271 * x + 11) % 2147483647
def Lo (x : Int) : Prop := 0 <= x /\ x < 2147483647
theorem nxt_lo (x : Int) : Lo (nxt x) := by unfold Lo nxt; omega
def Q2y (c k : Int) : Int := nxt (nxt ((c % 2147483647 + 69621 * k * k + 5) % 2147483647))
theorem seed_lo (c k : Int) : Lo (Q2y c k) := nxt_lo _
def spNext : List D -> D -> Prop := λ ds d => ∃ x : Int,ds = [.int x] /\ (0 <= x /\ x < 3000000000) /\ d = .int (nxt x)
def spSeedS : List D -> D -> Prop := λ ds d => ∃ (ns : List Int) (k : Int),ds = [.scr (ns.map D.int),.int k] /\ (0 <= k /\ k <= 1000) /\ d = .int (Q2y (Q1a ns k) k)
def whatR (s : Int) (sl : Bool) (so k x : Int) : Option Int := if (sl && decide (x % 4 = 0)) = true then none else some (if 1 < x / 3 % (k % 7 + 3) then so else x / 16 % (s + 1))
def runR (s : Int) (sl : Bool) (so : Int) : Nat -> Nat -> Int -> List (Option Int)
 | 0,_,_ => []
 | n + 1,k,x => whatR s sl so (k : Int) (nxt (x + (k : Int))) :: runR s sl so n (k + 1) (nxt (x + (k : Int)))
theorem runR_len (s : Int) (sl : Bool) (so : Int) : ∀ (n k : Nat) (x : Int),(runR s sl so n k x).length = n
 | 0,_,_ => rfl
 | n + 1,k,x => by unfold runR; rw [List.length_cons,runR_len s sl so n]
theorem whatR_ok {s so : Int} {sl : Bool} (hs : 1 <= s) (hso : 0 <= so /\ so <= s) (k x : Int) : whatR s sl so k x = none \/ onS s (whatR s sl so k x) = true := by
 unfold whatR
 split
 ·exact .inl rfl
 ·right
  show (decide (0 <= _) && decide (_ <= s)) = true
  rw [Bool.and_eq_true,decide_eq_true_eq,decide_eq_true_eq]
  have h1 := Int.emod_nonneg (x / 16) (show s + 1 ≠ 0 by omega)
  have h2 := Int.emod_lt_of_pos (x / 16) (show 0 < s + 1 by omega)
  split <;> omega
theorem runR_ok {s so : Int} {sl : Bool} (hs : 1 <= s) (hso : 0 <= so /\ so <= s) : ∀ (n k : Nat) (x : Int),∀ w ∈ runR s sl so n k x,w = none \/ onS s w = true
 | 0,_,_,w,h => by cases h
 | n + 1,k,x,w,h => by
  unfold runR at h
  rcases List.mem_cons.mp h with rfl | h
  ·exact whatR_ok hs hso _ _
  ·exact runR_ok hs hso n _ _ w h
def turnR (m : Nat) (s : Int) (sl : Bool) (x : Int) : Tn := (runR s sl (x / 7 % (s + 1)) m 0 x,x / 7 % (s + 1))
theorem turnR_ok {m : Nat} {s : Int} {sl : Bool} (hs : 1 <= s) (x : Int) : TnOk m s (turnR m s sl x) := by
 have h1 := Int.emod_nonneg (x / 7) (show s + 1 ≠ 0 by omega)
 have h2 := Int.emod_lt_of_pos (x / 7) (show 0 < s + 1 by omega)
 exact ⟨runR_len _ _ _ _ _ _,runR_ok hs ⟨h1,by omega⟩ _ _ _,h1,show x / 7 % (s + 1) <= s by omega⟩
def spTurnR : List D -> D -> Prop := λ ds d => ∃ (x : Int) (m : Nat) (s : Int) (sl : Bool),ds = [.int x,.int (m : Nat),.int s,.bl sl] /\ Lo x /\ m <= 24 /\ 1 <= s /\ d = tD (turnR m s sl x)
def fews : List Int := [3,3,3,3,3,8,3,3]
def fewR (x : Int) : Int := fews.getD (x % 8).toNat 0
theorem fewR_at (x : Int) : atI (fews.map D.int) (x % 8) = some (.int (fewR x)) := by
 have h : 0 <= x % 8 /\ x % 8 < 8 := by omega
 unfold fewR
 generalize x % 8 = i at h
 obtain ⟨k,rfl⟩ := Int.eq_ofNat_of_zero_le h.1
 have hk : k < 8 := by omega
 have : k = 0 \/ k = 1 \/ k = 2 \/ k = 3 \/ k = 4 \/ k = 5 \/ k = 6 \/ k = 7 := by omega
 rcases this with rfl | rfl | rfl | rfl | rfl | rfl | rfl | rfl <;> rfl
theorem fewR_le (x : Int) : 3 <= fewR x /\ fewR x <= 30 := by
 have h : (x % 8).toNat < 8 := by omega
 unfold fewR
 generalize (x % 8).toNat = i at h
 have : ∀ k : Nat,k < 8 -> 3 <= fews.getD k 0 /\ fews.getD k 0 <= 30 := by decide
 exact this i h
def mostR (m : Nat) : Int := if 8 < m then 8 else 24
def endR (ns : List Int) (st : Int) (m : Nat) : Int :=
 if st + mostR m < (if st + fewR (Q2y (Q1a ns st) st) > (ns.length : Nat) then st + fewR (Q2y (Q1a ns st) st) else (ns.length : Nat)) then st + mostR m else (if st + fewR (Q2y (Q1a ns st) st) > (ns.length : Nat) then st + fewR (Q2y (Q1a ns st) st) else (ns.length : Nat))
def turnsR (ns : List Int) (st : Int) (m : Nat) (s : Int) (sl : Bool) : List Tn := (List.range (endR ns st m - st).toNat).map λ j : Nat => turnR m s sl (Q2y (Q1a ns (st + (j : Int))) (st + (j : Int)))
theorem endR_le (ns : List Int) (st : Int) (m : Nat) : endR ns st m <= st + 60 := by
 unfold endR mostR
 split <;> split <;> split <;> omega
theorem endR_ge {ns : List Int} {st : Int} {m : Nat} : st + 3 <= endR ns st m := by
 have := fewR_le (Q2y (Q1a ns st) st)
 unfold endR mostR
 split <;> split <;> split <;> omega
theorem turnsR_ok {ns : List Int} {st : Int} {m : Nat} {s : Int} {sl : Bool} (hs : 1 <= s) : ∀ t ∈ turnsR ns st m s sl,TnOk m s t := λ t ht => by
 obtain ⟨j,_,rfl⟩ := List.mem_map.mp ht
 exact turnR_ok hs _
def spTurnsR : List D -> D -> Prop := λ ds d => ∃ (ns : List Int) (st : Int) (m : Nat) (s : Int) (sl : Bool),ds = [.scr (ns.map D.int),.int st,.int (m : Nat),.int s,.bl sl] /\ ns.length <= 63 /\ (0 <= st /\ st <= 10) /\ m <= 24 /\ 1 <= s /\ d = .tup ((turnsR ns st m s sl).map tD)
def preX : List D -> Prop := λ ds => ∃ c : Int,ds = [.int c]
def relMany : List D -> D -> Prop := λ _ d => ∃ m : Nat,d = .int (m : Nat) /\ 1 <= m /\ m <= 24
theorem twosR {a b i : Int} (h : i = 0 \/ i = 1) : atI [D.int a,D.int b] i = some (.int (if i = 0 then a else b)) := by
 rcases h with rfl | rfl <;> rfl
structure SP where
 m : Int
 sc : Int
 t : Int
 b : Int
 sh : Int
 pa : Int
def f7 (m s t b : Int) (ws : List Int) (u sh : Int) : List (Str × D) := [("many",.int m),("scale",.int s),("top",.int t),("bottom",.int b),("tops",.tup (ws.map D.int)),("under",.int u),("share",.int sh)]
def shiF (p : SP) (ws : List Int) (u : Int) : List (Str × D) := [("many",.int p.m),("scale",.int p.sc),("top",.int p.t),("bottom",.int p.b),("tops",.tup (ws.map D.int)),("under",.int u),("share",.int p.sh),("parts",.int p.pa)]
theorem put_share (m s t b u sh : Int) (ws : List Int) : putD "share" (.int sh) (Q1B m s t b ws u) = f7 m s t b ws u sh := by
 unfold Q1B
 rw [Q0q (by decide +kernel),Q0q (by decide +kernel),Q0q (by decide +kernel),Q0q (by decide +kernel),Q0q (by decide +kernel),Q0q (by decide +kernel)]
 rfl
theorem put_parts (m s t b u sh pa : Int) (ws : List Int) : putD "parts" (.int pa) (f7 m s t b ws u sh) = shiF ⟨m,s,t,b,sh,pa⟩ ws u := by
 unfold f7
 rw [Q0q (by decide +kernel),Q0q (by decide +kernel),Q0q (by decide +kernel),Q0q (by decide +kernel),Q0q (by decide +kernel),Q0q (by decide +kernel),Q0q (by decide +kernel)]
 rfl
theorem sput_tops (p : SP) (u : Int) (ws vs : List Int) : putD "tops" (.tup (vs.map D.int)) (shiF p ws u) = shiF p vs u := by
 unfold shiF
 rw [Q0q (by decide +kernel),Q0q (by decide +kernel),Q0q (by decide +kernel),Q0q (by decide +kernel),Q4K]
theorem sput_under (p : SP) (u v : Int) (ws : List Int) : putD "under" (.int v) (shiF p ws u) = shiF p ws v := by
 unfold shiF
 rw [Q0q (by decide +kernel),Q0q (by decide +kernel),Q0q (by decide +kernel),Q0q (by decide +kernel),Q0q (by decide +kernel),Q4K]
section
variable (p : SP) (u : Int) (ws : List Int)
theorem zl_many : (shiF p ws u).lookup ("many" : Str) = some (.int p.m) := Q1N
theorem zl_scale : (shiF p ws u).lookup ("scale" : Str) = some (.int p.sc) := by unfold shiF; rw [Q0s (by decide +kernel),Q1N]
theorem zl_top : (shiF p ws u).lookup ("top" : Str) = some (.int p.t) := by unfold shiF; rw [Q0s (by decide +kernel),Q0s (by decide +kernel),Q1N]
theorem zl_bottom : (shiF p ws u).lookup ("bottom" : Str) = some (.int p.b) := by unfold shiF; rw [Q0s (by decide +kernel),Q0s (by decide +kernel),Q0s (by decide +kernel),Q1N]
theorem zl_tops : (shiF p ws u).lookup ("tops" : Str) = some (.tup (ws.map D.int)) := by unfold shiF; rw [Q0s (by decide +kernel),Q0s (by decide +kernel),Q0s (by decide +kernel),Q0s (by decide +kernel),Q1N]
theorem zl_under : (shiF p ws u).lookup ("under" : Str) = some (.int u) := by unfold shiF; rw [Q0s (by decide +kernel),Q0s (by decide +kernel),Q0s (by decide +kernel),Q0s (by decide +kernel),Q0s (by decide +kernel),Q1N]
theorem zl_share : (shiF p ws u).lookup ("share" : Str) = some (.int p.sh) := by unfold shiF; rw [Q0s (by decide +kernel),Q0s (by decide +kernel),Q0s (by decide +kernel),Q0s (by decide +kernel),Q0s (by decide +kernel),Q0s (by decide +kernel),Q1N]
theorem zl_parts : (shiF p ws u).lookup ("parts" : Str) = some (.int p.pa) := by unfold shiF; rw [Q0s (by decide +kernel),Q0s (by decide +kernel),Q0s (by decide +kernel),Q0s (by decide +kernel),Q0s (by decide +kernel),Q0s (by decide +kernel),Q0s (by decide +kernel),Q1N]
theorem zl_no {f : Str} (h : ([("many" : Str),"scale","top","bottom","tops","under","share","parts"].all λ g => !(f == g)) = true) : (shiF p ws u).lookup f = none := by
 simp only [List.all_cons,List.all_nil,Bool.and_true,Bool.and_eq_true,Bool.not_eq_true'] at h
 obtain ⟨h1,h2,h3,h4,h5,h6,h7,h8⟩ := h
 unfold shiF
 rw [Q0s h1,Q0s h2,Q0s h3,Q0s h4,Q0s h5,Q0s h6,Q0s h7,Q0s h8]
 rfl
end
structure SOk (p : SP) : Prop where
 f : Frac p.sc p.t p.b
 m1 : 1 <= p.m
 m2 : p.m <= 24
 h1 : 1 <= p.sh
 h2 : p.sh < p.pa
 h3 : p.pa <= 100
def SAt (C : Addr) (O : Sto) (q : Nat) (p : SP) (ws : List Int) (u : Int) : Prop := O[q]? = some (some (.ins C (shiF p ws u)))
structure WOkS (n : Nat) (ws : List Int) (u : Int) : Prop where
 w : ∀ x ∈ ws,0 <= x /\ x < 2 ^ (270 * (n + 1))
 u0 : 0 <= u
 u1 : u < 2 ^ (270 * (n + 1))
theorem Q4a (n : Nat) : WOkS 0 (List.replicate n 1) 1 := ⟨λ x hx => by rw [List.eq_of_mem_replicate hx]; exact ⟨by decide,by decide⟩,by decide,by decide⟩
def dealL (p : SP) (ws : List Int) : List Int := ws.map λ w => w * (p.m * (p.pa - p.sh)) + p.sh * ws.sum
theorem deal_len (p : SP) (ws : List Int) : (dealL p ws).length = ws.length := by unfold dealL; rw [List.length_map]
theorem kept_ok {p : SP} (h : SOk p) : 0 <= p.m * (p.pa - p.sh) /\ p.m * (p.pa - p.sh) <= 2376 := by
 have := h.m1; have := h.m2; have := h.h1; have := h.h2; have := h.h3
 have h1 : p.m * (p.pa - p.sh) <= 24 * (p.pa - p.sh) := Int.mul_le_mul_of_nonneg_right (by omega) (by omega)
 have h2 : 0 <= p.m * (p.pa - p.sh) := Int.mul_nonneg (by omega) (by omega)
 omega
theorem deal_ok {p : SP} {ws : List Int} {e : Nat} (h : SOk p) (hl : ws.length <= 24) (hw : ∀ x ∈ ws,0 <= x /\ x < 2 ^ e) : ∀ x ∈ dealL p ws,0 <= x /\ x < 2 ^ (e + 13) := by
 have := h.h1; have := h.h2; have := h.h3
 have hk := kept_ok h
 have hE : (1 : Int) <= 2 ^ e := Int.pow_pos (by decide)
 have e13 : (2 : Int) ^ (e + 13) = 2 ^ e * 8192 := by rw [Int.pow_add]; rfl
 have hs0 : 0 <= ws.sum := by
  have := sm_pos (g := λ x : Int => x) (l := ws) λ v hv => (hw v hv).1
  rw [<- Q4d,List.map_id'] at this
  exact this
 have hs1 : ws.sum <= 24 * 2 ^ e := by
  have := sm_bd' (g := λ x : Int => x) (l := ws) (B := 2 ^ e) (n := 24) (by omega) hl λ v hv => by have := (hw v hv).2; omega
  rw [<- Q4d,List.map_id'] at this
  exact this
 rw [e13]
 generalize (2 : Int) ^ e = E at hE hs1 hw
 intro x hx
 obtain ⟨w,hw',rfl⟩ := List.mem_map.mp hx
 have h1 := hw w hw'
 generalize p.m * (p.pa - p.sh) = K at hk
 have a1 : w * K <= E * K := Int.mul_le_mul_of_nonneg_right (by omega) hk.1
 have a2 : E * K <= E * 2376 := Int.mul_le_mul_of_nonneg_left hk.2 (by omega)
 have a3 : p.sh * ws.sum <= 99 * ws.sum := Int.mul_le_mul_of_nonneg_right (by omega) hs0
 have a4 : 0 <= p.sh * ws.sum := Int.mul_nonneg (by omega) hs0
 have a5 : 0 <= w * K := Int.mul_nonneg h1.1 hk.1
 omega
theorem wOkS_next {n : Nat} {p : SP} {dd so u : Int} {said : List (Option Int)} {ws : List Int} (h : SOk p) (hw : WOkS n ws u) (hl : ws.length = said.length) (h24 : said.length <= 24) (hs : ∀ w ∈ said,w = none \/ onS p.sc w = true) (hso : 0 <= so /\ so <= p.sc) (hd : 0 <= dd /\ dd <= p.sc) : WOkS (n + 1) (dealL p (Q2G p.t p.b p.sc dd so said ws)) (u * tS p.t p.b p.sc dd * p.m * p.pa) := by
 have := h.m1; have := h.m2; have := h.h1; have := h.h2; have := h.h3
 have h1 := tS_ok (own := dd) h.f hd.2
 have h2 := Q2s hw.u0 hw.u1 h1.1 h1.2
 have h3 := Q2s (c := 5) h2.1 h2.2 (show 0 <= p.m by omega) (by omega)
 have h4 := Q2s (c := 7) h3.1 h3.2 (show 0 <= p.pa by omega) (by omega)
 refine ⟨λ x hx => ?_,h4.1,p2_le h4.2 (by omega)⟩
 have hb : ∀ x ∈ Q2G p.t p.b p.sc dd so said ws,0 <= x /\ x < 2 ^ (270 * (n + 1) + 250) := λ x hx => by
  obtain ⟨q,hq,rfl⟩ := List.mem_map.mp hx
  have g3 := hw.w _ (List.of_mem_zip hq).1
  have g4 := tF_ok h.f hd.2 hso (hs _ (List.of_mem_zip hq).2)
  exact Q2s g3.1 g3.2 g4.1 g4.2
 have := deal_ok h (by rw [Q3m hl,hl]; exact h24) hb x hx
 exact ⟨this.1,p2_le this.2 (by omega)⟩
def spShare : List D -> D -> Prop := λ ds d => ∃ a b : Int,ds = [.int a,.int b] /\ (1 <= a /\ a < b /\ b <= 100) /\ d = .non
def spInitS (C : Addr) : SpD := λ ds O R => ∃ (q : Nat) (p : SP),ds = [.ptr q,.int p.m,.int p.sc,.int p.t,.int p.b,.int p.sh,.int p.pa] /\ O[q]? = some (some (.ins C [])) /\ SOk p /\ R .non (O.set q (some (.ins C (shiF p (List.replicate p.m.toNat 1) 1))))
def spDealS (C : Addr) : SpD := λ ds O R => ∃ (q : Nat) (p : SP) (u : Int) (ws : List Int),ds = [.ptr q] /\ SAt C O q p ws u /\ SOk p /\ ws.length <= 24 /\ R .non (O.set q (some (.ins C (shiF p (dealL p ws) (u * p.m * p.pa)))))
def wsC (CW CS : Addr) : Bool -> Addr
 | false => CW
 | true => CS
def wsF (sf : Bool) (p : SP) (ws : List Int) (u : Int) : List (Str × D) := match sf with
 | false => Q1B p.m p.sc p.t p.b ws u
 | true => shiF p ws u
section
variable (sf : Bool) (p : SP) (u : Int) (ws : List Int)
theorem vl_many : (wsF sf p ws u).lookup ("many" : Str) = some (.int p.m) := by cases sf; exact wl_many ..; exact zl_many ..
theorem Q5d : (wsF sf p ws u).lookup ("scale" : Str) = some (.int p.sc) := by cases sf; exact wl_scale ..; exact zl_scale ..
theorem vl_top : (wsF sf p ws u).lookup ("top" : Str) = some (.int p.t) := by cases sf; exact wl_top ..; exact zl_top ..
theorem Q4b : (wsF sf p ws u).lookup ("bottom" : Str) = some (.int p.b) := by cases sf; exact wl_bottom ..; exact zl_bottom ..
theorem vl_tops : (wsF sf p ws u).lookup ("tops" : Str) = some (.tup (ws.map D.int)) := by cases sf; exact wl_tops ..; exact zl_tops ..
theorem vl_under : (wsF sf p ws u).lookup ("under" : Str) = some (.int u) := by cases sf; exact wl_under ..; exact zl_under ..
theorem vl_no {f : Str} (h : ([("many" : Str),"scale","top","bottom","tops","under"].all λ g => !(f == g)) = true) (h2 : ([("many" : Str),"scale","top","bottom","tops","under","share","parts"].all λ g => !(f == g)) = true) : (wsF sf p ws u).lookup f = none := by
 cases sf
 ·exact wl_no _ _ _ _ _ _ h
 ·exact zl_no _ _ _ h2
theorem vlen : (wsF sf p ws u).length < 1000 := by cases sf; show 6 < 1000; decide; show 8 < 1000; decide
theorem vput_tops (vs : List Int) : putD "tops" (.tup (vs.map D.int)) (wsF sf p ws u) = wsF sf p vs u := by cases sf; exact wput_tops ..; exact sput_tops ..
theorem vput_under (v : Int) : putD "under" (.int v) (wsF sf p ws u) = wsF sf p ws v := by cases sf; exact wput_under ..; exact sput_under ..
end
def VAt (CW CS : Addr) (O : Sto) (q : Nat) (sf : Bool) (p : SP) (ws : List Int) (u : Int) : Prop := O[q]? = some (some (.ins (wsC CW CS sf) (wsF sf p ws u)))
structure VOk (sf : Bool) (p : SP) : Prop where
 f : Frac p.sc p.t p.b
 m1 : 1 <= p.m
 m2 : p.m <= 24
 s : sf = true -> 1 <= p.sh /\ p.sh < p.pa /\ p.pa <= 100
theorem VOk.so {p : SP} (h : VOk true p) : SOk p := ⟨h.f,h.m1,h.m2,(h.s rfl).1,(h.s rfl).2.1,(h.s rfl).2.2⟩
def hrW (sf : Bool) (p : SP) (said : List (Option Int)) (so : Int) (ws : List Int) : List Int := match sf with
 | false => Q2G p.t p.b p.sc (ab (midA said ws - so)) so said ws
 | true => dealL p (Q2G p.t p.b p.sc (ab (midA said ws - so)) so said ws)
def hrU (sf : Bool) (p : SP) (said : List (Option Int)) (so : Int) (ws : List Int) (u : Int) : Int := match sf with
 | false => u * tS p.t p.b p.sc (ab (midA said ws - so))
 | true => u * tS p.t p.b p.sc (ab (midA said ws - so)) * p.m * p.pa
section
variable {P : Program} {w : World} {K : PySem.W.Frag} {mg : Str -> Option Value} {base : Heap} {CW CS : Addr} {k1 k2 : Nat} {m : Str} {sp : SpD} {sq : Bool -> SpD}
theorem cv (h1 : Cls K CW) (h2 : Cls K CS) (sf : Bool) : Cls K (wsC CW CS sf) := by cases sf; exact h1; exact h2
theorem nv (h1 : Q0u K CW m) (h2 : Q0u K CS m) (sf : Bool) : Q0u K (wsC CW CS sf) m := by cases sf; exact h1; exact h2
theorem mv (h1 : Q0h P w K mg base CW k1 m sp) (h2 : Q0h P w K mg base CS k1 m sp) (sf : Bool) : Q0h P w K mg base (wsC CW CS sf) k1 m sp := by cases sf; exact h1; exact h2
theorem mv2 (h1 : Q0h P w K mg base CW k1 m (sq false)) (h2 : Q0h P w K mg base CS k2 m (sq true)) (sf : Bool) : Q0h P w K mg base (wsC CW CS sf) (max k1 k2) m (sq sf) := by cases sf; exact h1.mono (Nat.le_max_left _ _); exact h2.mono (Nat.le_max_right _ _)
end
def Q2B (CW CS : Addr) : SpD := λ ds O R => ∃ (q : Nat) (sf : Bool) (p : SP),ds = [.ptr q,.int p.m,.int p.sc,.int p.t,.int p.b] /\ O[q]? = some (some (.ins (wsC CW CS sf) [])) /\ VOk false p /\ R .non (O.set q (some (.ins (wsC CW CS sf) (Q1B p.m p.sc p.t p.b (List.replicate p.m.toNat 1) 1))))
def Q4t (CW CS : Addr) : SpD := λ ds O R => ∃ (q : Nat) (sf : Bool) (p : SP) (u : Int) (ws : List Int),ds = [.ptr q] /\ VAt CW CS O q sf p ws u /\ R (.tup (ws.map D.int)) O
def spTAV (CW CS : Addr) : SpD := λ ds O R => ∃ (q : Nat) (sf : Bool) (p : SP) (u own off : Int) (ws : List Int),ds = [.ptr q,.int own,.int off] /\ VAt CW CS O q sf p ws u /\ VOk sf p /\ (0 <= own /\ own <= p.sc) /\ (0 <= off /\ off <= p.sc) /\ R (.int (tA p.t p.b p.sc own off)) O
def spTSV (CW CS : Addr) : SpD := λ ds O R => ∃ (q : Nat) (sf : Bool) (p : SP) (u own : Int) (ws : List Int),ds = [.ptr q,.int own] /\ VAt CW CS O q sf p ws u /\ VOk sf p /\ (0 <= own /\ own <= p.sc) /\ R (.int (tS p.t p.b p.sc own)) O
def spTFV (CW CS : Addr) : SpD := λ ds O R => ∃ (q : Nat) (sf : Bool) (p : SP) (u own so : Int) (w : Option Int) (ws : List Int),ds = [.ptr q,.int own,od w,.int so] /\ VAt CW CS O q sf p ws u /\ VOk sf p /\ (0 <= own /\ own <= p.sc) /\ (0 <= so /\ so <= p.sc) /\ (w = none \/ onS p.sc w = true) /\ R (.int (tF p.t p.b p.sc own so w)) O
def Q3s (CW CS : Addr) : SpD := λ ds O R => ∃ (q n : Nat) (sf : Bool) (p : SP) (u so : Int) (said : List (Option Int)) (ws : List Int),ds = [.ptr q,.tup (said.map od),.int so] /\ VAt CW CS O q sf p ws u /\ VOk sf p /\ n <= 1000 /\ WOkS n ws u /\ (ws.length : Int) = p.m /\ Q0N p.m p.sc said /\ (0 <= so /\ so <= p.sc) /\
 R .non (O.set q (some (.ins (wsC CW CS sf) (wsF sf p (Q2G p.t p.b p.sc (ab (midA said ws - so)) so said ws) (u * tS p.t p.b p.sc (ab (midA said ws - so)))))))
def Q1q (CW CS : Addr) (sf : Bool) : SpD := λ ds O R => ∃ (q n : Nat) (p : SP) (u so : Int) (said : List (Option Int)) (ws : List Int),ds = [.ptr q,.tup (said.map od),.int so] /\ VAt CW CS O q sf p ws u /\ VOk sf p /\ n <= 1000 /\ WOkS n ws u /\ (ws.length : Int) = p.m /\ Q0N p.m p.sc said /\ (0 <= so /\ so <= p.sc) /\
 R .non (O.set q (some (.ins (wsC CW CS sf) (wsF sf p (hrW sf p said so ws) (hrU sf p said so ws u)))))
def Q1E (CW CS : Addr) (sf : Bool) : SpD := λ ds O R => ∃ (q : Nat) (p : SP) (u : Int) (ws : List Int),ds = [.ptr q] /\ VAt CW CS O q sf p ws u /\ VOk sf p /\ R (.ptr O.length) (O ++ [some (.ins (wsC CW CS sf) (wsF sf p (List.replicate p.m.toNat 1) 1))])
theorem wOkS_nextW {n : Nat} {t b sc dd so u : Int} {said : List (Option Int)} {ws : List Int} (hf : Frac sc t b) (hw : WOkS n ws u) (hs : ∀ w ∈ said,w = none \/ onS sc w = true) (hso : 0 <= so /\ so <= sc) (hd : 0 <= dd /\ dd <= sc) : WOkS (n + 1) (Q2G t b sc dd so said ws) (u * tS t b sc dd) := by
 have h1 := tS_ok (own := dd) hf hd.2
 have h2 := Q2s hw.u0 hw.u1 h1.1 h1.2
 refine ⟨λ x hx => ?_,h2.1,p2_le h2.2 (by omega)⟩
 obtain ⟨p,hp,rfl⟩ := List.mem_map.mp hx
 have h3 := hw.w _ (List.of_mem_zip hp).1
 have h4 := tF_ok hf hd.2 hso (hs _ (List.of_mem_zip hp).2)
 have h5 := Q2s h3.1 h3.2 h4.1 h4.2
 exact ⟨h5.1,p2_le h5.2 (by omega)⟩
theorem hr_ok {n : Nat} {sf : Bool} {p : SP} {u so : Int} {said : List (Option Int)} {ws : List Int} (h : VOk sf p) (hw : WOkS n ws u) (hl : (ws.length : Int) = p.m) (hs : Q0N p.m p.sc said) (hso : 0 <= so /\ so <= p.sc) : WOkS (n + 1) (hrW sf p said so ws) (hrU sf p said so ws u) /\ ((hrW sf p said so ws).length : Int) = p.m := by
 have hs1 := hs.1
 have h24 := hs.2.1
 have hd := ab_ok (Q3n (ws := ws) hs (by have := h.f.s1; omega) (λ w h => (hw.w w h).1)) hso
 cases sf
 ·refine ⟨wOkS_nextW h.f hw hs.2.2 hso hd,?_⟩
  show ((Q2G _ _ _ _ _ _ _).length : Int) = _
  rw [Q3m (by omega)]; exact hl
 ·refine ⟨wOkS_next h.so hw (by omega) (by omega) hs.2.2 hso hd,?_⟩
  show ((dealL _ _).length : Int) = _
  rw [deal_len,Q3m (by omega)]; exact hl
def IsFL (sc : List Int) (as : List Nat) (k : Nat) : Prop := k ∈ as /\ ∀ j ∈ as,sc.getD k 0 <= sc.getD j 0 /\ (sc.getD j 0 = sc.getD k 0 -> k <= j)
theorem IsFL.uniq {sc : List Int} {as : List Nat} {j k : Nat} (h : IsFL sc as j) (g : IsFL sc as k) : j = k := by
 have h1 := h.2 k g.1
 have g1 := g.2 j h.1
 have e : sc.getD j 0 = sc.getD k 0 := by omega
 have := h1.2 e.symm
 have := g1.2 e
 omega
def flx (sc : List Int) : List Nat -> Option Nat
 | [] => none
 | k :: as => match flx sc as with
  | none => some k
  | some j => if sc.getD j 0 < sc.getD k 0 then some j else some k
theorem flx_fl (sc : List Int) : ∀ as : List Nat,as.Pairwise (· < ·) -> as ≠ [] -> ∃ k,flx sc as = some k /\ IsFL sc as k
 | [],_,h => absurd rfl h
 | k :: as,hp,_ => by
  obtain ⟨hk,hp⟩ := List.pairwise_cons.mp hp
  unfold flx
  by_cases h0 : as = []
  ·subst h0
   refine ⟨k,rfl,List.mem_cons_self,λ j hj => ?_⟩
   rcases List.mem_cons.mp hj with rfl | hj
   ·exact ⟨Int.le_refl _,λ _ => Nat.le_refl _⟩
   ·cases hj
  ·obtain ⟨j,e,hj⟩ := flx_fl sc as hp h0
   rw [e]
   by_cases hd : sc.getD j 0 < sc.getD k 0
   ·refine ⟨j,if_pos hd,List.mem_cons_of_mem _ hj.1,λ i hi => ?_⟩
    rcases List.mem_cons.mp hi with rfl | hi
    ·exact ⟨by omega,λ z => by omega⟩
    ·exact hj.2 i hi
   ·refine ⟨k,if_neg hd,List.mem_cons_self,λ i hi => ?_⟩
    rcases List.mem_cons.mp hi with rfl | hi
    ·exact ⟨Int.le_refl _,λ _ => Nat.le_refl _⟩
    ·have := hj.2 i hi
     have := hk i hi
     exact ⟨by omega,λ _ => by omega⟩
theorem ax_pw (said : List (Option Int)) : (ax said).Pairwise (· < ·) := List.Pairwise.filter _ List.pairwise_lt_range
def sayV (sc : List Int) (said : List (Option Int)) : Int := match flx sc (ax said) with
 | none => 0
 | some k => (sat2 said k).getD 0
theorem sayV_none {sc : List Int} {said : List (Option Int)} (h : ax said = []) : sayV sc said = 0 := by unfold sayV; rw [h]; rfl
theorem sayV_some {sc : List Int} {said : List (Option Int)} {k : Nat} (h : IsFL sc (ax said) k) : sayV sc said = (sat2 said k).getD 0 := by
 obtain ⟨j,e,hj⟩ := flx_fl sc (ax said) (ax_pw said) (List.ne_nil_of_mem h.1)
 unfold sayV
 rw [e,hj.uniq h]
def nextS (said : List (Option Int)) (so : Int) (sc : List Int) : List Int := (sc.zip said).map λ p => p.1 + chg p.2 so
theorem nextS_len {said : List (Option Int)} {so : Int} {sc : List Int} (h : sc.length = said.length) : (nextS said so sc).length = sc.length := by
 unfold nextS
 rw [List.length_map,List.length_zip]
 omega
def folF (m s : Int) (ps sc : List Int) : List (Str × D) := [("many",.int m),("scale",.int s),("push",.tup (ps.map D.int)),("reached",.tup (sc.map D.int))]
def g2 (m s : Int) : List (Str × D) := [("many",.int m),("scale",.int s)]
def g3 (m s : Int) (d : D) : List (Str × D) := [("many",.int m),("scale",.int s),("push",d)]
theorem put_g3 (m s : Int) (d : D) : putD "push" d (g2 m s) = g3 m s d := by
 unfold g2
 rw [Q0q (by decide +kernel),Q0q (by decide +kernel)]
 rfl
theorem put_g4 (m s : Int) (ps sc : List Int) : putD "reached" (.tup (sc.map D.int)) (g3 m s (.tup (ps.map D.int))) = folF m s ps sc := by
 unfold g3
 rw [Q0q (by decide +kernel),Q0q (by decide +kernel),Q0q (by decide +kernel)]
 rfl
theorem fput (m s : Int) (ps sc s2 : List Int) : putD "reached" (.tup (s2.map D.int)) (folF m s ps sc) = folF m s ps s2 := by
 unfold folF
 rw [Q0q (by decide +kernel),Q0q (by decide +kernel),Q0q (by decide +kernel),Q4K]
section
variable (m s : Int) (ps sc : List Int)
theorem fl_many : (folF m s ps sc).lookup ("many" : Str) = some (.int m) := Q1N
theorem Q5l : (folF m s ps sc).lookup ("scale" : Str) = some (.int s) := by unfold folF; rw [Q0s (by decide +kernel),Q1N]
theorem fl_push : (folF m s ps sc).lookup ("push" : Str) = some (.tup (ps.map D.int)) := by unfold folF; rw [Q0s (by decide +kernel),Q0s (by decide +kernel),Q1N]
theorem fl_reached : (folF m s ps sc).lookup ("reached" : Str) = some (.tup (sc.map D.int)) := by unfold folF; rw [Q0s (by decide +kernel),Q0s (by decide +kernel),Q0s (by decide +kernel),Q1N]
theorem fl_no {f : Str} (h : ([("many" : Str),"scale","push","reached"].all λ g => !(f == g)) = true) : (folF m s ps sc).lookup f = none := by
 simp only [List.all_cons,List.all_nil,Bool.and_true,Bool.and_eq_true,Bool.not_eq_true'] at h
 obtain ⟨h1,h2,h3,h4⟩ := h
 unfold folF
 rw [Q0s h1,Q0s h2,Q0s h3,Q0s h4]
 rfl
end
theorem g3_push (m s : Int) (d : D) : (g3 m s d).lookup ("push" : Str) = some d := by unfold g3; rw [Q0s (by decide +kernel),Q0s (by decide +kernel),Q1N]
def FAt (CK0 : Addr) (O : Sto) (q : Nat) (m s : Int) (ps sc : List Int) : Prop := O[q]? = some (some (.ins CK0 (folF m s ps sc)))
def PushOk (m : Int) (ps : List Int) : Prop := (ps.length : Int) = m /\ ∀ p ∈ ps,0 <= p /\ p <= 10 ^ (60 : Int).toNat - 1
def poD : Option (List Int) -> D
 | none => .non
 | some ps => .tup (ps.map D.int)
def poL (m : Int) (po : Option (List Int)) : List Int := po.getD (List.replicate m.toNat 0)
def spPush : List D -> D -> Prop := λ ds d => ∃ (m : Int) (ps : List Int),ds = [.int m,.tup (ps.map D.int)] /\ PushOk m ps /\ m <= 24 /\ d = .non
def spPushOf : List D -> D -> Prop := λ ds d => ∃ (m : Int) (po : Option (List Int)),ds = [.int m,poD po] /\ (1 <= m /\ m <= 24) /\ PushOk m (poL m po) /\ d = .tup ((poL m po).map D.int)
def spFirst : List D -> D -> Prop := λ ds d => ∃ (sc : List Int) (as : List Nat) (k : Nat),ds = [.tup (sc.map D.int),.lst (as.map λ k => D.int (k : Nat))] /\ as.length <= 24 /\ (∀ k ∈ as,k < sc.length) /\ IsFL sc as k /\ d = .int (k : Nat)
def spInitF (CK0 : Addr) : SpD := λ ds O R => ∃ (q : Nat) (m s : Int) (po : Option (List Int)),ds = [.ptr q,.int m,.int s,poD po] /\ O[q]? = some (some (.ins CK0 [])) /\ (1 <= m /\ m <= 24) /\ (1 <= s /\ s <= 10) /\ PushOk m (poL m po) /\ R .non (O.set q (some (.ins CK0 (folF m s (poL m po) (poL m po)))))
def Q4J (CK0 : Addr) : SpD := λ ds O R => ∃ (q : Nat) (m s : Int) (ps sc : List Int) (said : List (Option Int)),ds = [.ptr q,.tup (said.map od)] /\ FAt CK0 O q m s ps sc /\ (1 <= m /\ m <= 24) /\ Q0N m s said /\ (sc.length : Int) = m /\ R (.int (sayV sc said)) O
def Q3f (CK0 : Addr) : SpD := λ ds O R => ∃ (q : Nat) (m s so : Int) (ps sc : List Int) (said : List (Option Int)),ds = [.ptr q,.tup (said.map od),.int so] /\ FAt CK0 O q m s ps sc /\ (1 <= m /\ m <= 24) /\ Q0N m s said /\ (0 <= so /\ so <= s) /\ (sc.length : Int) = m /\ R .non (O.set q (some (.ins CK0 (folF m s ps (nextS said so sc)))))
def Q3P (CK0 : Addr) : SpD := λ ds O R => ∃ (q : Nat) (m s : Int) (ps sc : List Int),ds = [.ptr q] /\ FAt CK0 O q m s ps sc /\ (1 <= m /\ m <= 24) /\ (1 <= s /\ s <= 10) /\ PushOk m ps /\ R (.ptr O.length) (O ++ [some (.ins CK0 (folF m s ps ps))])
theorem zeros (n : Nat) : (List.replicate n [D.int 0]).flatten = (List.replicate n (0 : Int)).map D.int := by rw [rep1,List.map_replicate]
theorem minP_fl {sc : List Int} {as : List Nat} {k : Nat} (h : IsFL sc as k) : minP (as.map λ k => (sc.getD k 0,((k : Nat) : Int))) = (sc.getD k 0,((k : Nat) : Int)) := by
 have hne : (as.map λ k => (sc.getD k 0,((k : Nat) : Int))) ≠ [] := λ z => by
  rw [List.map_eq_nil_iff] at z
  have := h.1
  rw [z] at this
  cases this
 obtain ⟨j,hj,e⟩ := List.mem_map.mp (minP_mem hne)
 have hj2 : IsFL sc as j := by
  refine ⟨hj,λ i hi => ?_⟩
  have := minP_le (List.mem_map.mpr ⟨i,hi,rfl⟩ : (sc.getD i 0,((i : Nat) : Int)) ∈ as.map λ k => (sc.getD k 0,((k : Nat) : Int)))
  rw [<- e] at this
  have := of_decide_eq_false this
  refine ⟨?_,λ z => ?_⟩ <;> simp only [] at this <;> omega
 rw [<- e,hj2.uniq h]
theorem sayV_on {m s : Int} {sc : List Int} {said : List (Option Int)} (hs : Q0N m s said) (h0 : 0 <= s) : 0 <= sayV sc said /\ sayV sc said <= s := by
 unfold sayV
 cases e : flx sc (ax said) with
 | none => exact ⟨Int.le_refl _,h0⟩
 | some k =>
  show 0 <= (sat2 said k).getD 0 /\ (sat2 said k).getD 0 <= s
  unfold sat2
  by_cases hk : k < said.length
  ·rw [List.getElem?_eq_getElem hk]
   show 0 <= (said[k]).getD 0 /\ (said[k]).getD 0 <= s
   have hw := hs.2.2 _ (List.getElem_mem hk)
   generalize said[k] = w at hw
   cases w with
   | none => exact ⟨Int.le_refl _,h0⟩
   | some x => exact onS_ok (hw.resolve_left (λ z => by cases z))
  ·rw [List.getElem?_eq_none (by omega)]
   exact ⟨Int.le_refl _,h0⟩
def rouF (m s : Int) (ins : List Bool) (ov : Int) : List (Str × D) := [("many",.int m),("scale",.int s),("inside",.tup (ins.map D.bl)),("over",.int ov)]
def b2i (b : Bool) : Int := if b = true then 1 else 0
def r2 (m s : Int) : List (Str × D) := [("many",.int m),("scale",.int s)]
def r3 (m s : Int) (d : D) : List (Str × D) := [("many",.int m),("scale",.int s),("inside",d)]
theorem put_r3 (m s : Int) (d : D) : putD "inside" d (r2 m s) = r3 m s d := by
 unfold r2
 rw [Q0q (by decide +kernel),Q0q (by decide +kernel)]
 rfl
theorem put_r4 (m s ov : Int) (ins : List Bool) : putD "over" (.int ov) (r3 m s (.tup (ins.map D.bl))) = rouF m s ins ov := by
 unfold r3
 rw [Q0q (by decide +kernel),Q0q (by decide +kernel),Q0q (by decide +kernel)]
 rfl
theorem rput_in (m s ov : Int) (ins js : List Bool) : putD "inside" (.tup (js.map D.bl)) (rouF m s ins ov) = rouF m s js ov := by
 unfold rouF
 rw [Q0q (by decide +kernel),Q0q (by decide +kernel),Q4K]
theorem rput_ov (m s ov o2 : Int) (ins : List Bool) : putD "over" (.int o2) (rouF m s ins ov) = rouF m s ins o2 := by
 unfold rouF
 rw [Q0q (by decide +kernel),Q0q (by decide +kernel),Q0q (by decide +kernel),Q4K]
section
variable (m s ov : Int) (ins : List Bool)
theorem rl_many : (rouF m s ins ov).lookup ("many" : Str) = some (.int m) := Q1N
theorem Q5i : (rouF m s ins ov).lookup ("scale" : Str) = some (.int s) := by unfold rouF; rw [Q0s (by decide +kernel),Q1N]
theorem rl_inside : (rouF m s ins ov).lookup ("inside" : Str) = some (.tup (ins.map D.bl)) := by unfold rouF; rw [Q0s (by decide +kernel),Q0s (by decide +kernel),Q1N]
theorem rl_over : (rouF m s ins ov).lookup ("over" : Str) = some (.int ov) := by unfold rouF; rw [Q0s (by decide +kernel),Q0s (by decide +kernel),Q0s (by decide +kernel),Q1N]
theorem rl_no {f : Str} (h : ([("many" : Str),"scale","inside","over"].all λ g => !(f == g)) = true) : (rouF m s ins ov).lookup f = none := by
 simp only [List.all_cons,List.all_nil,Bool.and_true,Bool.and_eq_true,Bool.not_eq_true'] at h
 obtain ⟨h1,h2,h3,h4⟩ := h
 unfold rouF
 rw [Q0s h1,Q0s h2,Q0s h3,Q0s h4]
 rfl
end
def RAt (CK2 : Addr) (O : Sto) (q : Nat) (m s : Int) (ins : List Bool) (ov : Int) : Prop := O[q]? = some (some (.ins CK2 (rouF m s ins ov)))
def leftL (said : List (Option Int)) (so : Int) (ins : List Bool) : List Bool := (ins.zip said).map λ p => p.1 && decide (chg p.2 so = 0)
def nextI (said : List (Option Int)) (so : Int) (ins : List Bool) : List Bool := if (leftL said so ins).any id = true then leftL said so ins else List.replicate ins.length true
def nextO (said : List (Option Int)) (so : Int) (ins : List Bool) (ov : Int) : Int := if (leftL said so ins).any id = true then ov else ov + 1
def wsR (ins : List Bool) : List Int := ins.map b2i
theorem wsR_ok (ins : List Bool) : Wok (wsR ins) := λ w h => by
 obtain ⟨b,_,rfl⟩ := List.mem_map.mp h
 unfold b2i
 split <;> decide
theorem heed_eq (ins : List Bool) : (ins.map λ q => if q = true then D.int 1 else D.int 0) = (wsR ins).map D.int := by
 unfold wsR
 rw [List.map_map]
 refine List.map_congr_left λ b _ => ?_
 show (if b = true then D.int 1 else D.int 0) = D.int (b2i b)
 unfold b2i
 cases b <;> rfl
theorem leftL_len {said : List (Option Int)} {so : Int} {ins : List Bool} (h : ins.length = said.length) : (leftL said so ins).length = ins.length := by
 unfold leftL
 rw [List.length_map,List.length_zip]
 omega
theorem nextI_len {said : List (Option Int)} {so : Int} {ins : List Bool} (h : ins.length = said.length) : (nextI said so ins).length = ins.length := by
 unfold nextI
 split
 ·exact leftL_len h
 ·rw [List.length_replicate]
theorem trues (n : Nat) : (List.replicate n [D.bl true]).flatten = (List.replicate n true).map D.bl := by rw [rep1,List.map_replicate]
def spInitR (CK2 : Addr) : SpD := λ ds O R => ∃ (q : Nat) (m s : Int),ds = [.ptr q,.int m,.int s] /\ O[q]? = some (some (.ins CK2 [])) /\ (1 <= m /\ m <= 24) /\ (1 <= s /\ s <= 10) /\ R .non (O.set q (some (.ins CK2 (rouF m s (List.replicate m.toNat true) 0))))
def spHeedR (CK2 : Addr) : SpD := λ ds O R => ∃ (q : Nat) (m s ov : Int) (ins : List Bool),ds = [.ptr q] /\ RAt CK2 O q m s ins ov /\ ins.length <= 24 /\ R (.tup ((wsR ins).map D.int)) O
def Q3d (CK2 : Addr) : SpD := λ ds O R => ∃ (q : Nat) (m s ov so : Int) (ins : List Bool) (said : List (Option Int)),ds = [.ptr q,.tup (said.map od),.int so] /\ RAt CK2 O q m s ins ov /\ (1 <= m /\ m <= 24) /\ Q0N m s said /\ (0 <= so /\ so <= s) /\ (ins.length : Int) = m /\ R .non (O.set q (some (.ins CK2 (rouF m s (nextI said so ins) (nextO said so ins ov)))))
def Q3N (CK2 : Addr) : SpD := λ ds O R => ∃ (q : Nat) (m s ov : Int) (ins : List Bool),ds = [.ptr q] /\ RAt CK2 O q m s ins ov /\ (1 <= m /\ m <= 24) /\ (1 <= s /\ s <= 10) /\ R (.ptr O.length) (O ++ [some (.ins CK2 (rouF m s (List.replicate m.toNat true) 0))])
theorem hl_no {m s : Int} {f : Str} (h : ([("many" : Str),"scale"].all λ g => !(f == g)) = true) : (Q2c m s).lookup f = none := by
 simp only [List.all_cons,List.all_nil,Bool.and_true,Bool.and_eq_true,Bool.not_eq_true'] at h
 unfold Q2c
 rw [Q0s h.1,Q0s h.2]
 rfl
def Q3e (CK1 : Addr) : SpD := λ ds O R => ∃ (q : Nat) (m sc so : Int) (said : List (Option Int)),ds = [.ptr q,.tup (said.map od),.int so] /\ O[q]? = some (some (.ins CK1 (Q2c m sc))) /\ Q0N m sc said /\ (0 <= so /\ so <= sc) /\ R .non O
def Q3O (CK1 : Addr) : SpD := λ ds O R => ∃ (q : Nat) (m sc : Int),ds = [.ptr q] /\ O[q]? = some (some (.ins CK1 (Q2c m sc))) /\ (1 <= m /\ m <= 24) /\ (1 <= sc /\ sc <= 10) /\ R (.ptr O.length) (O ++ [some (.ins CK1 (Q2c m sc))])
def Q3g : List D -> D -> Prop := λ ds d => ∃ (m : Nat) (s : Int) (ts : List Tn),ds = [.int (m : Nat),.int s,.tup (ts.map tD)] /\ m <= 24 /\ (∀ t ∈ ts,TnOk m s t) /\ d = .non
theorem set_self {O : Sto} {q : Nat} {x : Option MO} (h : O[q]? = some x) : O.set q x = O := by
 refine List.ext_getElem? λ i => ?_
 by_cases z : q = i
 ·subst z
  rw [Q1H h]
  exact h.symm
 ·rw [List.getElem?_set_ne z]
def Q2a (isC : Addr -> Prop) : SpD := λ ds O R => ∃ (q : Nat) (m s : Int) (C : Addr),ds = [.ptr q,.int m,.int s] /\ isC C /\ O[q]? = some (some (.ins C [])) /\ (1 <= m /\ m <= 24) /\ (1 <= s /\ s <= 10) /\ R .non (O.set q (some (.ins C (Q2c m s))))
def Q0S (CH CW CS CR : Addr) : SpD := λ ds O R => ∃ (q : Nat) (m s : Int) (ws : List Int) (said : List (Option Int)),ds = [.ptr q,.tup (said.map od)] /\ ((O[q]? = some (some (.ins CH (Q2c m s))) /\ ws = List.replicate m.toNat 1) \/ (∃ sf p u,VAt CW CS O q sf p ws u /\ p.m = m /\ p.sc = s) \/ ∃ ins ov,RAt CR O q m s ins ov /\ ws = wsR ins) /\ (1 <= m /\ m <= 24) /\ Q0N m s said /\ (ws.length : Int) = m /\ Wok ws /\ R (.int (midA said ws)) O
inductive Hv where
 | h | v (sf : Bool) (p : SP) (ws : List Int) (u : Int) | r (ins : List Bool) (ov : Int) | f (ps sc : List Int)
def hvO (CH CW CS CR CF : Addr) (m s : Int) : Hv -> MO
 | .h => .ins CH (Q2c m s)
 | .v sf p ws u => .ins (wsC CW CS sf) (wsF sf p ws u)
 | .r ins ov => .ins CR (rouF m s ins ov)
 | .f ps sc => .ins CF (folF m s ps sc)
def HvOk (n m : Nat) (s : Int) : Hv -> Prop
 | .h => True
 | .v sf p ws u => VOk sf p /\ p.m = (m : Nat) /\ p.sc = s /\ WOkS n ws u /\ ws.length = m
 | .r ins _ => ins.length = m
 | .f ps sc => PushOk (m : Nat) ps /\ sc.length = m
def sayH (m : Nat) (said : List (Option Int)) : Hv -> Int
 | .h => midA said (List.replicate m 1)
 | .v _ _ ws _ => midA said ws
 | .r ins _ => midA said (wsR ins)
 | .f _ sc => sayV sc said
def Q1Z (said : List (Option Int)) (so : Int) : Hv -> Hv
 | .h => .h
 | .v sf p ws u => .v sf p (hrW sf p said so ws) (hrU sf p said so ws u)
 | .r ins ov => .r (nextI said so ins) (nextO said so ins ov)
 | .f ps sc => .f ps (nextS said so sc)
def Q1p (m : Nat) : Hv -> Hv
 | .h => .h
 | .v sf p _ _ => .v sf p (List.replicate m 1) 1
 | .r _ _ => .r (List.replicate m true) 0
 | .f ps _ => .f ps ps
theorem HvOk.hear {n m : Nat} {s so : Int} {said : List (Option Int)} {v : Hv} (h : HvOk n m s v) (hs : Q0N (m : Nat) s said) (hso : 0 <= so /\ so <= s) : HvOk (n + 1) m s (Q1Z said so v) := by
 have hl := hs.1
 cases v with
 | h => exact h
 | v sf p ws u =>
  obtain ⟨h1,h2,h3,h4,h5⟩ := h
  obtain ⟨g1,g2⟩ := hr_ok h1 h4 (by rw [h2,h5]) (by rw [h2,h3]; exact hs) (by rw [h3]; exact hso)
  exact ⟨h1,h2,h3,g1,by have := g2.trans h2; omega⟩
 | r ins ov =>
  have h : ins.length = m := h
  show (nextI said so ins).length = m
  rw [nextI_len (by omega)]; exact h
 | f ps sc => exact ⟨h.1,by rw [nextS_len (by have := h.2; omega)]; exact h.2⟩
theorem HvOk.anew {n m : Nat} {s : Int} {v : Hv} (h : HvOk n m s v) : HvOk 0 m s (Q1p m v) := by
 cases v with
 | h => exact h
 | v sf p ws u => exact ⟨h.1,h.2.1,h.2.2.1,Q4a m,List.length_replicate⟩
 | r ins ov => exact List.length_replicate
 | f ps sc => exact ⟨h.1,by have := h.1.1; omega⟩
theorem sayH_on {n m : Nat} {s : Int} {said : List (Option Int)} {v : Hv} (h : HvOk n m s v) (hs : Q0N (m : Nat) s said) (h0 : 0 <= s) : 0 <= sayH m said v /\ sayH m said v <= s := by
 cases v with
 | h => exact Q3n hs h0 (λ w hw => by rw [List.eq_of_mem_replicate hw]; decide)
 | v sf p ws u => exact Q3n hs h0 (λ w hw => (h.2.2.2.1.w w hw).1)
 | r ins ov => exact Q3n hs h0 (wsR_ok ins)
 | f ps sc => exact sayV_on hs h0
section
variable {X : Cx} {ρ : Rho} {O : Sto} {CH CW CS CR CF : Addr} {o e e2 : Expr} {q n m k1 k2 k3 k4 k6 : Nat} {s so : Int} {v : Hv} {said : List (Option Int)} {R : D -> Sto -> Prop} {pos apos : Pos}
theorem ev_sayH {pl : Sem Bool} (M1 : Q0h X.prog X.w X.K X.mg X.base CH k1 "say" (Q0S CH CW CS CR)) (M2 : Q0h X.prog X.w X.K X.mg X.base CW k1 "say" (Q0S CH CW CS CR)) (M3 : Q0h X.prog X.w X.K X.mg X.base CS k1 "say" (Q0S CH CW CS CR)) (M4 : Q0h X.prog X.w X.K X.mg X.base CR k1 "say" (Q0S CH CW CS CR)) (r1 : Room k1 X.A) (M6 : Q0h X.prog X.w X.K X.mg X.base CF k6 "say" (Q4J CF)) (r6 : Room k6 X.A)
  (ho : EvP X ρ O o (.ptr q)) (hq : O[q]? = some (some (hvO CH CW CS CR CF (m : Nat) s v))) (hok : HvOk n m s v) (hm : 1 <= m /\ m <= 24) (hs : Q0N (m : Nat) s said) (ha : EvPs X ρ O [e] [.tup (said.map od)])
  (hst : starEach [e] X.env = (false,eval e X.env) :: starEach [] X.env := by rfl) (hpl : (backTo pos (starEach [] X.env)).any (·.1) = false := by rfl)
  (ht : eval (.Call (.Attribute o "say" apos) [e] [] pos) X.env = (do
   let ov <- eval o X.env
   standAt apos.atName
   let (f,first) <- holding [ov] (getMethod ov "say" pl)
   callWith pos f first (backTo pos (starEach [e] X.env)) (backToKw pos (keywordEach [] X.env))) := by rfl) : EvP X ρ O (.Call (.Attribute o "say" apos) [e] [] pos) (.int (sayH m said v)) := by
 have hmI : (1 : Int) <= (m : Nat) /\ ((m : Nat) : Int) <= 24 := ⟨by omega,by omega⟩
 cases v with
 | h => exact Ev.evp (Q1F M1 r1 ho hq (hl_no (by decide +kernel)) ha ⟨q,(m : Nat),s,List.replicate m 1,said,rfl,.inl ⟨hq,by rw [Int.toNat_natCast]⟩,hmI,hs,by rw [List.length_replicate],(λ w hw => by rw [List.eq_of_mem_replicate hw]; decide),rfl,rfl⟩ hst hpl ht)
 | v sf p ws u => exact Ev.evp (Q1F (mv M2 M3 sf) r1 ho hq (vl_no _ _ _ _ (by decide +kernel) (by decide +kernel)) ha ⟨q,(m : Nat),s,ws,said,rfl,.inr (.inl ⟨sf,p,u,hq,hok.2.1,hok.2.2.1⟩),hmI,hs,by rw [hok.2.2.2.2],(λ w hw => (hok.2.2.2.1.w w hw).1),rfl,rfl⟩ hst hpl ht)
 | r ins ov => exact Ev.evp (Q1F M4 r1 ho hq (rl_no _ _ _ _ (by decide +kernel)) ha ⟨q,(m : Nat),s,wsR ins,said,rfl,.inr (.inr ⟨ins,ov,hq,rfl⟩),hmI,hs,by have h : ins.length = m := hok; rw [show (wsR ins).length = ins.length from List.length_map ..,h],wsR_ok ins,rfl,rfl⟩ hst hpl ht)
 | f ps sc => exact Ev.evp (Q1F M6 r6 ho hq (fl_no _ _ _ _ (by decide +kernel)) ha ⟨q,(m : Nat),s,ps,sc,said,rfl,hq,hmI,hs,by rw [hok.2],rfl,rfl⟩ hst hpl ht)
theorem ev_hearH {pl : Sem Bool} (M1 : Q0h X.prog X.w X.K X.mg X.base CH k1 "hear" (Q3e CH)) (M2 : Q0h X.prog X.w X.K X.mg X.base CW k2 "hear" (Q1q CW CS false)) (M3 : Q0h X.prog X.w X.K X.mg X.base CS k3 "hear" (Q1q CW CS true)) (M4 : Q0h X.prog X.w X.K X.mg X.base CR k4 "hear" (Q3d CR)) (r1 : Room k1 X.A) (r2 : Room (max k2 k3) X.A) (r3 : Room k4 X.A) (M6 : Q0h X.prog X.w X.K X.mg X.base CF k6 "hear" (Q3f CF)) (r6 : Room k6 X.A)
  (ho : EvP X ρ O o (.ptr q)) (hq : O[q]? = some (some (hvO CH CW CS CR CF (m : Nat) s v))) (hok : HvOk n m s v) (hn : n <= 1000) (hm : 1 <= m /\ m <= 24) (hs : Q0N (m : Nat) s said) (hso : 0 <= so /\ so <= s) (ha : EvPs X ρ O [e,e2] [.tup (said.map od),.int so]) (hR : R .non (O.set q (some (hvO CH CW CS CR CF (m : Nat) s (Q1Z said so v)))))
  (hst : starEach [e,e2] X.env = (false,eval e X.env) :: starEach [e2] X.env := by rfl) (hpl : (backTo pos (starEach [e2] X.env)).any (·.1) = false := by rfl)
  (ht : eval (.Call (.Attribute o "hear" apos) [e,e2] [] pos) X.env = (do
   let ov <- eval o X.env
   standAt apos.atName
   let (f,first) <- holding [ov] (getMethod ov "hear" pl)
   callWith pos f first (backTo pos (starEach [e,e2] X.env)) (backToKw pos (keywordEach [] X.env))) := by rfl) : Ev X ρ O (.Call (.Attribute o "hear" apos) [e,e2] [] pos) R := by
 have hmI : (1 : Int) <= (m : Nat) /\ ((m : Nat) : Int) <= 24 := ⟨by omega,by omega⟩
 cases v with
 | h =>
  have hR : R .non (O.set q (some (hvO CH CW CS CR CF (m : Nat) s .h))) := hR
  rw [set_self hq] at hR
  exact Q1F M1 r1 ho hq (hl_no (by decide +kernel)) ha ⟨q,(m : Nat),s,so,said,rfl,hq,hs,hso,hR⟩ hst hpl ht
 | v sf p ws u => exact Q1F (mv2 (sq := Q1q CW CS) M2 M3 sf) r2 ho hq (vl_no _ _ _ _ (by decide +kernel) (by decide +kernel)) ha ⟨q,n,p,u,so,said,ws,rfl,hq,hok.1,hn,hok.2.2.2.1,by rw [hok.2.2.2.2,hok.2.1],by rw [hok.2.1,hok.2.2.1]; exact hs,by rw [hok.2.2.1]; exact hso,hR⟩ hst hpl ht
 | r ins ov => exact Q1F M4 r3 ho hq (rl_no _ _ _ _ (by decide +kernel)) ha ⟨q,(m : Nat),s,ov,so,ins,said,rfl,hq,hmI,hs,hso,by have h : ins.length = m := hok; rw [h],hR⟩ hst hpl ht
 | f ps sc => exact Q1F M6 r6 ho hq (fl_no _ _ _ _ (by decide +kernel)) ha ⟨q,(m : Nat),s,so,ps,sc,said,rfl,hq,hmI,hs,hso,by rw [hok.2],hR⟩ hst hpl ht
theorem ev_anewH {pl : Sem Bool} (M1 : Q0h X.prog X.w X.K X.mg X.base CH k1 "anew" (Q3O CH)) (M2 : Q0h X.prog X.w X.K X.mg X.base CW k2 "anew" (Q1E CW CS false)) (M3 : Q0h X.prog X.w X.K X.mg X.base CS k3 "anew" (Q1E CW CS true)) (M4 : Q0h X.prog X.w X.K X.mg X.base CR k4 "anew" (Q3N CR)) (r1 : Room k1 X.A) (r2 : Room (max k2 k3) X.A) (r3 : Room k4 X.A) (M6 : Q0h X.prog X.w X.K X.mg X.base CF k6 "anew" (Q3P CF)) (r6 : Room k6 X.A)
  (ho : EvP X ρ O o (.ptr q)) (hq : O[q]? = some (some (hvO CH CW CS CR CF (m : Nat) s v))) (hok : HvOk n m s v) (hm : 1 <= m /\ m <= 24) (hs : 1 <= s /\ s <= 10) (hR : R (.ptr O.length) (O ++ [some (hvO CH CW CS CR CF (m : Nat) s (Q1p m v))]))
  (ht : eval (.Call (.Attribute o "anew" apos) [] [] pos) X.env = (do
   let ov <- eval o X.env
   standAt apos.atName
   let (f,first) <- holding [ov] (getMethod ov "anew" pl)
   callWith pos f first (backTo pos (starEach [] X.env)) (backToKw pos (keywordEach [] X.env))) := by rfl) : Ev X ρ O (.Call (.Attribute o "anew" apos) [] [] pos) R := by
 have hmI : (1 : Int) <= (m : Nat) /\ ((m : Nat) : Int) <= 24 := ⟨by omega,by omega⟩
 cases v with
 | h => exact Q1Q M1 r1 ho hq (hl_no (by decide +kernel)) ⟨q,(m : Nat),s,rfl,hq,hmI,hs,hR⟩ ht
 | v sf p ws u => exact Q1Q (mv2 (sq := Q1E CW CS) M2 M3 sf) r2 ho hq (vl_no _ _ _ _ (by decide +kernel) (by decide +kernel)) ⟨q,p,u,ws,rfl,hq,hok.1,by rw [hok.2.1,Int.toNat_natCast]; exact hR⟩ ht
 | r ins ov => exact Q1Q M4 r3 ho hq (rl_no _ _ _ _ (by decide +kernel)) ⟨q,(m : Nat),s,ov,ins,rfl,hq,hmI,hs,by rw [Int.toNat_natCast]; exact hR⟩ ht
 | f ps sc => exact Q1Q M6 r6 ho hq (fl_no _ _ _ _ (by decide +kernel)) ⟨q,(m : Nat),s,ps,sc,rfl,hq,hmI,hs,hok.1,hR⟩ ht
theorem Q4m (c1 : Cls X.K CH) (c2 : Cls X.K CW) (c3 : Cls X.K CS) (c4 : Cls X.K CR) (n1 : Q0u X.K CH "many") (n2 : Q0u X.K CW "many") (n3 : Q0u X.K CS "many") (n4 : Q0u X.K CR "many") (c6 : Cls X.K CF) (n6 : Q0u X.K CF "many") (ho : EvP X ρ O o (.ptr q)) (hq : O[q]? = some (some (hvO CH CW CS CR CF (m : Nat) s v))) (hok : HvOk n m s v) (hb : attributeBase o ("many" : Str) X.env (eval o X.env) = eval o X.env := by rfl) : EvP X ρ O (.Attribute o "many" pos) (.int (m : Nat)) := by
 cases v with
 | h => exact Q0o ho hq c1 n1 (hl_many _ _) hb
 | v sf p ws u => rw [<- hok.2.1]; exact Q0o ho hq (cv c2 c3 sf) (nv n2 n3 sf) (vl_many _ _ _ _) hb
 | r ins ov => exact Q0o ho hq c4 n4 (rl_many _ _ _ _) hb
 | f ps sc => exact Q0o ho hq c6 n6 (fl_many _ _ _ _) hb
theorem Q2T (c1 : Cls X.K CH) (c2 : Cls X.K CW) (c3 : Cls X.K CS) (c4 : Cls X.K CR) (n1 : Q0u X.K CH "scale") (n2 : Q0u X.K CW "scale") (n3 : Q0u X.K CS "scale") (n4 : Q0u X.K CR "scale") (c6 : Cls X.K CF) (n6 : Q0u X.K CF "scale") (ho : EvP X ρ O o (.ptr q)) (hq : O[q]? = some (some (hvO CH CW CS CR CF (m : Nat) s v))) (hok : HvOk n m s v) (hb : attributeBase o ("scale" : Str) X.env (eval o X.env) = eval o X.env := by rfl) : EvP X ρ O (.Attribute o "scale" pos) (.int s) := by
 cases v with
 | h => exact Q0o ho hq c1 n1 (Q5k _ _) hb
 | v sf p ws u => rw [<- hok.2.2.1]; exact Q0o ho hq (cv c2 c3 sf) (nv n2 n3 sf) (Q5d _ _ _ _) hb
 | r ins ov => exact Q0o ho hq c4 n4 (Q5i _ _ _ _) hb
 | f ps sc => exact Q0o ho hq c6 n6 (Q5l _ _ _ _) hb
theorem ev_isHv {k : Bool} {x : Str} {C2 : Addr} {p p2 : Pos} (hm : X.mg "isinstance" = none) (he : EvP X ρ O e (.ptr q)) (hq : O[q]? = some (some (hvO CH CW CS CR CF (m : Nat) s v))) (t1 : Q5c X.K CH) (t2 : Q5c X.K CW) (t3 : Q5c X.K CS) (t4 : Q5c X.K CR) (hx : X.mg x = some (.ref C2)) (k1 : PySem.W.kitOne X.K (.ref CH) (.ref C2) = some k) (k2 : PySem.W.kitOne X.K (.ref CW) (.ref C2) = some k) (k3 : PySem.W.kitOne X.K (.ref CS) (.ref C2) = some k) (k4 : PySem.W.kitOne X.K (.ref CR) (.ref C2) = some k) (t6 : Q5c X.K CF) (k6' : PySem.W.kitOne X.K (.ref CF) (.ref C2) = some k)
  (hg : Gl X "isinstance" := by rfl) (hgx : Gl X x := by rfl) (hdx : (x == ("__debug__" : Str)) = false := by decide) (hs : starEach [e,.Name x p2] X.env = (false,eval e X.env) :: starEach [.Name x p2] X.env := by rfl) (hpl : (backTo pos (starEach [.Name x p2] X.env)).any (·.1) = false := by rfl) :
  EvP X ρ O (.Call (.Name "isinstance" p) [e,.Name x p2] [] pos) (.bl k) := by
 cases v with
 | h => exact ev_isO hm he hq t1 hx k1 hg hgx hdx hs hpl
 | v sf p ws u =>
  cases sf
  ·exact ev_isO hm he hq t2 hx k2 hg hgx hdx hs hpl
  ·exact ev_isO hm he hq t3 hx k3 hg hgx hdx hs hpl
 | r ins ov => exact ev_isO hm he hq t4 hx k4 hg hgx hdx hs hpl
 | f ps sc => exact ev_isO hm he hq t6 hx k6' hg hgx hdx hs hpl
end
def tieF (m s : Int) (q n : Nat) (ch : List Int) : List (Str × D) := [("many",.int m),("scale",.int s),("hands",.tup ((List.range n).map λ i => .ptr (q + 1 + i))),("head",.ptr (q + 1 + n)),("charged",.tup (ch.map D.int))]
def tieG (m s : Int) (d e : D) : List (Str × D) := [("many",.int m),("scale",.int s),("hands",d),("head",e)]
def tieH (m s : Int) (d : D) : List (Str × D) := [("many",.int m),("scale",.int s),("hands",d)]
theorem put_hands (m s : Int) (d : D) : putD "hands" d (Q2c m s) = tieH m s d := by
 unfold Q2c
 rw [Q0q (by decide +kernel),Q0q (by decide +kernel)]
 rfl
theorem put_head (m s : Int) (d e : D) : putD "head" e (tieH m s d) = tieG m s d e := by
 unfold tieH
 rw [Q0q (by decide +kernel),Q0q (by decide +kernel),Q0q (by decide +kernel)]
 rfl
theorem put_charged (m s : Int) (q n : Nat) (ch : List Int) : putD "charged" (.tup (ch.map D.int)) (tieG m s (.tup ((List.range n).map λ i => .ptr (q + 1 + i))) (.ptr (q + 1 + n))) = tieF m s q n ch := by
 unfold tieG
 rw [Q0q (by decide +kernel),Q0q (by decide +kernel),Q0q (by decide +kernel),Q0q (by decide +kernel)]
 rfl
theorem tput_charged (m s : Int) (q n : Nat) (ch cs : List Int) : putD "charged" (.tup (cs.map D.int)) (tieF m s q n ch) = tieF m s q n cs := by
 unfold tieF
 rw [Q0q (by decide +kernel),Q0q (by decide +kernel),Q0q (by decide +kernel),Q0q (by decide +kernel),Q4K]
section
variable (m s : Int) (q n : Nat) (ch : List Int)
theorem tl_many : (tieF m s q n ch).lookup ("many" : Str) = some (.int m) := Q1N
theorem tl_scale : (tieF m s q n ch).lookup ("scale" : Str) = some (.int s) := by unfold tieF; rw [Q0s (by decide +kernel),Q1N]
theorem tl_hands : (tieF m s q n ch).lookup ("hands" : Str) = some (.tup ((List.range n).map λ i => .ptr (q + 1 + i))) := by unfold tieF; rw [Q0s (by decide +kernel),Q0s (by decide +kernel),Q1N]
theorem tl_head : (tieF m s q n ch).lookup ("head" : Str) = some (.ptr (q + 1 + n)) := by unfold tieF; rw [Q0s (by decide +kernel),Q0s (by decide +kernel),Q0s (by decide +kernel),Q1N]
theorem tl_charged : (tieF m s q n ch).lookup ("charged" : Str) = some (.tup (ch.map D.int)) := by unfold tieF; rw [Q0s (by decide +kernel),Q0s (by decide +kernel),Q0s (by decide +kernel),Q0s (by decide +kernel),Q1N]
theorem tl_no {f : Str} (h : ([("many" : Str),"scale","hands","head","charged"].all λ g => !(f == g)) = true) : (tieF m s q n ch).lookup f = none := by
 simp only [List.all_cons,List.all_nil,Bool.and_true,Bool.and_eq_true,Bool.not_eq_true'] at h
 obtain ⟨h1,h2,h3,h4,h5⟩ := h
 unfold tieF
 rw [Q0s h1,Q0s h2,Q0s h3,Q0s h4,Q0s h5]
 rfl
end
theorem Q3M {O Y : Sto} {i : Nat} {x : Option MO} (h : O[i]? = some x) : (O ++ Y)[i]? = some x := by rw [List.getElem?_append_left (List.getElem?_eq_some_iff.mp h).1]; exact h
theorem mid_at {A Z : Sto} {x : Option MO} : (A ++ [x] ++ Z)[A.length]? = some x := by rw [List.append_assoc,List.getElem?_append_right (Nat.le_refl _),Nat.sub_self]; rfl
theorem mid_set {A Z : Sto} {x y : Option MO} : (A ++ [x] ++ Z).set A.length y = A ++ [y] ++ Z := by rw [List.append_assoc,List.set_append_right (h := Nat.le_refl _),Nat.sub_self,List.append_assoc]; rfl
theorem range_getD {α : Type} (l : List α) (d : α) : (List.range l.length).map (λ i => l.getD i d) = l := by
 refine List.ext_getElem? λ i => ?_
 rw [List.getElem?_map]
 by_cases hi : i < l.length
 ·rw [List.getElem?_range hi,List.getElem?_eq_getElem hi]
  show some (l.getD i d) = _
  rw [List.getD_eq_getElem?_getD,List.getElem?_eq_getElem hi]; rfl
 ·rw [List.getElem?_eq_none (by rw [List.length_range]; omega),List.getElem?_eq_none (by omega)]; rfl
structure Cs where
 h : Addr
 w : Addr
 s : Addr
 r : Addr
 t : Addr
 f : Addr
def Cs.o (C : Cs) (m s : Int) (v : Hv) : MO := hvO C.h C.w C.s C.r C.f m s v
structure TAt (C : Cs) (O : Sto) (q : Nat) (m : Nat) (s : Int) (hs : List Hv) (hd : Hv) (ch : List Int) : Prop where
 o : O[q]? = some (some (.ins C.t (tieF (m : Nat) s q hs.length ch)))
 h : ∀ i v,hs[i]? = some v -> O[q + 1 + i]? = some (some (C.o (m : Nat) s v))
 d : O[q + 1 + hs.length]? = some (some (C.o (hs.length : Nat) s hd))
structure TOk (n m : Nat) (s : Int) (hs : List Hv) (hd : Hv) (ch : List Int) : Prop where
 h : ∀ v ∈ hs,HvOk n m s v
 d : HvOk n hs.length s hd
 l1 : 1 <= hs.length
 l2 : hs.length <= 24
 c : ch.length = hs.length
def askT (m : Nat) (said : List (Option Int)) (hs : List Hv) : List Int := hs.map (sayH m said)
def asS (l : List Int) : List (Option Int) := l.map some
theorem asS_od (l : List Int) : (asS l).map od = l.map D.int := by unfold asS; rw [List.map_map]; rfl
theorem ask_ok {n m : Nat} {s : Int} {said : List (Option Int)} {hs : List Hv} (h : ∀ v ∈ hs,HvOk n m s v) (h2 : hs.length <= 24) (hsd : Q0N (m : Nat) s said) (h0 : 0 <= s) : Q0N ((hs.length : Nat) : Int) s (asS (askT m said hs)) := by
 refine ⟨by unfold asS askT; rw [List.length_map,List.length_map],by omega,λ w hw => ?_⟩
 obtain ⟨x,hx,rfl⟩ := List.mem_map.mp hw
 obtain ⟨v,hv,rfl⟩ := List.mem_map.mp hx
 right
 have := sayH_on (h v hv) hsd h0
 show (decide (0 <= _) && decide (_ <= s)) = true
 rw [decide_eq_true this.1,decide_eq_true this.2]; rfl
def paidT (m : Nat) (said : List (Option Int)) (so : Int) (hs : List Hv) (ch : List Int) : List Int := (ch.zip (askT m said hs)).map λ x => x.1 + ab (x.2 - so)
structure Blk (q n : Nat) (O O' : Sto) : Prop where
 l : O'.length = O.length
 o : ∀ j,j < q \/ q + 1 + n < j -> O'[j]? = O[j]?
theorem Blk.refl (q n : Nat) (O : Sto) : Blk q n O O := ⟨rfl,λ _ _ => rfl⟩
theorem Blk.set {q n i : Nat} {O O' : Sto} {x : Option MO} (h : Blk q n O O') (h1 : q <= i) (h2 : i <= q + 1 + n) : Blk q n O (O'.set i x) := ⟨by rw [List.length_set]; exact h.l,λ j hj => by rw [List.getElem?_set_ne (by omega)]; exact h.o j hj⟩
def spAskT (C : Cs) : SpD := λ ds O R => ∃ (q n m : Nat) (s : Int) (hs : List Hv) (hd : Hv) (ch : List Int) (said : List (Option Int)),ds = [.ptr q,.tup (said.map od)] /\ TAt C O q m s hs hd ch /\ TOk n m s hs hd ch /\ (1 <= m /\ m <= 24) /\ Q0N (m : Nat) s said /\ R (.tup ((askT m said hs).map D.int)) O
def sayT (m : Nat) (said : List (Option Int)) (hs : List Hv) (hd : Hv) : Int := sayH hs.length (asS (askT m said hs)) hd
def spSayT (C : Cs) : SpD := λ ds O R => ∃ (q n m : Nat) (s : Int) (hs : List Hv) (hd : Hv) (ch : List Int) (said : List (Option Int)),ds = [.ptr q,.tup (said.map od)] /\ TAt C O q m s hs hd ch /\ TOk n m s hs hd ch /\ (1 <= m /\ m <= 24) /\ 0 <= s /\ Q0N (m : Nat) s said /\ R (.int (sayT m said hs hd)) O
def spChT (C : Cs) : SpD := λ ds O R => ∃ (q m : Nat) (s : Int) (hs : List Hv) (hd : Hv) (ch : List Int),ds = [.ptr q] /\ TAt C O q m s hs hd ch /\ R (.tup (ch.map D.int)) O
def Q4u (C : Cs) : SpD := λ ds O R => ∃ (q n m : Nat) (s so : Int) (hs : List Hv) (hd : Hv) (ch : List Int) (said : List (Option Int)),ds = [.ptr q,.tup (said.map od),.int so] /\ TAt C O q m s hs hd ch /\ TOk n m s hs hd ch /\ n <= 1000 /\ (1 <= m /\ m <= 24) /\ Q0N (m : Nat) s said /\ (0 <= so /\ so <= s) /\
 ∀ O',Blk q hs.length O O' -> TAt C O' q m s (hs.map (Q1Z said so)) (Q1Z (asS (askT m said hs)) so hd) (paidT m said so hs ch) -> R .non O'
def newT (C : Cs) (m : Nat) (s : Int) (q : Nat) (hs : List Hv) (hd : Hv) : Sto := some (.ins C.t (tieF (m : Nat) s q hs.length (List.replicate hs.length 0))) :: (hs.map (λ v => some (C.o (m : Nat) s (Q1p m v))) ++ [some (C.o (hs.length : Nat) s (Q1p hs.length hd))])
def PvAt (C : Cs) (O : Sto) (m : Nat) (s : Int) (pv : List (Nat × Hv)) : Prop := ∀ x ∈ pv,O[x.1]? = some (some (C.o (m : Nat) s x.2)) /\ ∃ n,HvOk n m s x.2
def spTier (C : Cs) : SpD := λ ds O R => ∃ (m : Nat) (s : Int) (pv : List (Nat × Hv)) (hp : Nat) (hd : Hv),ds = [.tup (pv.map λ x => .ptr x.1),.ptr hp] /\ PvAt C O m s pv /\ PvAt C O pv.length s [(hp,hd)] /\ (1 <= m /\ m <= 24) /\ (1 <= s /\ s <= 10) /\ (1 <= pv.length /\ pv.length <= 24) /\ R .non O
def spAlikeT (C : Cs) : SpD := λ ds O R => ∃ (m : Nat) (s : Int) (pv : List (Nat × Hv)),ds = [.tup (pv.map λ x => .ptr x.1)] /\ PvAt C O m s pv /\ (1 <= pv.length /\ pv.length <= 24) /\ R (.bl true) O
def spIsHeadT (C : Cs) : SpD := λ ds O R => ∃ (m : Nat) (s : Int) (pv : List (Nat × Hv)) (hp : Nat) (hd : Hv),ds = [.tup (pv.map λ x => .ptr x.1),.ptr hp] /\ PvAt C O m s pv /\ PvAt C O pv.length s [(hp,hd)] /\ (1 <= pv.length /\ pv.length <= 24) /\ R (.bl true) O
def spInitT (C : Cs) : SpD := λ ds O R => ∃ (q m : Nat) (s : Int) (pv : List (Nat × Hv)) (hp : Nat) (hd : Hv) (O0 : Sto),ds = [.ptr q,.tup (pv.map λ x => .ptr x.1),.ptr hp] /\ O = O0 ++ [some (.ins C.t [])] /\ q = O0.length /\ PvAt C O0 m s pv /\ PvAt C O0 pv.length s [(hp,hd)] /\ (1 <= m /\ m <= 24) /\ (1 <= s /\ s <= 10) /\ (1 <= pv.length /\ pv.length <= 24) /\ R .non (O0 ++ newT C m s q (pv.map (·.2)) hd)
def spAnewT (C : Cs) : SpD := λ ds O R => ∃ (q n m : Nat) (s : Int) (hs : List Hv) (hd : Hv) (ch : List Int),ds = [.ptr q] /\ TAt C O q m s hs hd ch /\ TOk n m s hs hd ch /\ (1 <= m /\ m <= 24) /\ (1 <= s /\ s <= 10) /\ R (.ptr O.length) (O ++ newT C m s O.length hs hd)
theorem PvAt.app {C : Cs} {O Y : Sto} {m : Nat} {s : Int} {pv : List (Nat × Hv)} (h : PvAt C O m s pv) : PvAt C (O ++ Y) m s pv := λ x hx => ⟨Q3M (h x hx).1,(h x hx).2⟩
theorem TAt.app {C : Cs} {O Y : Sto} {q m : Nat} {s : Int} {hs : List Hv} {hd : Hv} {ch : List Int} (h : TAt C O q m s hs hd ch) : TAt C (O ++ Y) q m s hs hd ch := ⟨Q3M h.o,λ i v hv => Q3M (h.h i v hv),Q3M h.d⟩
theorem newT_at {C : Cs} {O Y : Sto} {m : Nat} {s : Int} {hs : List Hv} {hd : Hv} : TAt C (O ++ newT C m s O.length hs hd ++ Y) O.length m s (hs.map (Q1p m)) (Q1p hs.length hd) (List.replicate hs.length 0) := by
 have e : ∀ k,(O ++ newT C m s O.length hs hd)[O.length + k]? = (newT C m s O.length hs hd)[k]? := λ k => by rw [List.getElem?_append_right (by omega),Nat.add_sub_cancel_left]
 have hl : (hs.map λ v => some (C.o (m : Nat) s (Q1p m v))).length = hs.length := List.length_map ..
 refine TAt.app ⟨?_,λ i v hv => ?_,?_⟩
 ·rw [List.length_map]
  exact e 0
 ·rw [List.getElem?_map] at hv
  obtain ⟨w,hw,rfl⟩ := Option.map_eq_some_iff.mp hv
  have hi := (List.getElem?_eq_some_iff.mp hw).1
  rw [Nat.add_assoc,e]
  show (_ :: _)[1 + i]? = _
  rw [Nat.add_comm 1 i,List.getElem?_cons_succ,List.getElem?_append_left (by omega),List.getElem?_map,hw]
  rfl
 ·rw [Nat.add_assoc,e,List.length_map]
  show (_ :: _)[1 + hs.length]? = _
  rw [Nat.add_comm 1 hs.length,List.getElem?_cons_succ,List.getElem?_append_right (by omega),hl,Nat.sub_self]
  rfl
theorem newT_len {C : Cs} {m : Nat} {s : Int} {q : Nat} {hs : List Hv} {hd : Hv} : (newT C m s q hs hd).length = hs.length + 2 := by
 unfold newT
 rw [List.length_cons,List.length_append,List.length_map]
 rfl
theorem TOk.hear {n m : Nat} {s so : Int} {hs : List Hv} {hd : Hv} {ch : List Int} {said : List (Option Int)} (h : TOk n m s hs hd ch) (hsd : Q0N (m : Nat) s said) (hso : 0 <= so /\ so <= s) (h0 : 0 <= s) : TOk (n + 1) m s (hs.map (Q1Z said so)) (Q1Z (asS (askT m said hs)) so hd) (paidT m said so hs ch) := by
 refine ⟨λ v hv => ?_,by rw [List.length_map]; exact h.d.hear (ask_ok h.h h.l2 hsd h0) hso,by rw [List.length_map]; exact h.l1,by rw [List.length_map]; exact h.l2,?_⟩
 ·obtain ⟨w,hw,rfl⟩ := List.mem_map.mp hv
  exact (h.h w hw).hear hsd hso
 ·unfold paidT askT
  rw [List.length_map,List.length_zip,List.length_map,List.length_map,h.c]
  omega
theorem TOk.anew {n m : Nat} {s : Int} {hs : List Hv} {hd : Hv} {ch : List Int} (h : TOk n m s hs hd ch) : TOk 0 m s (hs.map (Q1p m)) (Q1p hs.length hd) (List.replicate hs.length 0) := ⟨λ v hv => by
 obtain ⟨w,hw,rfl⟩ := List.mem_map.mp hv
 exact (h.h w hw).anew,by rw [List.length_map]; exact h.d.anew,by rw [List.length_map]; exact h.l1,by rw [List.length_map]; exact h.l2,by rw [List.length_replicate,List.length_map]⟩
inductive Hx where
 | p (v : Hv) | t (hs : List Hv) (hd : Hv) (ch : List Int)
def HAt (C : Cs) (O : Sto) (q m : Nat) (s : Int) : Hx -> Prop
 | .p v => O[q]? = some (some (C.o (m : Nat) s v))
 | .t hs hd ch => TAt C O q m s hs hd ch
def HOk (n m : Nat) (s : Int) : Hx -> Prop
 | .p v => HvOk n m s v
 | .t hs hd ch => TOk n m s hs hd ch
def sayX (m : Nat) (said : List (Option Int)) : Hx -> Int
 | .p v => sayH m said v
 | .t hs hd _ => sayT m said hs hd
def hearX (m : Nat) (said : List (Option Int)) (so : Int) : Hx -> Hx
 | .p v => .p (Q1Z said so v)
 | .t hs hd ch => .t (hs.map (Q1Z said so)) (Q1Z (asS (askT m said hs)) so hd) (paidT m said so hs ch)
def Q4Y (m : Nat) : Hx -> Hx
 | .p v => .p (Q1p m v)
 | .t hs hd _ => .t (hs.map (Q1p m)) (Q1p hs.length hd) (List.replicate hs.length 0)
def sizX : Hx -> Nat
 | .p _ => 1
 | .t hs _ _ => hs.length + 2
theorem HOk.hear {n m : Nat} {s so : Int} {said : List (Option Int)} {x : Hx} (h : HOk n m s x) (hs : Q0N (m : Nat) s said) (hso : 0 <= so /\ so <= s) : HOk (n + 1) m s (hearX m said so x) := by
 cases x with
 | p v => exact HvOk.hear h hs hso
 | t ys hd ch => exact TOk.hear h hs hso (by omega)
theorem HOk.anew {n m : Nat} {s : Int} {x : Hx} (h : HOk n m s x) : HOk 0 m s (Q4Y m x) := by
 cases x with
 | p v => exact HvOk.anew h
 | t ys hd ch => exact TOk.anew h
theorem siz_hear (m : Nat) (said : List (Option Int)) (so : Int) (x : Hx) : sizX (hearX m said so x) = sizX x := by
 cases x with
 | p v => rfl
 | t ys hd ch => show (ys.map _).length + 2 = _; rw [List.length_map]; rfl
theorem siz_anew (m : Nat) (x : Hx) : sizX (Q4Y m x) = sizX x := by
 cases x with
 | p v => rfl
 | t ys hd ch => show (ys.map _).length + 2 = _; rw [List.length_map]; rfl
structure BlX (q k : Nat) (O O' : Sto) : Prop where
 l : O'.length = O.length
 o : ∀ j,j < q \/ q + k <= j -> O'[j]? = O[j]?
theorem BlX.split {q k : Nat} {A B Z O' : Sto} (h : BlX q k (A ++ B ++ Z) O') (hA : A.length = q) (hB : B.length = k) : ∃ B',B'.length = k /\ O' = A ++ B' ++ Z := by
 have hl := h.l
 simp only [List.length_append] at hl
 refine ⟨(O'.drop q).take k,by rw [List.length_take,List.length_drop]; omega,List.ext_getElem? λ i => ?_⟩
 have hB' : ((O'.drop q).take k).length = k := by rw [List.length_take,List.length_drop]; omega
 by_cases h1 : i < q
 ·rw [List.append_assoc,List.getElem?_append_left (by omega),h.o i (.inl h1),List.append_assoc,List.getElem?_append_left (by omega)]
 ·by_cases h2 : i < q + k
  ·rw [List.append_assoc,List.getElem?_append_right (by omega),List.getElem?_append_left (by omega),hA,List.getElem?_take_of_lt (by omega),List.getElem?_drop,show q + (i - q) = i by omega]
  ·rw [h.o i (.inr (by omega)),List.getElem?_append_right (by simp; omega),List.getElem?_append_right (by simp; omega)]
   congr 1
   simp only [List.length_append]
   omega
section
variable {X : Cx} {ρ : Rho} {O : Sto} {C : Cs} {o e e2 : Expr} {q n m k1 k2 k3 k4 k5 k6 : Nat} {s so : Int} {x : Hx} {said : List (Option Int)} {R : D -> Sto -> Prop} {pos apos : Pos}
theorem ev_sayX {pl : Sem Bool} (M1 : Q0h X.prog X.w X.K X.mg X.base C.h k1 "say" (Q0S C.h C.w C.s C.r)) (M2 : Q0h X.prog X.w X.K X.mg X.base C.w k1 "say" (Q0S C.h C.w C.s C.r)) (M3 : Q0h X.prog X.w X.K X.mg X.base C.s k1 "say" (Q0S C.h C.w C.s C.r)) (M4 : Q0h X.prog X.w X.K X.mg X.base C.r k1 "say" (Q0S C.h C.w C.s C.r)) (r1 : Room k1 X.A) (M6 : Q0h X.prog X.w X.K X.mg X.base C.f k6 "say" (Q4J C.f)) (r6 : Room k6 X.A) (M5 : Q0h X.prog X.w X.K X.mg X.base C.t k5 "say" (spSayT C)) (r5 : Room k5 X.A)
  (ho : EvP X ρ O o (.ptr q)) (hq : HAt C O q m s x) (hok : HOk n m s x) (hm : 1 <= m /\ m <= 24) (h0 : 0 <= s) (hs : Q0N (m : Nat) s said) (ha : EvPs X ρ O [e] [.tup (said.map od)])
  (hst : starEach [e] X.env = (false,eval e X.env) :: starEach [] X.env := by rfl) (hpl : (backTo pos (starEach [] X.env)).any (·.1) = false := by rfl)
  (ht : eval (.Call (.Attribute o "say" apos) [e] [] pos) X.env = (do
   let ov <- eval o X.env
   standAt apos.atName
   let (f,first) <- holding [ov] (getMethod ov "say" pl)
   callWith pos f first (backTo pos (starEach [e] X.env)) (backToKw pos (keywordEach [] X.env))) := by rfl) : EvP X ρ O (.Call (.Attribute o "say" apos) [e] [] pos) (.int (sayX m said x)) := by
 cases x with
 | p v => exact ev_sayH M1 M2 M3 M4 r1 M6 r6 ho hq hok hm hs ha hst hpl ht
 | t ys hd ch => exact Ev.evp (Q1F M5 r5 ho (TAt.o hq) (tl_no _ _ _ _ _ (by decide +kernel)) ha ⟨q,n,m,s,ys,hd,ch,said,rfl,hq,hok,hm,h0,hs,rfl,rfl⟩ hst hpl ht)
theorem ev_hearX {pl : Sem Bool} (M1 : Q0h X.prog X.w X.K X.mg X.base C.h k1 "hear" (Q3e C.h)) (M2 : Q0h X.prog X.w X.K X.mg X.base C.w k2 "hear" (Q1q C.w C.s false)) (M3 : Q0h X.prog X.w X.K X.mg X.base C.s k3 "hear" (Q1q C.w C.s true)) (M4 : Q0h X.prog X.w X.K X.mg X.base C.r k4 "hear" (Q3d C.r)) (r1 : Room k1 X.A) (r2 : Room (max k2 k3) X.A) (r3 : Room k4 X.A) (M6 : Q0h X.prog X.w X.K X.mg X.base C.f k6 "hear" (Q3f C.f)) (r6 : Room k6 X.A) (M5 : Q0h X.prog X.w X.K X.mg X.base C.t k5 "hear" (Q4u C)) (r5 : Room k5 X.A)
  (ho : EvP X ρ O o (.ptr q)) (hq : HAt C O q m s x) (hok : HOk n m s x) (hn : n <= 1000) (hm : 1 <= m /\ m <= 24) (hs : Q0N (m : Nat) s said) (hso : 0 <= so /\ so <= s) (ha : EvPs X ρ O [e,e2] [.tup (said.map od),.int so]) (hR : ∀ O',BlX q (sizX x) O O' -> HAt C O' q m s (hearX m said so x) -> R .non O')
  (hst : starEach [e,e2] X.env = (false,eval e X.env) :: starEach [e2] X.env := by rfl) (hpl : (backTo pos (starEach [e2] X.env)).any (·.1) = false := by rfl)
  (ht : eval (.Call (.Attribute o "hear" apos) [e,e2] [] pos) X.env = (do
   let ov <- eval o X.env
   standAt apos.atName
   let (f,first) <- holding [ov] (getMethod ov "hear" pl)
   callWith pos f first (backTo pos (starEach [e,e2] X.env)) (backToKw pos (keywordEach [] X.env))) := by rfl) : Ev X ρ O (.Call (.Attribute o "hear" apos) [e,e2] [] pos) R := by
 cases x with
 | p v => exact ev_hearH M1 M2 M3 M4 r1 r2 r3 M6 r6 ho hq hok hn hm hs hso ha (hR _ ⟨List.length_set ..,λ j hj => List.getElem?_set_ne (by have : sizX (.p v) = 1 := rfl; omega)⟩ (Q1H hq)) hst hpl ht
 | t ys hd ch => exact Q1F M5 r5 ho (TAt.o hq) (tl_no _ _ _ _ _ (by decide +kernel)) ha ⟨q,n,m,s,so,ys,hd,ch,said,rfl,hq,hok,hn,hm,hs,hso,λ O' b t => hR O' ⟨b.l,λ j hj => b.o j (by have : sizX (.t ys hd ch) = ys.length + 2 := rfl; omega)⟩ t⟩ hst hpl ht
theorem ev_anewX {pl : Sem Bool} (M1 : Q0h X.prog X.w X.K X.mg X.base C.h k1 "anew" (Q3O C.h)) (M2 : Q0h X.prog X.w X.K X.mg X.base C.w k2 "anew" (Q1E C.w C.s false)) (M3 : Q0h X.prog X.w X.K X.mg X.base C.s k3 "anew" (Q1E C.w C.s true)) (M4 : Q0h X.prog X.w X.K X.mg X.base C.r k4 "anew" (Q3N C.r)) (r1 : Room k1 X.A) (r2 : Room (max k2 k3) X.A) (r3 : Room k4 X.A) (M6 : Q0h X.prog X.w X.K X.mg X.base C.f k6 "anew" (Q3P C.f)) (r6 : Room k6 X.A) (M5 : Q0h X.prog X.w X.K X.mg X.base C.t k5 "anew" (spAnewT C)) (r5 : Room k5 X.A)
  (ho : EvP X ρ O o (.ptr q)) (hq : HAt C O q m s x) (hok : HOk n m s x) (hm : 1 <= m /\ m <= 24) (hs : 1 <= s /\ s <= 10) (hR : ∀ B : Sto,B.length = sizX x -> (∀ Y,HAt C (O ++ B ++ Y) O.length m s (Q4Y m x)) -> R (.ptr O.length) (O ++ B))
  (ht : eval (.Call (.Attribute o "anew" apos) [] [] pos) X.env = (do
   let ov <- eval o X.env
   standAt apos.atName
   let (f,first) <- holding [ov] (getMethod ov "anew" pl)
   callWith pos f first (backTo pos (starEach [] X.env)) (backToKw pos (keywordEach [] X.env))) := by rfl) : Ev X ρ O (.Call (.Attribute o "anew" apos) [] [] pos) R := by
 cases x with
 | p v => exact ev_anewH M1 M2 M3 M4 r1 r2 r3 M6 r6 ho hq hok hm hs (hR _ rfl λ Y => mid_at) ht
 | t ys hd ch => exact Q1Q M5 r5 ho (TAt.o hq) (tl_no _ _ _ _ _ (by decide +kernel)) ⟨q,n,m,s,ys,hd,ch,rfl,hq,hok,hm,hs,hR _ newT_len λ Y => newT_at⟩ ht
theorem ev_manyX (c1 : Cls X.K C.h) (c2 : Cls X.K C.w) (c3 : Cls X.K C.s) (c4 : Cls X.K C.r) (n1 : Q0u X.K C.h "many") (n2 : Q0u X.K C.w "many") (n3 : Q0u X.K C.s "many") (n4 : Q0u X.K C.r "many") (c6 : Cls X.K C.f) (n6 : Q0u X.K C.f "many") (c5 : Cls X.K C.t) (n5 : Q0u X.K C.t "many") (ho : EvP X ρ O o (.ptr q)) (hq : HAt C O q m s x) (hok : HOk n m s x) (hb : attributeBase o ("many" : Str) X.env (eval o X.env) = eval o X.env := by rfl) : EvP X ρ O (.Attribute o "many" pos) (.int (m : Nat)) := by
 cases x with
 | p v => exact Q4m c1 c2 c3 c4 n1 n2 n3 n4 c6 n6 ho hq hok hb
 | t ys hd ch => exact Q0o ho (TAt.o hq) c5 n5 (tl_many _ _ _ _ _) hb
theorem ev_scaleX (c1 : Cls X.K C.h) (c2 : Cls X.K C.w) (c3 : Cls X.K C.s) (c4 : Cls X.K C.r) (n1 : Q0u X.K C.h "scale") (n2 : Q0u X.K C.w "scale") (n3 : Q0u X.K C.s "scale") (n4 : Q0u X.K C.r "scale") (c6 : Cls X.K C.f) (n6 : Q0u X.K C.f "scale") (c5 : Cls X.K C.t) (n5 : Q0u X.K C.t "scale") (ho : EvP X ρ O o (.ptr q)) (hq : HAt C O q m s x) (hok : HOk n m s x) (hb : attributeBase o ("scale" : Str) X.env (eval o X.env) = eval o X.env := by rfl) : EvP X ρ O (.Attribute o "scale" pos) (.int s) := by
 cases x with
 | p v => exact Q2T c1 c2 c3 c4 n1 n2 n3 n4 c6 n6 ho hq hok hb
 | t ys hd ch => exact Q0o ho (TAt.o hq) c5 n5 (tl_scale _ _ _ _ _) hb
end
def evX (m : Nat) (x : Hx) (ts : List Tn) (i : Nat) : Hx := (ts.take i).foldl (λ y t => hearX m t.1 t.2 y) (Q4Y m x)
theorem Q4n {m : Nat} {x : Hx} {ts : List Tn} {i : Nat} {t : Tn} (h : ts[i]? = some t) : evX m x ts (i + 1) = hearX m t.1 t.2 (evX m x ts i) := by
 unfold evX
 rw [List.take_add_one,h,List.foldl_append]
 rfl
theorem siz_ev {m : Nat} {x : Hx} {ts : List Tn} : ∀ i,i <= ts.length -> sizX (evX m x ts i) = sizX x
 | 0,_ => siz_anew m x
 | i + 1,h => by rw [Q4n (List.getElem?_eq_getElem (show i < ts.length by omega)),siz_hear]; exact siz_ev i (by omega)
theorem evX_ok {n m : Nat} {s : Int} {x : Hx} {ts : List Tn} (hx : HOk n m s x) (hm : m <= 24) (ht : ∀ t ∈ ts,TnOk m s t) : ∀ i,i <= ts.length -> HOk i m s (evX m x ts i)
 | 0,_ => hx.anew
 | i + 1,h => by
  have hq : ts[i]? = some ts[i] := List.getElem?_eq_getElem (by omega)
  have hok := ht _ (List.getElem_mem (show i < ts.length by omega))
  rw [Q4n hq]
  exact (evX_ok hx hm ht i (by omega)).hear (hok.said hm) hok.2.2
def tnX (ts : List Tn) (k : Nat) : Tn := ts.getD k ([],0)
theorem tnX_at {ts : List Tn} {k : Nat} {t : Tn} (h : ts[k]? = some t) : tnX ts k = t := by unfold tnX; rw [List.getD_eq_getElem?_getD,h]; rfl
def Q2z (m : Nat) (x : Hx) (ts : List Tn) (k : Nat) : Int := sayX m (tnX ts k).1 (evX m x ts k)
def spRanX (C : Cs) : SpD := λ ds O R => ∃ (q n m : Nat) (s : Int) (x : Hx) (ts : List Tn),ds = [.ptr q,.tup (ts.map tD)] /\ HAt C O q m s x /\ HOk n m s x /\ (1 <= m /\ m <= 24) /\ (1 <= s /\ s <= 10) /\ (∀ t ∈ ts,TnOk m s t) /\ ts.length <= 63 /\ R (.tup (((List.range ts.length).map (Q2z m x ts)).map D.int)) O
theorem HAt.in_ {C : Cs} {A B B' Z Y : Sto} {m : Nat} {s : Int} {x : Hx} (h : HAt C (A ++ B ++ Z) A.length m s x) (hB : B.length = sizX x) : HAt C (A ++ B ++ Y) A.length m s x := by
 have hz : ∀ j,A.length <= j -> j < A.length + B.length -> (A ++ B ++ Y)[j]? = (A ++ B ++ Z)[j]? := λ j h1 h2 => (List.getElem?_append_left (l₁ := A ++ B) (by rw [List.length_append]; omega)).trans (List.getElem?_append_left (l₁ := A ++ B) (by rw [List.length_append]; omega)).symm
 cases x with
 | p v =>
  have hB : B.length = 1 := hB
  show _ = _
  rw [hz _ (Nat.le_refl _) (by omega)]; exact h
 | t ys hd ch =>
  have hB : B.length = ys.length + 2 := hB
  refine ⟨by rw [hz _ (Nat.le_refl _) (by omega)]; exact h.o,λ i v hv => ?_,by rw [hz _ (by omega) (by omega)]; exact h.d⟩
  have := (List.getElem?_eq_some_iff.mp hv).1
  rw [hz _ (by omega) (by omega)]; exact h.h i v hv
def far (m z : Int) (q : Int × Int) : Int := if ab (m - z) <= ab (q.1 - z) then q.2 else 0
theorem far_half {ns ws : List Int} (h : Two ns ws) (z : Int) : (cnt ws).sum <= 2 * sm (far (mid ns ws) z) (ns.zip (cnt ws)) := by
 by_cases hn : ns = []
 ·subst hn
  have : ws = [] := List.eq_nil_of_length_eq_zero h.1.symm
  subst this
  show (cnt []).sum <= 2 * (0 : Int)
  decide
 ·have hh := mid_half h hn
  have hc := cnt_ok h.2.2
  have hl : ns.length = (cnt ws).length := by rw [cnt_len]; exact h.1
  unfold below there at hh
  generalize mid ns ws = m at *
  generalize cnt ws = cs at *
  have hm : ∀ p ∈ ns.zip cs,0 <= p.2 := λ p hp => hc _ (List.of_mem_zip hp).2
  have hs : sm (λ q : Int × Int => q.2) (ns.zip cs) = cs.sum := sm_zip_snd hl
  by_cases hz : z <= m
  ·have : sm (λ q : Int × Int => q.2) (ns.zip cs) <= sm (λ q => (if q.1 < m then q.2 else 0) + far m z q) (ns.zip cs) := sm_le λ a ha => by
    have := hm a ha
    unfold far ab
    by_cases h1 : a.1 < m
    ·rw [if_pos h1]; split <;> split <;> split <;> omega
    ·rw [if_neg h1,if_pos (by split <;> split <;> omega)]; omega
   rw [sm_add] at this
   omega
  ·have : sm (λ q : Int × Int => (if q.1 < m then q.2 else 0) + (if q.1 = m then q.2 else 0)) (ns.zip cs) <= sm (far m z) (ns.zip cs) := sm_le λ a ha => by
    have := hm a ha
    unfold far ab
    by_cases h1 : a.1 <= m
    ·rw [if_pos (c := (if m - z < 0 then -(m - z) else m - z) <= (if a.1 - z < 0 then -(a.1 - z) else a.1 - z)) (by split <;> split <;> omega)]; split <;> split <;> omega
    ·rw [if_neg (show ¬ a.1 < m by omega),if_neg (show ¬ a.1 = m by omega)]; split <;> split <;> split <;> omega
   rw [sm_add] at this
   omega
theorem sm_split {α : Type} (p : α -> Bool) (g : α -> Int) (l : List α) : sm g l = sm g (l.filter p) + sm g (l.filter λ a => !p a) := by
 induction l with
 | nil => rfl
 | cons a l ih =>
  have e : sm g (a :: l) = g a + sm g l := rfl
  cases h : p a with
  | true =>
   rw [List.filter_cons_of_pos h,List.filter_cons_of_neg (by rw [h]; decide),e,ih]
   show _ = (g a + sm g (l.filter p)) + _
   omega
  | false =>
   rw [List.filter_cons_of_neg (by rw [h]; decide),List.filter_cons_of_pos (by rw [h]; rfl),e,ih]
   show _ = _ + (g a + sm g (l.filter λ a => !p a))
   omega
theorem cost_le {t b : Int} (h0 : 0 <= t) (hb : t <= b) (b1 : 1 <= b) {s l d : Nat} (hl : l <= s) (hd : d <= s) : t ^ l * b ^ (s - l) * b ^ d <= b ^ s * (if d <= l then t ^ d else b ^ d) := by
 by_cases h : d <= l
 ·rw [if_pos h]
  obtain ⟨e,rfl⟩ := Nat.exists_eq_add_of_le h
  obtain ⟨f,rfl⟩ := Nat.exists_eq_add_of_le hl
  have e1 : d + e + f - (d + e) = f := by omega
  rw [e1,Int.pow_add,Int.pow_add,Int.pow_add]
  have h1 : t ^ e <= b ^ e := Q4k h0 hb e
  have p1 : 0 <= t ^ d := Int.pow_nonneg h0
  have p2 : 0 <= b ^ f := Int.pow_nonneg (by omega)
  have p3 : 0 <= b ^ d := Int.pow_nonneg (by omega)
  generalize t ^ d = x at *
  generalize t ^ e = y at *
  generalize b ^ e = z at *
  generalize b ^ f = v at *
  generalize b ^ d = w at *
  have q : x * y * v * w <= x * z * v * w := Int.mul_le_mul_of_nonneg_right (Int.mul_le_mul_of_nonneg_right (Int.mul_le_mul_of_nonneg_left h1 p1) p2) p3
  have e2 : w * z * v * x = x * z * v * w := by
   rw [Int.mul_comm (w * z * v) x,Int.mul_assoc w z v,Int.mul_comm w (z * v),<- Int.mul_assoc,<- Int.mul_assoc]
  rw [e2]
  exact q
 ·rw [if_neg h]
  have h1 : t ^ l <= b ^ l := Q4k h0 hb l
  have p2 : 0 <= b ^ (s - l) := Int.pow_nonneg (by omega)
  have p3 : 0 <= b ^ d := Int.pow_nonneg (by omega)
  have e1 : b ^ s = b ^ l * b ^ (s - l) := by rw [<- Int.pow_add]; congr 1; omega
  rw [e1]
  exact Int.mul_le_mul_of_nonneg_right (Int.mul_le_mul_of_nonneg_right h1 p2) p3
theorem ws_sum {ws : List Int} {n : Nat} (h : ws.length = n) : ws.sum = sm (λ k => ws.getD k 0) (List.range n) := by
 subst h
 rw [<- Q4d]
 congr 1
 refine List.ext_getElem? λ i => ?_
 rw [List.getElem?_map]
 by_cases hi : i < ws.length
 ·rw [List.getElem?_range hi,List.getElem?_eq_getElem hi]
  simp [List.getD,hi]
 ·rw [List.getElem?_eq_none (by omega),List.getElem?_eq_none (by simp; omega)]
  rfl
def Wfar (m so : Int) (said : List (Option Int)) (ws : List Int) : Int := sm (λ k => if ab (m - so) <= ab ((sat2 said k).getD 0 - so) then ws.getD k 0 else 0) (ax said)
theorem getD_pos {ws : List Int} (h : Wok ws) (k : Nat) : 0 <= ws.getD k 0 := by
 by_cases hk : k < ws.length
 ·rw [List.getD_eq_getElem?_getD,List.getElem?_eq_getElem hk]
  exact h _ (List.getElem_mem hk)
 ·rw [List.getD_eq_getElem?_getD,List.getElem?_eq_none (by omega)]
  exact Int.le_refl _
theorem wsA_sm (said : List (Option Int)) (ws : List Int) : (wsA said ws).sum = sm (λ k => ws.getD k 0) (ax said) := by unfold wsA; rw [Q4d]
theorem half_far {said : List (Option Int)} {ws : List Int} (h24 : said.length <= 24) (hw : Wok ws) (so : Int) : sm (λ k => ws.getD k 0) (ax said) <= 2 * Wfar (midA said ws) so said ws := by
 have h2 := twoA (ws := ws) h24 hw
 have hp : 0 <= Wfar (midA said ws) so said ws := sm_pos λ k _ => by
  have := getD_pos hw k
  split <;> omega
 by_cases h0 : (wsA said ws).sum = 0
 ·rw [<- wsA_sm,h0]
  omega
 ·have hh := far_half h2 so
  have e : cnt (wsA said ws) = wsA said ws := by unfold cnt; rw [if_neg h0]
  rw [e,<- prA_zip,wsA_sm] at hh
  have e2 : sm (far (mid (nsA said) (wsA said ws)) so) (prA said ws) = Wfar (midA said ws) so said ws := by
   unfold prA Wfar midA
   rw [sm_map]
   rfl
  rw [e2] at hh
  exact hh
theorem two_sides {B T x y : Int} (h1 : T <= B) (h2 : y <= x) : 2 * (T * x + B * y) <= (B + T) * (x + y) := by
 have h := Int.mul_nonneg (show 0 <= B - T by omega) (show 0 <= x - y by omega)
 rw [Int.sub_mul,Int.mul_sub,Int.mul_sub] at h
 rw [Int.add_mul,Int.mul_add B,Int.mul_add T]
 omega
theorem sum_awake {m sc t b so : Int} {said : List (Option Int)} {ws : List Int} (hf : Frac sc t b) (hs : Q0N m sc said) (hso : 0 <= so /\ so <= sc) (hw : Wok ws) :
  sm (nW t b sc (ab (midA said ws - so)) so said ws) (ax said) <= tS t b sc (ab (midA said ws - so)) * sm (λ k => ws.getD k 0) (ax said) := by
 have s1 := hf.s1; have s2 := hf.s2; have t0 := hf.t0; have tb := hf.tb; have b2 := hf.b2
 have h24 : said.length <= 24 := by have := hs.1; have := hs.2.1; omega
 have hd := ab_ok (Q3n (ws := ws) hs (by omega) hw) hso
 have hh := half_far h24 hw so
 unfold Wfar at hh
 generalize midA said ws = mm at *
 generalize hdd : ab (mm - so) = dd at *
 obtain ⟨B,hB⟩ : ∃ B,b ^ dd.toNat = B := ⟨_,rfl⟩
 obtain ⟨Tt,hT⟩ : ∃ x,t ^ dd.toNat = x := ⟨_,rfl⟩
 have hTB : Tt <= B := by rw [<- hT,<- hB]; exact Q4k t0 (by omega) _
 have c : ∀ k ∈ ax said,nW t b sc dd so said ws k <= 2 * b ^ sc.toNat * ((if dd <= ab ((sat2 said k).getD 0 - so) then Tt else B) * ws.getD k 0) := λ k hk => by
  have hq := (List.mem_filter.mp hk).2
  have hmem : sat2 said k ∈ said := by
   unfold sat2
   rw [List.getElem?_eq_getElem (ax_lt hk)]
   exact List.getElem_mem _
  unfold nW
  cases hx : sat2 said k with
  | none => rw [hx] at hq; cases hq
  | some x =>
   rw [hx] at hmem
   have hon := onS_ok ((hs.2.2 _ hmem).resolve_left (λ h => by cases h))
   have hl := ab_ok hon hso
   show ws.getD k 0 * tA t b sc dd (ab (x - so)) <= 2 * b ^ sc.toNat * ((if dd <= ab (x - so) then Tt else B) * ws.getD k 0)
   have hw0 := getD_pos hw k
   generalize ws.getD k 0 = y at *
   generalize ab (x - so) = l at *
   have hc := cost_le (s := sc.toNat) (l := l.toNat) (d := dd.toNat) t0 (Int.le_of_lt tb) (by omega) (by omega) (by omega)
   have ei : (if dd.toNat <= l.toNat then t ^ dd.toNat else b ^ dd.toNat) = (if dd <= l then Tt else B) := by
    rw [hT,hB]
    by_cases h : dd <= l
    ·rw [if_pos h,if_pos (by omega)]
    ·rw [if_neg h,if_neg (by omega)]
   rw [ei] at hc
   have es : (sc - l).toNat = sc.toNat - l.toNat := by omega
   unfold tA
   rw [es]
   generalize (if dd <= l then Tt else B) = z at *
   generalize t ^ l.toNat * b ^ (sc.toNat - l.toNat) = v at *
   rw [hB] at hc ⊢
   have q := Int.mul_le_mul_of_nonneg_left hc (show 0 <= 2 * y by omega)
   have e1 : y * (v * 2 * B) = 2 * y * (v * B) := by rw [Int.mul_assoc v 2 B,Int.mul_comm 2 B,<- Int.mul_assoc v B 2,Int.mul_comm (v * B) 2,<- Int.mul_assoc,Int.mul_comm y 2]
   have e2 : 2 * b ^ sc.toNat * (z * y) = 2 * y * (b ^ sc.toNat * z) := by rw [Int.mul_assoc,Int.mul_assoc,Int.mul_comm z y,<- Int.mul_assoc (b ^ sc.toNat) y z,Int.mul_comm (b ^ sc.toNat) y,Int.mul_assoc y]
   rw [e1,e2]
   exact q
 refine Int.le_trans (sm_le c) ?_
 rw [sm_mul]
 have e3 : sm (λ k => (if dd <= ab ((sat2 said k).getD 0 - so) then Tt else B) * ws.getD k 0) (ax said) = Tt * sm (λ k => if dd <= ab ((sat2 said k).getD 0 - so) then ws.getD k 0 else 0) (ax said) + B * sm (λ k => if dd <= ab ((sat2 said k).getD 0 - so) then 0 else ws.getD k 0) (ax said) := by
  rw [<- sm_mul,<- sm_mul,<- sm_add]
  refine sm_eq λ k _ => ?_
  by_cases h : dd <= ab ((sat2 said k).getD 0 - so)
  ·rw [if_pos h,if_pos h,if_pos h,Int.mul_zero,Int.add_zero]
  ·rw [if_neg h,if_neg h,if_neg h,Int.mul_zero,Int.zero_add]
 have e4 : sm (λ k => ws.getD k 0) (ax said) = sm (λ k => if dd <= ab ((sat2 said k).getD 0 - so) then ws.getD k 0 else 0) (ax said) + sm (λ k => if dd <= ab ((sat2 said k).getD 0 - so) then 0 else ws.getD k 0) (ax said) := by
  rw [<- sm_add]
  refine sm_eq λ k _ => ?_
  by_cases h : dd <= ab ((sat2 said k).getD 0 - so)
  ·rw [if_pos h,if_pos h,Int.add_zero]
  ·rw [if_neg h,if_neg h,Int.zero_add]
 rw [e3]
 rw [e4] at hh ⊢
 unfold tS
 rw [hB,hT]
 generalize sm (λ k => if dd <= ab ((sat2 said k).getD 0 - so) then ws.getD k 0 else 0) (ax said) = wf at *
 generalize sm (λ k => if dd <= ab ((sat2 said k).getD 0 - so) then 0 else ws.getD k 0) (ax said) = wn at *
 have q := two_sides (x := wf) (y := wn) hTB (by omega)
 have p : 0 <= b ^ sc.toNat := Int.pow_nonneg (by omega)
 have r := Int.mul_le_mul_of_nonneg_left q p
 rw [Int.mul_assoc,Int.mul_comm 2 (b ^ sc.toNat * (Tt * wf + B * wn)),Int.mul_assoc,Int.mul_comm (Tt * wf + B * wn) 2,Int.mul_assoc]
 exact r
theorem sum_next {m sc t b so : Int} {said : List (Option Int)} {ws : List Int} (hf : Frac sc t b) (hs : Q0N m sc said) (hso : 0 <= so /\ so <= sc) (hw : Wok ws) (hl : ws.length = said.length) :
  (Q2G t b sc (ab (midA said ws - so)) so said ws).sum <= ws.sum * tS t b sc (ab (midA said ws - so)) := by
 have ha := sum_awake (ws := ws) hf hs hso hw
 rw [<- nW_all hl,Q4d,ws_sum hl,sm_split (λ k => (sat2 said k).isSome) (nW _ _ _ _ _ _ _),sm_split (λ k => (sat2 said k).isSome) (λ k => ws.getD k 0),Int.mul_comm,Int.mul_add]
 refine Int.add_le_add ha (Int.le_of_eq ?_)
 rw [<- sm_mul]
 refine sm_eq λ k hk => ?_
 have hq := (List.mem_filter.mp hk).2
 unfold nW
 cases hx : sat2 said k with
 | some x => rw [hx] at hq; cases hq
 | none =>
  show ws.getD k 0 * tS t b sc (ab (midA said ws - so)) = _
  rw [Int.mul_comm]
theorem nextW_at {t b sc dd so : Int} {said : List (Option Int)} {ws : List Int} (h : ws.length = said.length) {k : Nat} (hk : k < said.length) : (Q2G t b sc dd so said ws).getD k 0 = ws.getD k 0 * tF t b sc dd so (sat2 said k) := by
 rw [<- nW_all h,List.getD_eq_getElem?_getD,List.getElem?_map,List.getElem?_range hk]
 rfl
theorem tS_pos {t b sc dd : Int} (hf : Frac sc t b) : 0 < tS t b sc dd := by
 have t0 := hf.t0; have tb := hf.tb
 have h1 : 0 < b ^ sc.toNat := Int.pow_pos (by omega)
 have h2 : 0 < b ^ dd.toNat := Int.pow_pos (by omega)
 have h3 : 0 <= t ^ dd.toNat := Int.pow_nonneg t0
 exact Int.mul_pos h1 (by omega)
theorem le_sum {ws : List Int} (h : Wok ws) {k : Nat} (hk : k < ws.length) : ws.getD k 0 <= ws.sum := by
 induction ws generalizing k with
 | nil => cases hk
 | cons a l ih =>
  have ha := h a List.mem_cons_self
  have hl : Wok l := λ w hw => h w (List.mem_cons_of_mem _ hw)
  have hs := sum_pos hl
  rw [List.sum_cons]
  cases k with
  | zero => show a <= _; omega
  | succ k =>
   have := ih hl (k := k) (by simpa using hk)
   show l.getD k 0 <= _
   omega
def dW (tn : Tn) (ws : List Int) : Int := ab (midA tn.1 ws - tn.2)
def wN (t b sc : Int) (tn : Tn) (ws : List Int) : List Int := Q2G t b sc (dW tn ws) tn.2 tn.1 ws
def uN (t b sc : Int) (tn : Tn) (ws : List Int) (u : Int) : Int := u * tS t b sc (dW tn ws)
structure PInv (m : Nat) (ws : List Int) (u : Int) (i : Nat) : Prop where
 wo : WOk i ws u
 ln : ws.length = m
 up : 0 < u
 sm : ws.sum <= (m : Nat) * u
theorem PInv.next {m : Nat} {sc t b u : Int} {ws : List Int} {i : Nat} {tn : Tn} (h : PInv m ws u i) (hf : Frac sc t b) (hm : m <= 24) (hok : TnOk m sc tn) : PInv m (wN t b sc tn ws) (uN t b sc tn ws u) (i + 1) /\ (wN t b sc tn ws).sum * u <= ws.sum * uN t b sc tn ws u := by
 have hsd := hok.said hm
 have hso := hok.2.2
 have hsl : ws.length = tn.1.length := by rw [h.ln]; exact hok.1.symm
 have hw0 : Wok ws := λ w hw => (h.wo.w w hw).1
 have hd := ab_ok (Q3n (ws := ws) hsd (by have := hf.s1; omega) hw0) hso
 have hnx := wOk_next (dd := dW tn ws) (so := tn.2) (said := tn.1) hf h.wo hsd.2.2 hso hd
 have hsn : (wN t b sc tn ws).sum <= ws.sum * tS t b sc (dW tn ws) := sum_next hf hsd hso hw0 hsl
 have htp := tS_pos (dd := dW tn ws) hf
 refine ⟨⟨hnx,by unfold wN; rw [Q3m hsl]; exact h.ln,Int.mul_pos h.up htp,?_⟩,?_⟩
 ·refine Int.le_trans hsn ?_
  show _ <= (m : Nat) * (u * tS t b sc (dW tn ws))
  rw [<- Int.mul_assoc]
  exact Int.mul_le_mul_of_nonneg_right h.sm (Int.le_of_lt htp)
 ·show _ <= ws.sum * (u * tS t b sc (dW tn ws))
  rw [Int.mul_comm u,<- Int.mul_assoc]
  exact Int.mul_le_mul_of_nonneg_right hsn (Int.le_of_lt h.up)
abbrev le17 (m t b : Int) (o e : Nat) : Prop := t ^ o * (2 * b) ^ e <= m * (b + t) ^ e * b ^ o
structure Ok17 (m t b : Int) (o : Nat) : Prop where
 m1 : 1 <= m
 m2 : m <= 24
 t0 : 0 <= t
 tb : t < b
 b2 : b <= 100
 o2 : o <= 60
theorem le0 {m t b : Int} {o : Nat} (h : Ok17 m t b o) : le17 m t b o 0 := by
 unfold le17
 rw [Int.pow_zero,Int.pow_zero,Int.mul_one,Int.mul_one]
 have h1 : t ^ o <= b ^ o := Q4k h.t0 (Int.le_of_lt h.tb) o
 have h2 : 0 <= b ^ o := Int.pow_nonneg (Int.le_trans h.t0 (Int.le_of_lt h.tb))
 have h3 : 1 * b ^ o <= m * b ^ o := Int.mul_le_mul_of_nonneg_right h.m1 h2
 omega
theorem big : 199 ^ 56000 * (24 * 100 ^ 60) < 200 ^ 56000 := by decide +kernel
theorem bigI (N k : Nat) (h : 199 ^ N * k < 200 ^ N) : (199 : Int) ^ N * (k : Nat) < 200 ^ N := by
 have q := Int.ofNat_lt.mpr h
 rw [Int.natCast_mul,Int.natCast_pow,Int.natCast_pow] at q
 exact q
theorem fewN {N : Nat} {k : Int} (hk : 24 * 100 ^ 60 <= k) (bg : (199 : Int) ^ N * k < 200 ^ N) {m t b : Int} {o e : Nat} (h : Ok17 m t b o) (hp : 1 <= t ^ o) (hl : le17 m t b o e) : e < N := by
 refine Nat.lt_of_not_le λ hn => ?_
 unfold le17 at hl
 have hb : 0 < b := Int.lt_of_le_of_lt h.t0 h.tb
 have hb0 : 0 <= b := Int.le_of_lt hb
 have c0 : 0 <= b + t := by have := h.t0; omega
 have c1 : 0 < (b + t) ^ e := Int.pow_pos (by have := h.t0; omega)
 have d0 : 0 <= (2 * b) ^ e := Int.pow_nonneg (by omega)
 have h1 : (2 * b) ^ e <= m * (b + t) ^ e * b ^ o := by
  have : 1 * (2 * b) ^ e <= t ^ o * (2 * b) ^ e := Int.mul_le_mul_of_nonneg_right hp d0
  omega
 have h2 : (200 * (b + t)) ^ e <= (199 * (2 * b)) ^ e := Q4k (by omega) (by have := h.tb; have := h.b2; omega) e
 rw [Int.mul_pow,Int.mul_pow] at h2
 have h3 : b ^ o <= 100 ^ 60 := Int.le_trans (Q4k hb0 h.b2 o) (by
  have : (100 : Int) ^ 60 = 100 ^ o * 100 ^ (60 - o) := by rw [<- Int.pow_add]; congr 1; have := h.o2; omega
  rw [this]
  have p1 : (0 : Int) <= 100 ^ o := Int.pow_nonneg (by decide)
  have p2 : (1 : Int) <= 100 ^ (60 - o) := Int.pow_pos (by decide)
  have := Int.mul_le_mul_of_nonneg_left p2 p1
  omega)
 have h4 : m * b ^ o <= k := Int.le_trans (Int.mul_le_mul h.m2 h3 (Int.pow_nonneg hb0) (by decide)) hk
 have e0 : (0 : Int) <= 199 ^ e := Int.pow_nonneg (by decide)
 have h5 : 199 ^ e * (2 * b) ^ e <= 199 ^ e * k * (b + t) ^ e := by
  have q1 := Int.mul_le_mul_of_nonneg_left h1 e0
  have q2 : 199 ^ e * (m * (b + t) ^ e * b ^ o) = 199 ^ e * (m * b ^ o) * (b + t) ^ e := by
   rw [Int.mul_assoc m,Int.mul_comm ((b + t) ^ e),<- Int.mul_assoc m,<- Int.mul_assoc,<- Int.mul_assoc,Int.mul_assoc (199 ^ e) m]
  have q3 : 199 ^ e * (m * b ^ o) * (b + t) ^ e <= 199 ^ e * k * (b + t) ^ e := Int.mul_le_mul_of_nonneg_right (Int.mul_le_mul_of_nonneg_left h4 e0) (Int.le_of_lt c1)
  omega
 have h6 : (200 : Int) ^ e <= 199 ^ e * k := Int.le_of_mul_le_mul_right (Int.le_trans h2 h5) c1
 obtain ⟨d,rfl⟩ := Nat.exists_eq_add_of_le hn
 have g1 : (199 : Int) ^ d <= 200 ^ d := Q4k (by decide) (by decide) d
 have g0 : (0 : Int) < 199 ^ d := Int.pow_pos (by decide)
 have hy : (0 : Int) <= 200 ^ N := Int.pow_nonneg (by decide)
 clear hk h4 h3 h5 h2 h1 hl
 rw [Int.pow_add,Int.pow_add] at h6
 generalize (199 : Int) ^ N = x at *
 generalize (200 : Int) ^ N = y at *
 generalize (199 : Int) ^ d = u at *
 generalize (200 : Int) ^ d = v at *
 have r1 : x * k * u < y * u := Int.mul_lt_mul_of_pos_right bg g0
 have r2 : x * u * k = x * k * u := by rw [Int.mul_assoc,Int.mul_comm u,<- Int.mul_assoc]
 have r3 : y * u <= y * v := Int.mul_le_mul_of_nonneg_left g1 hy
 omega
theorem few {m t b : Int} {o e : Nat} (h : Ok17 m t b o) (hp : 1 <= t ^ o) (hl : le17 m t b o e) : e < 56000 := fewN (k := ((24 * 100 ^ 60 : Nat) : Int)) (by decide) (bigI 56000 _ big) h hp hl
def pre17 : List D -> Prop := λ ds => ∃ m t b o : Int,ds = [.int m,.int t,.int b,.int o] /\ 0 <= o /\ Ok17 m t b o.toNat
def rel17 : List D -> D -> Prop := λ ds d => ∃ m t b o : Int,ds = [.int m,.int t,.int b,.int o] /\ ((t = 0 /\ 0 < o /\ d = .non) \/ (¬ (t = 0 /\ 0 < o) /\ ∃ e : Nat,e < 56000 /\ d = .int (e : Nat) /\ le17 m t b o.toNat e /\ ¬ le17 m t b o.toNat (e + 1)))
def spHas : List D -> D -> Prop := λ ds d => ∃ t b o : Int,ds = [.int t,.int b,.int o] /\ d = .bl (decide (t < b) && (decide (t > 0) || decide (o = 0)))
def mu17 (ρ : Rho) (_ : Sto) : Nat := match ρ with
 | [_,_,_,_,some (.int e),_,_] => 56001 - e.toNat
 | _ => 0
def saysW (t b sc : Int) : List Tn -> List Int -> List Int
 | [],_ => []
 | tn :: ts,ws => midA tn.1 ws :: saysW t b sc ts (wN t b sc tn ws)
def oI (k : Nat) (p : Tn × Int) : Int := if isN (od (sat2 p.1.1 k)) = true then 0 else if (!decide (sat2 p.1.1 k = some p.1.2)) = true then 1 else 0
def hI (k : Nat) (p : Tn × Int) : Int := if isN (od (sat2 p.1.1 k)) = true then 0 else if (!decide (p.2 = p.1.2)) = true then 1 else 0
theorem key17 {t b so x mm : Int} (hx : 0 <= x /\ x <= 1) (hso : 0 <= so /\ so <= 1) (hm : 0 <= mm /\ mm <= 1) (b0 : 0 < b) : tA t b 1 (ab (mm - so)) (ab (x - so)) * (b ^ (if x = so then 0 else 1) * (b + t) ^ (if mm = so then 0 else 1)) = tS t b 1 (ab (mm - so)) * (t ^ (if x = so then 0 else 1) * (2 * b) ^ (if mm = so then 0 else 1)) := by
 have hl : ab (x - so) = if x = so then 0 else 1 := by unfold ab; split <;> split <;> omega
 have hd : ab (mm - so) = if mm = so then 0 else 1 := by unfold ab; split <;> split <;> omega
 rw [hl,hd]
 unfold tA tS
 by_cases h1 : x = so <;> by_cases h2 : mm = so <;> simp only [h1,h2,if_true,if_false,Int.pow_zero,Int.pow_succ,Int.mul_one,Int.one_mul,Int.sub_zero,Int.sub_self,Int.toNat_zero,Int.toNat_one]
 ·omega
 ·ac_rfl
 ·rw [show (1 : Int) + 1 = 2 by decide]; ac_rfl
 ·ac_rfl
theorem fin17 {m : Nat} {t b : Int} {k : Nat} (hf : Frac 1 t b) (hm : m <= 24) (hk : k < m) : ∀ (ts : List Tn) (ws : List Int) (u : Int) (i : Nat),PInv m ws u i -> (∀ tn ∈ ts,TnOk m 1 tn) ->
  ∃ (ws' : List Int) (u' : Int) (j c e : Nat),PInv m ws' u' j /\ sm (oI k) (ts.zip (saysW t b 1 ts ws)) = (c : Nat) /\ sm (hI k) (ts.zip (saysW t b 1 ts ws)) = (e : Nat) /\ c <= ts.length /\ e <= ts.length /\ ws'.getD k 0 * (b ^ c * (b + t) ^ e) * u = ws.getD k 0 * (t ^ c * (2 * b) ^ e) * u'
 | [],ws,u,i,h,_ => ⟨ws,u,i,0,0,h,rfl,rfl,Nat.le_refl _,Nat.le_refl _,by rw [Int.pow_zero,Int.pow_zero,Int.pow_zero,Int.pow_zero]⟩
 | tn :: ts,ws,u,i,h,hts => by
  have hok := hts tn List.mem_cons_self
  obtain ⟨hN,_⟩ := h.next hf hm hok
  obtain ⟨ws',u',j,c,e,hI',hc,he,hcl,hel,heq⟩ := fin17 hf hm hk ts _ _ _ hN λ q hq => hts q (List.mem_cons_of_mem _ hq)
  have hsl : ws.length = tn.1.length := by rw [h.ln]; exact hok.1.symm
  have hw0 : Wok ws := λ w hw => (h.wo.w w hw).1
  have hkl : k < tn.1.length := by rw [hok.1]; exact hk
  have htp := tS_pos (dd := dW tn ws) hf
  have hwk : (wN t b 1 tn ws).getD k 0 = ws.getD k 0 * tF t b 1 (dW tn ws) tn.2 (sat2 tn.1 k) := nextW_at hsl hkl
  have huN : uN t b 1 tn ws u = u * tS t b 1 (dW tn ws) := rfl
  rw [hwk,huN] at heq
  have b0 : 0 < b := by have := hf.t0; have := hf.tb; omega
  have hs2 := Q3n (ws := ws) (hok.said hm) (by decide) hw0
  have hkey : ∃ cc ee : Nat,oI k (tn,midA tn.1 ws) = (cc : Nat) /\ hI k (tn,midA tn.1 ws) = (ee : Nat) /\ cc <= 1 /\ ee <= 1 /\ tF t b 1 (dW tn ws) tn.2 (sat2 tn.1 k) * (b ^ cc * (b + t) ^ ee) = tS t b 1 (dW tn ws) * (t ^ cc * (2 * b) ^ ee) := by
   unfold oI hI
   cases hx : sat2 tn.1 k with
   | none =>
    refine ⟨0,0,rfl,rfl,by decide,by decide,?_⟩
    rw [Int.pow_zero,Int.pow_zero,Int.pow_zero,Int.pow_zero]
    rfl
   | some x =>
    have hmem : sat2 tn.1 k ∈ tn.1 := by
     unfold sat2
     rw [List.getElem?_eq_getElem hkl]
     exact List.getElem_mem _
    rw [hx] at hmem
    have hon := onS_ok ((hok.2.1 _ hmem).resolve_left (λ z => by cases z))
    refine ⟨if x = tn.2 then 0 else 1,if midA tn.1 ws = tn.2 then 0 else 1,?_,?_,by split <;> decide,by split <;> decide,key17 hon hok.2.2 hs2 b0⟩
    ·show (if (!decide (some x = some tn.2)) = true then (1 : Int) else 0) = _
     by_cases e : x = tn.2
     ·rw [if_pos e,decide_eq_true (by rw [e])]; rfl
     ·rw [if_neg e,decide_eq_false (by intro z; exact e (Option.some.inj z))]; rfl
    ·show (if (!decide (midA tn.1 ws = tn.2)) = true then (1 : Int) else 0) = _
     by_cases e : midA tn.1 ws = tn.2
     ·rw [if_pos e,decide_eq_true e]; rfl
     ·rw [if_neg e,decide_eq_false e]; rfl
  obtain ⟨cc,ee,h1,h2,h3,h4,h5⟩ := hkey
  refine ⟨ws',u',j,cc + c,ee + e,hI',?_,?_,by rw [List.length_cons]; omega,by rw [List.length_cons]; omega,?_⟩
  ·show oI k (tn,midA tn.1 ws) + sm (oI k) (ts.zip (saysW t b 1 ts (wN t b 1 tn ws))) = _
   rw [h1,hc]; omega
  ·show hI k (tn,midA tn.1 ws) + sm (hI k) (ts.zip (saysW t b 1 ts (wN t b 1 tn ws))) = _
   rw [h2,he]; omega
  ·refine Int.eq_of_mul_eq_mul_right (Int.ne_of_gt htp) ?_
   rw [Int.pow_add,Int.pow_add,Int.pow_add,Int.pow_add]
   generalize tS t b 1 (dW tn ws) = S at *
   generalize tF t b 1 (dW tn ws) tn.2 (sat2 tn.1 k) = F at *
   generalize ws'.getD k 0 = W' at *
   generalize ws.getD k 0 = w at *
   generalize b ^ cc = x1 at *
   generalize (b + t) ^ ee = x2 at *
   generalize t ^ cc = y1 at *
   generalize (2 * b) ^ ee = y2 at *
   generalize b ^ c = z1 at *
   generalize (b + t) ^ e = z2 at *
   generalize t ^ c = v1 at *
   generalize (2 * b) ^ e = v2 at *
   have a1 : W' * (x1 * z1 * (x2 * z2)) * u * S = W' * (z1 * z2) * (u * S) * (x1 * x2) := by ac_rfl
   have a2 : w * F * (v1 * v2) * u' * (x1 * x2) = F * (x1 * x2) * (w * (v1 * v2) * u') := by ac_rfl
   have a3 : S * (y1 * y2) * (w * (v1 * v2) * u') = w * (y1 * v1 * (y2 * v2)) * u' * S := by ac_rfl
   rw [a1,heq,a2,h5,a3]
theorem bound17 {m : Nat} {t b : Int} {k : Nat} (hf : Frac 1 t b) (hm1 : 1 <= m) (hm : m <= 24) (hk : k < m) {ts : List Tn} (hts : ∀ tn ∈ ts,TnOk m 1 tn) :
  ∃ c e : Nat,sm (oI k) (ts.zip (saysW t b 1 ts (List.replicate m 1))) = (c : Nat) /\ sm (hI k) (ts.zip (saysW t b 1 ts (List.replicate m 1))) = (e : Nat) /\ c <= ts.length /\ e <= ts.length /\ le17 (m : Nat) t b c e := by
 have hws : (List.replicate m (1 : Int)).sum = (m : Nat) := by
  have := ones_sum (List.replicate m (0 : Int))
  rw [List.map_replicate,List.length_replicate] at this
  exact this
 have hI0 : PInv m (List.replicate m 1) 1 0 := ⟨wOk_ones m,List.length_replicate,by decide,by rw [hws]; omega⟩
 obtain ⟨ws',u',j,c,e,hI,hc,he,h1,h2,heq⟩ := fin17 hf hm hk ts _ _ _ hI0 hts
 refine ⟨c,e,hc,he,h1,h2,?_⟩
 have hwk : (List.replicate m (1 : Int)).getD k 0 = 1 := by rw [List.getD_eq_getElem?_getD,List.getElem?_replicate,if_pos hk]; rfl
 rw [hwk,Int.one_mul,Int.mul_one] at heq
 have hw0 : Wok ws' := λ w hw => (hI.wo.w w hw).1
 have hle := Int.le_trans (le_sum hw0 (show k < ws'.length by rw [hI.ln]; exact hk)) hI.sm
 have b0 : 0 < b := by have := hf.t0; have := hf.tb; omega
 have hB : 0 <= b ^ c * (b + t) ^ e := Int.mul_nonneg (Int.pow_nonneg (by omega)) (Int.pow_nonneg (by have := hf.t0; omega))
 have q := Int.mul_le_mul_of_nonneg_right hle hB
 rw [heq] at q
 unfold le17
 refine Int.le_of_mul_le_mul_right (a := u') ?_ hI.up
 have a1 : (m : Nat) * u' * (b ^ c * (b + t) ^ e) = (m : Nat) * (b + t) ^ e * b ^ c * u' := by
  generalize b ^ c = x
  generalize (b + t) ^ e = y
  generalize ((m : Nat) : Int) = z
  ac_rfl
 rw [a1] at q
 exact q
theorem le17_down {m t b : Int} {o e : Nat} (t0 : 0 <= t) (tb : t < b) (h : le17 m t b o (e + 1)) : le17 m t b o e := by
 unfold le17 at *
 refine Int.le_of_mul_le_mul_right (a := b + t) ?_ (by omega)
 have p : 0 <= t ^ o * (2 * b) ^ e := Int.mul_nonneg (Int.pow_nonneg t0) (Int.pow_nonneg (by omega))
 have q : t ^ o * (2 * b) ^ e * (b + t) <= t ^ o * (2 * b) ^ e * (2 * b) := Int.mul_le_mul_of_nonneg_left (by omega) p
 rw [Int.pow_succ,Int.pow_succ] at h
 have a1 : t ^ o * ((2 * b) ^ e * (2 * b)) = t ^ o * (2 * b) ^ e * (2 * b) := by rw [Int.mul_assoc]
 have a2 : m * ((b + t) ^ e * (b + t)) * b ^ o = m * (b + t) ^ e * b ^ o * (b + t) := by
  generalize (b + t) ^ e = x
  generalize b ^ o = y
  generalize b + t = z
  ac_rfl
 rw [a1,a2] at h
 exact Int.le_trans q h
theorem le17_upto {m t b : Int} {o : Nat} (t0 : 0 <= t) (tb : t < b) : ∀ {e d : Nat},le17 m t b o (e + d) -> le17 m t b o e
 | _,0,h => h
 | e,d + 1,h => le17_upto t0 tb (d := d) (le17_down t0 tb h)
def hv (n : Nat) : Nat := Nat.log2 n
theorem hv_step : ∀ n,n < 25 -> 1 < n -> hv n = hv (n / 2) + 1 := by decide +kernel
def spHalv : List D -> D -> Prop := λ ds d => ∃ m : Nat,ds = [.int (m : Nat)] /\ (1 <= m /\ m <= 24) /\ d = .int (hv m : Nat)
def evH (m : Nat) (v : Hv) (ts : List Tn) (i : Nat) : Hv := (ts.take i).foldl (λ y t => Q1Z t.1 t.2 y) (Q1p m v)
theorem evH_succ {m : Nat} {v : Hv} {ts : List Tn} {i : Nat} {t : Tn} (h : ts[i]? = some t) : evH m v ts (i + 1) = Q1Z t.1 t.2 (evH m v ts i) := by
 unfold evH
 rw [List.take_add_one,h,List.foldl_append]
 rfl
theorem ev_plain (m : Nat) (v : Hv) (ts : List Tn) (i : Nat) : evX m (.p v) ts i = .p (evH m v ts i) := by
 have : ∀ (l : List Tn) (y : Hv),l.foldl (λ y t => hearX m t.1 t.2 y) (.p y) = .p (l.foldl (λ y t => Q1Z t.1 t.2 y) y) := λ l => by
  induction l with
  | nil => intro y; rfl
  | cons t l ih => intro y; exact ih _
 exact this _ _
def sayK (m : Nat) (v : Hv) (ts : List Tn) (k : Nat) : Int := sayH m (tnX ts k).1 (evH m v ts k)
theorem says_plain (m : Nat) (v : Hv) (ts : List Tn) (k : Nat) : Q2z m (.p v) ts k = sayK m v ts k := by
 unfold Q2z sayK
 rw [ev_plain]
 rfl
def tbT (m : Nat) (hs : List Hv) (ts : List Tn) : List Tn := (List.range ts.length).map λ k => (asS (hs.map λ v => sayK m v ts k),(tnX ts k).2)
theorem tb_len (m : Nat) (hs : List Hv) (ts : List Tn) : (tbT m hs ts).length = ts.length := by unfold tbT; rw [List.length_map,List.length_range]
theorem tb_at {m : Nat} {hs : List Hv} {ts : List Tn} {k : Nat} (h : k < ts.length) : (tbT m hs ts)[k]? = some (asS (hs.map λ v => sayK m v ts k),(tnX ts k).2) := by unfold tbT; rw [List.getElem?_map,List.getElem?_range h]; rfl
def Q3l (m : Nat) (v : Hv) (ts : List Tn) (i : Nat) : Int := ((List.range i).map λ k => ab (sayK m v ts k - (tnX ts k).2)).sum
theorem paid_succ (m : Nat) (v : Hv) (ts : List Tn) (i : Nat) : Q3l m v ts (i + 1) = Q3l m v ts i + ab (sayK m v ts i - (tnX ts i).2) := by
 unfold Q3l
 rw [List.range_succ,List.map_append,List.sum_append]
 show _ + (_ + 0) = _
 rw [Int.add_zero]
theorem ev_tier {m : Nat} {hs : List Hv} {hd : Hv} {ch : List Int} {ts : List Tn} : ∀ i,i <= ts.length -> evX m (.t hs hd ch) ts i = .t (hs.map λ v => evH m v ts i) (evH hs.length hd (tbT m hs ts) i) (hs.map λ v => Q3l m v ts i)
 | 0,_ => by
  show Hx.t (hs.map (Q1p m)) (Q1p hs.length hd) (List.replicate hs.length 0) = Hx.t (hs.map (Q1p m)) (Q1p hs.length hd) (hs.map λ _ => (0 : Int))
  rw [List.map_const']
 | i + 1,h => by
  have hq : ts[i]? = some ts[i] := List.getElem?_eq_getElem (by omega)
  have et := tnX_at hq
  rw [Q4n hq,ev_tier i (by omega)]
  show Hx.t ((hs.map λ v => evH m v ts i).map (Q1Z ts[i].1 ts[i].2)) (Q1Z (asS (askT m ts[i].1 (hs.map λ v => evH m v ts i))) ts[i].2 (evH hs.length hd (tbT m hs ts) i)) (paidT m ts[i].1 ts[i].2 (hs.map λ v => evH m v ts i) (hs.map λ v => Q3l m v ts i)) = _
  have ea : askT m ts[i].1 (hs.map λ v => evH m v ts i) = hs.map λ v => sayK m v ts i := by
   unfold askT sayK
   rw [List.map_map,et]
   rfl
  have e1 : (hs.map λ v => evH m v ts i).map (Q1Z ts[i].1 ts[i].2) = hs.map λ v => evH m v ts (i + 1) := by
   rw [List.map_map]
   exact List.map_congr_left λ v _ => (evH_succ hq).symm
  have e2 : evH hs.length hd (tbT m hs ts) (i + 1) = Q1Z (asS (hs.map λ v => sayK m v ts i)) ts[i].2 (evH hs.length hd (tbT m hs ts) i) := by
   rw [evH_succ (tb_at (show i < ts.length by omega)),et]
  have e3 : paidT m ts[i].1 ts[i].2 (hs.map λ v => evH m v ts i) (hs.map λ v => Q3l m v ts i) = hs.map λ v => Q3l m v ts (i + 1) := by
   unfold paidT
   rw [ea,List.zip_map',List.map_map]
   refine List.map_congr_left λ v _ => ?_
   rw [paid_succ,et]
   rfl
  rw [e1,e3,ea,e2]
theorem says_tier {m : Nat} {hs : List Hv} {hd : Hv} {ch : List Int} {ts : List Tn} {k : Nat} (h : k < ts.length) : Q2z m (.t hs hd ch) ts k = sayK hs.length hd (tbT m hs ts) k := by
 unfold Q2z
 rw [ev_tier k (by omega)]
 show sayH (hs.map λ v => evH m v ts k).length (asS (askT m (tnX ts k).1 (hs.map λ v => evH m v ts k))) (evH hs.length hd (tbT m hs ts) k) = _
 unfold sayK
 rw [List.length_map,tnX_at (tb_at h)]
 unfold askT sayK
 rw [List.map_map]
 rfl
theorem says_w {p : SP} {n : Nat} : ∀ (ts : List Tn) (ws : List Int) (u : Int),(List.range ts.length).map (λ k => sayH n (tnX ts k).1 ((ts.take k).foldl (λ y t => Q1Z t.1 t.2 y) (.v false p ws u))) = saysW p.t p.b p.sc ts ws
 | [],_,_ => rfl
 | t :: ts,ws,u => by
  rw [List.length_cons,List.range_succ_eq_map,List.map_cons,List.map_map]
  show midA t.1 ws :: _ = midA t.1 ws :: saysW p.t p.b p.sc ts (wN p.t p.b p.sc t ws)
  congr 1
  exact says_w ts (wN p.t p.b p.sc t ws) (u * tS p.t p.b p.sc (ab (midA t.1 ws - t.2)))
theorem says_W {p : SP} {n : Nat} (ts : List Tn) (ws : List Int) (u : Int) : (List.range ts.length).map (sayK n (.v false p ws u) ts) = saysW p.t p.b p.sc ts (List.replicate n 1) := says_w ts (List.replicate n 1) 1
def ne1 (a b : Int) : Int := if (!decide (a = b)) = true then 1 else 0
theorem cntF_len {α : Type} (l : List α) (f g : α -> Int) : (((l.filterMap λ q => if (!decide (f q = g q)) = true then some (D.int 1) else none).length : Nat) : Int) = (l.map λ q => ne1 (f q) (g q)).sum := by
 induction l with
 | nil => rfl
 | cons a l ih =>
  rw [List.map_cons,List.sum_cons,<- ih]
  by_cases h : (!decide (f a = g a)) = true
  ·rw [List.filterMap_cons_some (f := λ q => if (!decide (f q = g q)) = true then some (D.int 1) else none) (a := a) (b := D.int 1) (if_pos h),List.length_cons]
   unfold ne1
   rw [if_pos h]; omega
  ·rw [List.filterMap_cons_none (f := λ q => if (!decide (f q = g q)) = true then some (D.int 1) else none) (a := a) (if_neg h)]
   unfold ne1
   rw [if_neg h]; omega
theorem zip_idx {α : Type} {β : Type} {l : List Tn} {f : Nat -> Int} : ((List.range l.length).map f).zip l = (List.range l.length).map λ k => (f k,tnX l k) := by
 have e : l = (List.range l.length).map (tnX l) := (range_getD l ([],0)).symm
 have h : ((List.range l.length).map f).zip ((List.range l.length).map (tnX l)) = (List.range l.length).map λ k => (f k,tnX l k) := List.zip_map' ..
 rw [<- e] at h
 exact h
def Q2H (f : Nat -> Int) (ts : List Tn) : Int := ((List.range ts.length).map λ k => ne1 (f k) (tnX ts k).2).sum
theorem cnt_zip (f : Nat -> Int) (ts : List Tn) : ((((((List.range ts.length).map f).zip ts).filterMap λ q : Int × Tn => if (!decide (q.1 = q.2.2)) = true then some (D.int 1) else none).length : Nat) : Int) = Q2H f ts := by
 rw [cntF_len (f := λ q : Int × Tn => q.1) (g := λ q : Int × Tn => q.2.2),zip_idx (α := Int) (β := Int),List.map_map]
 rfl
theorem paid_wrong {n m : Nat} {v : Hv} {ts : List Tn} (h : HvOk n m 1 v) (hm : m <= 24) (ht : ∀ t ∈ ts,TnOk m 1 t) : Q3l m v ts ts.length = Q2H (sayK m v ts) ts := by
 unfold Q3l Q2H
 congr 1
 refine List.map_congr_left λ k hk => ?_
 have hk := List.mem_range.mp hk
 have hq : ts[k]? = some ts[k] := List.getElem?_eq_getElem hk
 have hok := ht _ (List.getElem_mem hk)
 have hv : HvOk k m 1 (evH m v ts k) := by
  have := evX_ok (x := .p v) h hm ht k (by omega)
  rw [ev_plain] at this
  exact this
 have hs := sayH_on hv (hok.said hm) (by decide)
 have e : sayK m v ts k = sayH m ts[k].1 (evH m v ts k) := by unfold sayK; rw [tnX_at hq]
 rw [e,tnX_at hq]
 have hso := hok.2.2
 unfold ne1 ab
 by_cases h1 : sayH m ts[k].1 (evH m v ts k) = ts[k].2
 ·rw [decide_eq_true h1,h1]
  simp
 ·rw [decide_eq_false h1]
  split <;> simp <;> omega
theorem head_bound {n m : Nat} {p : SP} {ws : List Int} {u : Int} {hs : List Hv} {ts : List Tn} {i : Nat} {v : Hv} (hf : Frac 1 p.t p.b) (hsc : p.sc = 1) (h : ∀ v ∈ hs,HvOk n m 1 v) (h1 : 1 <= hs.length) (h2 : hs.length <= 24) (hm : m <= 24) (ht : ∀ t ∈ ts,TnOk m 1 t) (hv : hs[i]? = some v) :
  ∃ c e : Nat,Q2H (sayK m v ts) ts = (c : Nat) /\ Q2H (sayK hs.length (.v false p ws u) (tbT m hs ts)) ts = (e : Nat) /\ c <= ts.length /\ e <= ts.length /\ le17 (hs.length : Nat) p.t p.b c e := by
 have hi := (List.getElem?_eq_some_iff.mp hv).1
 have hto : ∀ k < ts.length,TnOk hs.length 1 (asS (hs.map λ v => sayK m v ts k),(tnX ts k).2) := λ k hk => by
  have hq : ts[k]? = some ts[k] := List.getElem?_eq_getElem hk
  have hok := ht _ (List.getElem_mem hk)
  have hsd : Q0N ((hs.length : Nat) : Int) 1 (asS (hs.map λ v => sayK m v ts k)) := by
   have := ask_ok (n := k) (m := m) (s := 1) (said := ts[k].1) (hs := hs.map λ v => evH m v ts k) (λ w hw => by
    obtain ⟨x,hx,rfl⟩ := List.mem_map.mp hw
    have := evX_ok (x := .p x) (h x hx) hm ht k (by omega)
    rw [ev_plain] at this
    exact this) (by rw [List.length_map]; exact h2) (hok.said hm) (by decide)
   rw [List.length_map] at this
   unfold askT at this
   rw [List.map_map] at this
   unfold sayK
   rw [tnX_at hq]
   exact this
  refine ⟨by have := hsd.1; show (asS _).length = _; omega,hsd.2.2,?_⟩
  rw [tnX_at hq]; exact hok.2.2
 have htb : ∀ tn ∈ tbT m hs ts,TnOk hs.length 1 tn := λ tn htn => by
  obtain ⟨k,hk,rfl⟩ := List.mem_map.mp htn
  exact hto k (List.mem_range.mp hk)
 obtain ⟨c,e,hc,he,hcl,hel,hle⟩ := bound17 (k := i) hf h1 h2 hi htb
 rw [tb_len] at hcl hel
 have hz : (tbT m hs ts).zip (saysW p.t p.b 1 (tbT m hs ts) (List.replicate hs.length 1)) = (List.range ts.length).map λ k => ((asS (hs.map λ v => sayK m v ts k),(tnX ts k).2),sayK hs.length (.v false p ws u) (tbT m hs ts) k) := by
  have e := says_W (p := p) (n := hs.length) (tbT m hs ts) ws u
  rw [hsc,tb_len] at e
  rw [<- e]
  exact List.zip_map' ..
 have hsat : ∀ k,sat2 (asS (hs.map λ v => sayK m v ts k)) i = some (sayK m v ts k) := λ k => by
  unfold sat2 asS
  rw [List.getElem?_map,List.getElem?_map,hv]; rfl
 rw [hz] at hc he
 refine ⟨c,e,?_,?_,hcl,hel,hle⟩
 ·rw [<- hc]
  unfold Q2H
  rw [<- Q4d]
  congr 1
  rw [List.map_map]
  refine List.map_congr_left λ k _ => ?_
  have ho : oI i ((asS (hs.map λ v => sayK m v ts k),(tnX ts k).2),sayK hs.length (.v false p ws u) (tbT m hs ts) k) = ne1 (sayK m v ts k) (tnX ts k).2 := by
   unfold oI
   show (if isN (od (sat2 (asS (hs.map λ v => sayK m v ts k)) i)) = true then (0 : Int) else if (!decide (sat2 (asS (hs.map λ v => sayK m v ts k)) i = some (tnX ts k).2)) = true then 1 else 0) = _
   rw [hsat,if_neg (show ¬ isN (od (some (sayK m v ts k))) = true from λ z => Bool.false_ne_true z)]
   unfold ne1
   by_cases h : sayK m v ts k = (tnX ts k).2
   ·rw [decide_eq_true h,decide_eq_true (congrArg some h)]
   ·rw [decide_eq_false h,decide_eq_false (λ z => h (Option.some.inj z))]
  exact ho.symm
 ·rw [<- he]
  unfold Q2H
  rw [<- Q4d]
  congr 1
  rw [List.map_map]
  refine List.map_congr_left λ k _ => ?_
  have ho : hI i ((asS (hs.map λ v => sayK m v ts k),(tnX ts k).2),sayK hs.length (.v false p ws u) (tbT m hs ts) k) = ne1 (sayK hs.length (.v false p ws u) (tbT m hs ts) k) (tnX ts k).2 := by
   unfold hI
   show (if isN (od (sat2 (asS (hs.map λ v => sayK m v ts k)) i)) = true then (0 : Int) else if (!decide (sayK hs.length (.v false p ws u) (tbT m hs ts) k = (tnX ts k).2)) = true then 1 else 0) = _
   rw [hsat,if_neg (show ¬ isN (od (some (sayK m v ts k))) = true from λ z => Bool.false_ne_true z)]
   rfl
  exact ho.symm
theorem hv_pow : ∀ m : Nat,m < 25 -> ∀ w : Nat,w < 25 -> 2 ^ w <= m -> w <= hv m := by decide +kernel
theorem zero_bound {n w : Nat} {b : Int} (hb : 1 <= b) (h1 : 1 <= n) (h2 : n <= 24) (hw : w <= 24) (h : le17 (n : Nat) 0 b 0 w) : w <= hv n := by
 unfold le17 at h
 rw [Int.pow_zero,Int.pow_zero,Int.mul_one,Int.one_mul,Int.add_zero,Int.mul_pow] at h
 have hp : 0 < b ^ w := Int.pow_pos (by omega)
 have h3 : (2 : Int) ^ w <= (n : Nat) := Int.le_of_mul_le_mul_right h hp
 refine hv_pow n (by omega) w (by omega) ?_
 have : ((2 ^ w : Nat) : Int) <= (n : Nat) := by rw [Int.natCast_pow]; exact h3
 omega
def fbF (c : Int) : Int := if c % 2 = 0 then 1 + c / 4 % 9 else 1 + c / 4 % 100
def ftF (c : Int) : Int := if c / 2 % 4 = 0 then c / 800 % fbF c else if c / 2 % 4 = 1 then 0 else if c / 2 % 4 = 2 then fbF c - 1 else fbF c / 2
theorem fbF_ok (c : Int) : 1 <= fbF c /\ fbF c <= 100 := by unfold fbF; split <;> omega
theorem ftF_ok (c : Int) : 0 <= ftF c /\ ftF c < fbF c := by
 have := fbF_ok c
 have h2 := Int.emod_nonneg (c / 800) (show fbF c ≠ 0 by omega)
 have h3 := Int.emod_lt_of_pos (c / 800) (show 0 < fbF c by omega)
 unfold ftF
 split
 ·omega
 ·split
  ·omega
  ·split <;> omega
def spFracP : List D -> D -> Prop := λ ds d => ∃ c : Int,ds = [.int c] /\ d = .tup [.int (ftF c),.int (fbF c)]
theorem frac_at (c : Int) : atI [D.tup [.int (c / 800 % fbF c),.int (fbF c)],.tup [.int 0,.int (fbF c)],.tup [.int (fbF c - 1),.int (fbF c)],.tup [.int (fbF c / 2),.int (fbF c)]] (c / 2 % 4) = some (.tup [.int (ftF c),.int (fbF c)]) := by
 unfold ftF
 have h : 0 <= c / 2 % 4 /\ c / 2 % 4 < 4 := by omega
 generalize c / 2 % 4 = i at h
 have : i = 0 \/ i = 1 \/ i = 2 \/ i = 3 := by omega
 rcases this with rfl | rfl | rfl | rfl <;> rfl
theorem hv_one' : ∀ n,n < 25 -> ¬ 1 < n -> hv n = 0 := by decide +kernel
def muH3 : Rho -> Sto -> Nat := λ ρ _ => match ρ with
 | [_,_,some (.int m)] => m.toNat
 | _ => 0
def spHandP1 (C : Cs) : SpD := λ ds O R => ∃ (m : Nat) (s x : Int),ds = [.int (m : Nat),.int s,.int x] /\ (1 <= m /\ m <= 24) /\ (1 <= s /\ s <= 10) /\ ∀ v,HvOk 0 m s v -> R (.ptr O.length) (O ++ [some (C.o (m : Nat) s v)])
def PvA0 (C : Cs) (O : Sto) (m : Nat) (s : Int) (pv : List (Nat × Hv)) : Prop := ∀ x ∈ pv,O[x.1]? = some (some (C.o (m : Nat) s x.2)) /\ HvOk 0 m s x.2
def spHandsP (C : Cs) : SpD := λ ds O R => ∃ (m : Nat) (s x : Int),ds = [.int (m : Nat),.int s,.int x] /\ Lo x /\ (1 <= m /\ m <= 24) /\ (1 <= s /\ s <= 10) /\ ∀ (O' : Sto) (pv : List (Nat × Hv)),(∃ Y,O' = O ++ Y) -> PvA0 C O' m s pv -> (1 <= pv.length /\ pv.length <= 5) -> R (.tup (pv.map λ z => .ptr z.1)) O'
theorem PvA0.app {C : Cs} {O Y : Sto} {m : Nat} {s : Int} {pv : List (Nat × Hv)} (h : PvA0 C O m s pv) : PvA0 C (O ++ Y) m s pv := λ x hx => ⟨Q3M (h x hx).1,(h x hx).2⟩
theorem up_app {O O' Z : Sto} (h : ∃ Y,O' = O ++ Y) : ∃ Y,O' ++ Z = O ++ Y := by
 obtain ⟨Y,rfl⟩ := h
 exact ⟨_,List.append_assoc ..⟩
theorem size4 (x : Int) : ∃ n : Nat,atI [D.int 1,.int 2,.int 3,.int 5] (x % 4) = some (.int (n : Nat)) /\ 1 <= n /\ n <= 5 := by
 have h : x % 4 = 0 \/ x % 4 = 1 \/ x % 4 = 2 \/ x % 4 = 3 := by omega
 rcases h with h | h | h | h <;> rw [h]
 ·exact ⟨1,rfl,by decide,by decide⟩
 ·exact ⟨2,rfl,by decide,by decide⟩
 ·exact ⟨3,rfl,by decide,by decide⟩
 ·exact ⟨5,rfl,by decide,by decide⟩
def spBd : List D -> D -> Prop := λ ds d => ∃ (m t b : Int) (c e : Nat),ds = [.int m,.int t,.int b,.int (c : Nat),.int (e : Nat)] /\ Ok17 m t b c /\ e <= 60000 /\ d = .bl (decide (le17 m t b c e))
theorem endR_le24 (ns : List Int) (st : Int) (m : Nat) : endR ns st m <= st + 24 := by
 unfold endR mostR
 split <;> split <;> split <;> omega
theorem turnsR_len24 (ns : List Int) (st : Int) (m : Nat) (s : Int) (sl : Bool) : (turnsR ns st m s sl).length <= 24 := by
 unfold turnsR
 rw [List.length_map,List.length_range]
 have := endR_le24 ns st m
 omega
theorem Q4H (m : Nat) (v : Hv) : Q1p m (Q1p m v) = Q1p m v := by cases v <;> rfl
theorem anewX_idem (m : Nat) (x : Hx) : Q4Y m (Q4Y m x) = Q4Y m x := by
 cases x with
 | p v => exact congrArg Hx.p (Q4H m v)
 | t hs hd ch =>
  show Hx.t ((hs.map (Q1p m)).map (Q1p m)) (Q1p (hs.map (Q1p m)).length (Q1p hs.length hd)) (List.replicate (hs.map (Q1p m)).length 0) = Hx.t (hs.map (Q1p m)) (Q1p hs.length hd) (List.replicate hs.length 0)
  have e : (hs.map (Q1p m)).map (Q1p m) = hs.map (Q1p m) := by rw [List.map_map]; exact List.map_congr_left λ v _ => Q4H m v
  rw [e,List.length_map,Q4H]
theorem evX_anew (m : Nat) (x : Hx) (ts : List Tn) (i : Nat) : evX m (Q4Y m x) ts i = evX m x ts i := by unfold evX; rw [anewX_idem]
theorem saysX_anew (m : Nat) (x : Hx) (ts : List Tn) (k : Nat) : Q2z m (Q4Y m x) ts k = Q2z m x ts k := by unfold Q2z; rw [evX_anew]
theorem BlX.refl (q k : Nat) (O : Sto) : BlX q k O O := ⟨rfl,λ _ _ => rfl⟩
theorem BlX.trans {q k : Nat} {O O1 O2 : Sto} (h : BlX q k O O1) (g : BlX q k O1 O2) : BlX q k O O2 := ⟨g.l.trans h.l,λ j hj => (g.o j hj).trans (h.o j hj)⟩
theorem wrong_congr {f g : Nat -> Int} {ts : List Tn} (h : ∀ k,k < ts.length -> f k = g k) : Q2H f ts = Q2H g ts := by
 unfold Q2H
 congr 1
 exact List.map_congr_left λ k hk => by rw [h k (List.mem_range.mp hk)]
theorem pv_in {C : Cs} {O : Sto} {m : Nat} {s : Int} {pv : List (Nat × Hv)} (h : PvA0 C O m s pv) : PvAt C O m s pv := λ x hx => ⟨(h x hx).1,0,(h x hx).2⟩
seal EvP Ev EvPs Ex Exs EvT EvI
section
variable {P : Program} {w : World} {K : PySem.W.Frag} {mg : Str -> Option Value} {base : Heap} {CK1 CK5 CK3 CK2 CK0 CK4 : Addr} {f : Addr} {fd : FuncData} (T : Txt K mg CK1 CK5 CK3 CK2 CK0 CK4)
include T
theorem ok_is_whole (Fn : Fun K "is_whole" "is_whole" Q2g f fd) (hm : mg "is_whole" = some (.ref f)) (hb : Q0C K fd ["value"] []) : Q0m P w K mg base 1 "is_whole" (Q0i Q4c) := by
 refine okD (k := 0) Fn sc_is_whole hm hb (λ ds O R h => ?_) (λ cdv A outer s H E ds O R hr h => ?_)
 ·obtain ⟨_,⟨_,rfl,_⟩,_⟩ := h; rfl
 ·obtain ⟨d,⟨w,rfl,rfl⟩,hR⟩ := h
  cases w with
  | none =>
   refine Q0c (Q0y (EvP.ev (Q3L (Q0v T.b_isinstance (Q0b (Q0a 0) (Q0b (Q2X T.b_int) Q0e)) (c_isi_int rfl)) (λ hbb => (Q3K (ev_not (Q0v T.b_isinstance (Q0b (Q0a 0) (Q0b (Q2X T.b_bool) Q0e)) (c_isi_bool rfl)))))) ?_))
   exact hR
  | some i =>
   refine Q0c (Q0y (EvP.ev (Q3L (Q0v T.b_isinstance (Q0b (Q0a 0) (Q0b (Q2X T.b_int) Q0e)) (c_isi_int rfl)) (λ hbb => (Q3K (ev_not (Q0v T.b_isinstance (Q0b (Q0a 0) (Q0b (Q2X T.b_bool) Q0e)) (c_isi_bool rfl)))))) ?_))
   exact hR
theorem ok_counted (Fn : Fun K "counted" "counted" Q2S f fd) (hm : mg "counted" = some (.ref f)) (hb : Q0C K fd ["weights"] []) : Q0m P w K mg base 1 "counted" (Q0i spCounted) := by
 refine okD (k := 0) Fn sc_counted hm hb (λ ds O R h => ?_) (λ cdv A outer s H E ds O R hr h => ?_)
 ·obtain ⟨_,⟨_,rfl,_⟩,_⟩ := h; rfl
 ·obtain ⟨d,⟨ws,rfl,hl,rfl⟩,hR⟩ := h
  refine Q0c (x_if (Q0A (Q0v T.b_sum (Q0b (Q0a 0) Q0e) (c_sum (by first | exact Or.inr rfl | exact Or.inl (Or.inl rfl) | exact Or.inl (Or.inr (Or.inl rfl)) | exact Or.inl (Or.inr (Or.inr ⟨_,rfl,by first | assumption | rfl⟩))))) Q0f Q0M) (λ hk => ?_) (λ hk => ?_))
  ·have hk := of_decide_eq_true hk
   refine Q0c (Q0y (EvP.ev (Q0Z (λ _ => .int 1) ["weight"] [] [] (Q3I (Q0a 0) (by first | exact Or.inl rfl | exact Or.inr (Or.inl rfl) | exact Or.inr (Or.inr rfl) | assumption)) (by rw [sizeLine_eq]; omega) (by exact λ q hq s H fp => ⟨[some _],rfl,(Q0t 0 (show List.Nodup (["weight"] : List Str) by decide +kernel)),⟨_,rfl,Q0f⟩⟩)) ?_))
   unfold cnt at hR
   rw [if_pos hk,List.map_map] at hR
   exact hR
  ·have hk := of_decide_eq_false hk
   refine Q0p ?_
   refine Q0c (Q0y (EvP.ev (Q0K T.b_list (Q0b (Q0a 0) Q0e) (c_list (by first | exact Or.inr rfl | exact Or.inl (Or.inl rfl) | exact Or.inl (Or.inr (Or.inl rfl)) | exact Or.inl (Or.inr (Or.inr ⟨_,rfl,by first | assumption | rfl⟩))))) ?_))
   unfold cnt at hR
   rw [if_neg hk] at hR
   exact hR
theorem ok_middle (Fn : Fun K "middle" "middle" Q3v f fd) (hm : mg "middle" = some (.ref f)) (hb : Q0C K fd ["numbers","weights"] []) (F_counted : Q0m P w K mg base 1 "counted" (Q0i spCounted)) : Q0m P w K mg base 2 "middle" (Q0i spMiddle) := by
 refine okD (k := 1) Fn Q2o hm hb (λ ds O R h => ?_) (λ cdv A outer s H E ds O R hr h => ?_)
 ·obtain ⟨_,⟨_,_,rfl,_⟩,_⟩ := h; rfl
 ·obtain ⟨d,⟨ns,ws,rfl,⟨h1,h2,h3⟩,rfl⟩,hR⟩ := h
  refine Q0c (Q0J 2 (EvP.ev (Q0g F_counted (hr.mono (by decide)) (Q0b (Q0a 1) Q0e) ⟨_,rfl,by assumption,rfl⟩) ?_) Q2o.nd)
  have hc := cnt_ok h3
  have hcl := cnt_len ws
  unfold mid at hR
  generalize cnt ws = cs at hR hc hcl
  refine Q0c (Q0J 3 (EvP.ev (Q0v T.b_sum (Q0b (Q0a 2) Q0e) (c_sum (by first | exact Or.inr rfl | exact Or.inl (Or.inl rfl) | exact Or.inl (Or.inr (Or.inl rfl)) | exact Or.inl (Or.inr (Or.inr ⟨_,rfl,by first | assumption | rfl⟩))))) ?_) Q2o.nd)
  refine Q0c (Q0J 4 (EvP.ev Q0f ?_) Q2o.nd)
  have hz : (ns.zip cs).length < 64 := by rw [List.length_zip]; omega
  have hsl : (srt ltP (ns.zip cs)).length <= 63 := by rw [(Q5e ltP (ns.zip cs)).length_eq]; omega
  have hsm : ∀ p ∈ srt ltP (ns.zip cs),0 <= p.2 := λ p hp => hc _ (List.of_mem_zip ((Q5e ltP (ns.zip cs)).mem_iff.mp hp)).2
  refine Q0c (Q4O (Q3I (ev_sortedZ ordP (λ Y => cmpP) nolen_zip (Q3o (Q0a 0) (Q0a 2) (by first | exact Or.inl rfl | exact Or.inr (Or.inl rfl) | exact Or.inr (Or.inr rfl) | assumption) (by first | exact Or.inl rfl | exact Or.inr (Or.inl rfl) | exact Or.inr (Or.inr rfl) | assumption) T.b_zip) (by omega) T.b_sorted) (by first | exact Or.inl rfl | exact Or.inr (Or.inl rfl) | exact Or.inr (Or.inr rfl) | assumption)) (λ i ρ O' => ∃ (r : Int) (u v : Option D),ρ = [some (.tup (ns.map D.int)),some (.tup (ws.map D.int)),some (.lst (cs.map D.int)),some (.int cs.sum),some (.int r),u,v] /\ r = sm (λ q => q.2) ((srt ltP (ns.zip cs)).take i) /\ go cs.sum 0 (srt ltP (ns.zip cs)) = go cs.sum r ((srt ltP (ns.zip cs)).drop i) /\ O' = O) ⟨0,_,_,rfl,rfl,rfl,rfl⟩ ?_ ?_)
  ·rintro i x ρ O' hx ⟨r,u,v,rfl,hr1,hg,rfl⟩
   rw [List.getElem?_map] at hx
   cases hp : (srt ltP (ns.zip cs))[i]? with
   | none => rw [hp] at hx; cases hx
   | some p =>
    rw [hp] at hx
    cases hx
    refine ⟨_,Q2I (Q0w (Q0t 5 Q2o.nd) (Q0w (Q0t 6 Q2o.nd) Q1S)),?_⟩
    refine Q0c (Q0J 4 (EvP.ev (Q0j (Q0a 4) (Q0a 6) Q1P) ?_) Q2o.nd)
    have h4 : r + p.2 = sm (λ q => q.2) ((srt ltP (ns.zip cs)).take (i + 1)) := by rw [sm_take hp,hr1]
    have hd : (srt ltP (ns.zip cs)).drop i = p :: (srt ltP (ns.zip cs)).drop (i + 1) := by
     obtain ⟨hi,e⟩ := List.getElem?_eq_some_iff.mp hp
     rw [List.drop_eq_getElem_cons hi,e]
    rw [hd] at hg
    refine Q0c (x_if (Q0A (Q0j Q0f (Q0a 4) (Q1O (CMul.ok (Or.inl ⟨by decide,by decide⟩)))) (Q0a 3) cmp_ge) (λ hk => ?_) (λ hk => ?_))
    ·have hk := of_decide_eq_true hk
     refine Q0c (Q0y (EvP.ev (Q0a 5) ?_))
     rw [hg] at hR
     unfold go at hR
     rw [if_pos hk] at hR
     exact hR
    ·have hk := of_decide_eq_false hk
     refine Q0p (Q0p ?_)
     refine ⟨_,_,_,rfl,h4,?_,rfl⟩
     rw [hg]
     conv => lhs; unfold go
     rw [if_neg hk]
  ·rintro ρ O' ⟨r,u,v,rfl,hr1,hg,rfl⟩
   refine Q0c (Q0y (EvP.ev Q0f ?_))
   rw [List.length_map,List.drop_of_length_le (Nat.le_refl _)] at hg
   rw [hg] at hR
   exact hR
theorem ok_check_within (Fn : Fun K "check_within" "check_within" Q1e f fd) (hm : mg "check_within" = some (.ref f)) (hb : Q0C K fd ["what","value","least","most"] []) (F_is_whole : Q0m P w K mg base 1 "is_whole" (Q0i Q4c)) : Q0m P w K mg base 2 "check_within" (Q0i Q2U) := by
 refine okD (k := 1) Fn sc_check_within hm hb (λ ds O R h => ?_) (λ cdv A outer s H E ds O R hr h => ?_)
 ·obtain ⟨_,⟨_,_,_,_,rfl,_⟩,_⟩ := h; rfl
 ·obtain ⟨d,⟨x,v,l,u,rfl,hv,rfl⟩,hR⟩ := h
  refine Q0c (x_if (EvW.t (ew_or (Q2u (Q3c (Q0g F_is_whole (hr.mono (by decide)) (Q0b (Q0a 1) Q0e) ⟨some v,rfl,rfl⟩))) (λ hbb => (Q4M (Q2u (et_chain (Q0a 2) (Q0a 1) (Q0a 3) cmp_le (λ hbb => cmp_le))))))) (λ hk => ?_) (λ hk => Q0p (Q0p hR)))
  exfalso
  have hk : (!true || !(decide (l <= v) && decide (v <= u))) = true := hk
  rw [decide_eq_true hv.1,decide_eq_true hv.2] at hk
  cases hk
theorem ok_check_scale (Fn : Fun K "check_scale" "check_scale" Q1y f fd) (hm : mg "check_scale" = some (.ref f)) (hb : Q0C K fd ["scale"] []) (F_check_within : Q0m P w K mg base 2 "check_within" (Q0i Q2U)) : Q0m P w K mg base 3 "check_scale" (Q0i spScale) := by
 refine okD (k := 2) Fn sc_check_scale hm hb (λ ds O R h => ?_) (λ cdv A outer s H E ds O R hr h => ?_)
 ·obtain ⟨_,⟨_,rfl,_⟩,_⟩ := h; rfl
 ·obtain ⟨d,⟨s,rfl,hs,rfl⟩,hR⟩ := h
  refine Q0c (Q0D (EvP.ev (Q0g F_check_within (hr.mono (by decide)) (Q0b ev_str (Q0b (Q0a 0) (Q0b Q0f (Q0b (ev_gint T.g_MOST_SCALE.choose_spec) Q0e)))) ⟨_,_,_,_,rfl,by omega,rfl⟩) ?_))
  exact Q0p hR
theorem ok_check_making (Fn : Fun K "check_making" "check_making" Q1f f fd) (hm : mg "check_making" = some (.ref f)) (hb : Q0C K fd ["many","scale"] []) (F_check_within : Q0m P w K mg base 2 "check_within" (Q0i Q2U)) (F_check_scale : Q0m P w K mg base 3 "check_scale" (Q0i spScale)) : Q0m P w K mg base 4 "check_making" (Q0i spMaking) := by
 refine okD (k := 3) Fn sc_check_making hm hb (λ ds O R h => ?_) (λ cdv A outer s H E ds O R hr h => ?_)
 ·obtain ⟨_,⟨_,_,rfl,_⟩,_⟩ := h; rfl
 ·obtain ⟨d,⟨m,s,rfl,hm,hs,rfl⟩,hR⟩ := h
  refine Q0c (Q0D (EvP.ev (Q0g F_check_within (hr.mono (by decide)) (Q0b ev_str (Q0b (Q0a 0) (Q0b Q0f (Q0b (ev_gint T.g_MOST_ADVISERS.choose_spec) Q0e)))) ⟨_,_,_,_,rfl,by omega,rfl⟩) ?_))
  refine Q0c (Q0D (EvP.ev (Q0g F_check_scale (hr.mono (by decide)) (Q0b (Q0a 1) Q0e) ⟨_,rfl,by assumption,rfl⟩) ?_))
  exact Q0p hR
theorem Q4D (Fn : Fun K "check_fraction" "check_fraction" Q0O f fd) (hm : mg "check_fraction" = some (.ref f)) (hb : Q0C K fd ["top","bottom"] []) (F_check_within : Q0m P w K mg base 2 "check_within" (Q0i Q2U)) : Q0m P w K mg base 3 "check_fraction" (Q0i Q4v) := by
 refine okD (k := 2) Fn Q4w hm hb (λ ds O R h => ?_) (λ cdv A outer s H E ds O R hr h => ?_)
 ·obtain ⟨_,⟨_,_,rfl,_⟩,_⟩ := h; rfl
 ·obtain ⟨d,⟨t,b,rfl,hb,rfl⟩,hR⟩ := h
  refine Q0c (Q0D (EvP.ev (Q0g F_check_within (hr.mono (by decide)) (Q0b ev_str (Q0b (Q0a 1) (Q0b Q0f (Q0b (ev_gint T.g_MOST_BOTTOM.choose_spec) Q0e)))) ⟨_,_,_,_,rfl,by omega,rfl⟩) ?_))
  refine Q0c (Q0D (EvP.ev (Q0g F_check_within (hr.mono (by decide)) (Q0b ev_str (Q0b (Q0a 0) (Q0b Q0f (Q0b (Q0j (Q0a 1) Q0f o_sub) Q0e)))) ⟨_,_,_,_,rfl,by omega,rfl⟩) ?_))
  exact Q0p hR
theorem ok_check_share (Fn : Fun K "check_share" "check_share" Q1x f fd) (hm : mg "check_share" = some (.ref f)) (hb : Q0C K fd ["share","parts"] []) (F_check_within : Q0m P w K mg base 2 "check_within" (Q0i Q2U)) : Q0m P w K mg base 3 "check_share" (Q0i spShare) := by
 refine okD (k := 2) Fn sc_check_share hm hb (λ ds O R h => ?_) (λ cdv A outer s H E ds O R hr h => ?_)
 ·obtain ⟨_,⟨_,_,rfl,_⟩,_⟩ := h; rfl
 ·obtain ⟨d,⟨t,b,rfl,hb,rfl⟩,hR⟩ := h
  refine Q0c (Q0D (EvP.ev (Q0g F_check_within (hr.mono (by decide)) (Q0b ev_str (Q0b (Q0a 1) (Q0b Q0f (Q0b (ev_gint T.g_MOST_PARTS.choose_spec) Q0e)))) ⟨_,_,_,_,rfl,by omega,rfl⟩) ?_))
  refine Q0c (Q0D (EvP.ev (Q0g F_check_within (hr.mono (by decide)) (Q0b ev_str (Q0b (Q0a 0) (Q0b Q0f (Q0b (Q0j (Q0a 1) Q0f o_sub) Q0e)))) ⟨_,_,_,_,rfl,by omega,rfl⟩) ?_))
  exact Q0p hR
theorem ok_is_on_scale (Fn : Fun K "is_on_scale" "is_on_scale" Q1u f fd) (hm : mg "is_on_scale" = some (.ref f)) (hb : Q0C K fd ["scale","value"] []) (F_is_whole : Q0m P w K mg base 1 "is_whole" (Q0i Q4c)) : Q0m P w K mg base 2 "is_on_scale" (Q0i spOnS) := by
 refine okD (k := 1) Fn sc_is_on_scale hm hb (λ ds O R h => ?_) (λ cdv A outer s H E ds O R hr h => ?_)
 ·obtain ⟨_,⟨_,_,rfl,_⟩,_⟩ := h; rfl
 ·obtain ⟨d,⟨s,w,rfl,rfl⟩,hR⟩ := h
  cases w with
  | none =>
   refine Q0c (Q0y (EvP.ev (Q3L (l := false) (Q0g F_is_whole (hr.mono (by decide)) (Q0b (Q0a 1) Q0e) ⟨none,rfl,rfl⟩) (λ hbb => absurd hbb Bool.false_ne_true)) ?_))
   exact hR
  | some i =>
   refine Q0c (Q0y (EvP.ev (Q3L (Q0g F_is_whole (hr.mono (by decide)) (Q0b (Q0a 1) Q0e) ⟨some i,rfl,rfl⟩) (λ hbb => (Q3K (ev_chain Q0f (Q0a 1) (Q0a 0) cmp_le (λ hbb => cmp_le))))) ?_))
   exact hR
theorem ok_is_said (Fn : Fun K "is_said" "is_said" Q2Q f fd) (hm : mg "is_said" = some (.ref f)) (hb : Q0C K fd ["many","scale","said"] []) (F_is_on_scale : Q0m P w K mg base 2 "is_on_scale" (Q0i spOnS)) : Q0m P w K mg base 3 "is_said" (Q0i Q5g) := by
 refine okD (k := 2) Fn sc_is_said hm hb (λ ds O R h => ?_) (λ cdv A outer s H E ds O R hr h => ?_)
 ·obtain ⟨_,⟨_,_,_,rfl,_⟩,_⟩ := h; rfl
 ·obtain ⟨d,⟨m,s,said,rfl,⟨h1,h2,h3⟩,rfl⟩,hR⟩ := h
  refine Q0c (x_if (EvW.t (ew_or (Q2u (Q3c (Q0v T.b_isinstance (Q0b (Q0a 2) (Q0b (Q2X T.b_tuple) Q0e)) (Q2v rfl)))) (λ hbb => (Q4M (Q0A (Q0v T.b_len (Q0b (Q0a 2) Q0e) (Q3q (by first | exact Or.inr rfl | exact Or.inl (Or.inl rfl) | exact Or.inl (Or.inr (Or.inl rfl)) | exact Or.inl (Or.inr (Or.inr ⟨_,rfl,by first | assumption | rfl⟩))))) (Q0a 0) Q3X))))) (λ hk => ?_) (λ hk => Q0p ?_))
  ·exfalso
   have e : (!decide ((((said.map od).length : Nat) : Int) = m)) = false := by rw [List.length_map,h1,decide_eq_true rfl]; rfl
   have hk : (!true || !decide ((((said.map od).length : Nat) : Int) = m)) = true := hk
   rw [e] at hk
   cases hk
  refine Q0c (Q0y (EvP.ev (Q0v T.b_all (Q0b (Q0Z (λ w => .bl (isN (od w) || onS s w)) ["what"] ["scale"] [1] (Q3I (Q0a 2) (by first | exact Or.inl rfl | exact Or.inr (Or.inl rfl) | exact Or.inr (Or.inr rfl) | assumption)) (by rw [sizeLine_eq]; omega) (by exact λ q hq s H fp => ⟨[some _],rfl,(Q0t 0 (show List.Nodup (["what","scale"] : List Str) by decide +kernel)),⟨_,rfl,(ev_or (Q3a (Q0a 0) Q2Z Q4o) (λ hbb => (Q3K (Q0g F_is_on_scale (hr.mono (by decide)) (Q0b (Q0a 1) (Q0b (Q0a 0) Q0e)) ⟨_,q,rfl,rfl⟩))))⟩⟩)) Q0e) (c_all (bs := said.map λ w => (isN (od w) || onS s w)) (Or.inl (Or.inl (congrArg D.lst (by rw [List.map_map]; rfl)))))) ?_))
  have e : ((said.map λ w => (isN (od w) || onS s w)).all id) = true := by
   rw [List.all_map,List.all_eq_true]
   intro w hw
   rcases h3 w hw with rfl | h
   ·rfl
   ·show (isN (od w) || onS s w) = true
    rw [h,Bool.or_true]
  rw [e]
  exact hR
theorem ok_check_said (Fn : Fun K "check_said" "check_said" Q1L f fd) (hm : mg "check_said" = some (.ref f)) (hb : Q0C K fd ["many","scale","said"] []) (F_is_said : Q0m P w K mg base 3 "is_said" (Q0i Q5g)) : Q0m P w K mg base 4 "check_said" (Q0i Q2n) := by
 refine okD (k := 3) Fn sc_check_said hm hb (λ ds O R h => ?_) (λ cdv A outer s H E ds O R hr h => ?_)
 ·obtain ⟨_,⟨_,_,_,rfl,_⟩,_⟩ := h; rfl
 ·obtain ⟨d,⟨m,s,said,rfl,hs,rfl⟩,hR⟩ := h
  exact Q0c (x_if (Q2u (Q3c (Q0g F_is_said (hr.mono (by decide)) (Q0b (Q0a 0) (Q0b (Q0a 1) (Q0b (Q0a 2) Q0e))) ⟨_,_,_,rfl,by assumption,rfl⟩))) (λ hk => by cases hk) (λ hk => Q0p (Q0p hR)))
theorem ok_power (Fn : Fun K "power" "power" Q4A f fd) (hm : mg "power" = some (.ref f)) (hb : Q0C K fd ["base","exponent"] []) : Q0m P w K mg base 1 "power" (Q0i spPow) := by
 refine okD (k := 0) Fn Q5h hm hb (λ ds O R h => ?_) (λ cdv A outer s H E ds O R hr h => ?_)
 ·obtain ⟨_,⟨_,_,rfl,_⟩,_⟩ := h; rfl
 ·obtain ⟨d,⟨b,n,rfl,hb,hn,rfl⟩,hR⟩ := h
  refine Q0c (Q0J 2 (EvP.ev Q0f ?_) Q5h.nd)
  refine Q0c (Q4O (Q3p (Q0a 1) T.b_range (by first | decide | omega) (by first | decide | omega)) (λ i ρ O' => ∃ u,ρ = [some (.int b),some (.int n),some (.int (b ^ i)),u] /\ O' = O) ⟨none,by rw [Int.pow_zero]; rfl,rfl⟩ ?_ ?_)
  ·rintro i x ρ O' hx ⟨u,rfl,rfl⟩
   refine ⟨_,Q0t 3 Q5h.nd,?_⟩
   refine Q0c (Q0J 2 (EvP.ev (Q0j (Q0a 2) (Q0a 0) (Q1O (by first | assumption | exact CMul.ok (Or.inl ⟨by omega,by omega⟩) | exact CMul.ok (Or.inr ⟨by omega,by omega⟩)))) ?_) Q5h.nd)
   exact Q0p ⟨_,by rw [Int.pow_succ]; rfl,rfl⟩
  ·rintro ρ O' ⟨u,rfl,rfl⟩
   rw [Q1A]
   exact Q0c (Q0y (EvP.ev (Q0a 2) hR))
theorem ok_charge (Fn : Fun K "charge" "charge" Q3B f fd) (hm : mg "charge" = some (.ref f)) (hb : Q0C K fd ["what","so"] []) : Q0m P w K mg base 1 "charge" (Q0i Q2V) := by
 refine okD (k := 0) Fn sc_charge hm hb (λ ds O R h => ?_) (λ cdv A outer s H E ds O R hr h => ?_)
 ·obtain ⟨_,⟨_,_,rfl,_⟩,_⟩ := h; rfl
 ·obtain ⟨d,⟨w,z,rfl,rfl⟩,hR⟩ := h
  cases w with
  | none =>
   refine Q0c (x_if (Q0A (Q0a 0) Q2Z Q4o) (λ hk => ?_) (λ hk => ?_))
   ·exact Q0c (Q0y (EvP.ev Q0f hR))
   ·cases hk
  | some w =>
   refine Q0c (x_if (Q0A (Q0a 0) Q2Z Q4o) (λ hk => ?_) (λ hk => ?_))
   ·cases hk
   ·exact Q0p (Q0c (Q0y (EvP.ev (Q0v T.b_abs (Q0b (Q0j (Q0a 0) (Q0a 1) o_sub) Q0e) c_abs) hR)))
theorem ok_is_turn (Fn : Fun K "is_turn" "is_turn" Q2P f fd) (hm : mg "is_turn" = some (.ref f)) (hb : Q0C K fd ["many","scale","turn"] []) (F_is_said : Q0m P w K mg base 3 "is_said" (Q0i Q5g)) (F_is_on_scale : Q0m P w K mg base 2 "is_on_scale" (Q0i spOnS)) : Q0m P w K mg base 4 "is_turn" (Q0i Q5f) := by
 refine okD (k := 3) Fn sc_is_turn hm hb (λ ds O R h => ?_) (λ cdv A outer s H E ds O R hr h => ?_)
 ·obtain ⟨_,⟨_,_,_,_,rfl,_⟩,_⟩ := h; rfl
 ·obtain ⟨d,⟨m,s,said,so,rfl,hs,hso,rfl⟩,hR⟩ := h
  refine Q0c (x_if (EvW.t (ew_or (Q2u (Q3c (Q0v T.b_isinstance (Q0b (Q0a 2) (Q0b (Q2X T.b_tuple) Q0e)) (Q2v rfl)))) (λ hbb => (Q4M (Q0A (Q0v T.b_len (Q0b (Q0a 2) Q0e) (Q3q (by first | exact Or.inr rfl | exact Or.inl (Or.inl rfl) | exact Or.inl (Or.inr (Or.inl rfl)) | exact Or.inl (Or.inr (Or.inr ⟨_,rfl,by first | assumption | rfl⟩))))) Q0f Q3X))))) (λ hk => by cases hk) (λ hk => Q0p ?_))
  have e : onS s (some so) = true := by
   show (decide (0 <= so) && decide (so <= s)) = true
   rw [decide_eq_true hso.1,decide_eq_true hso.2]; rfl
  refine Q0c (Q0y (EvP.ev (Q3L (Q0g F_is_said (hr.mono (by decide)) (Q0b (Q0a 0) (Q0b (Q0a 1) (Q0b (Q2E (Q0a 2) Q0f rfl) Q0e))) ⟨_,_,_,rfl,by assumption,rfl⟩) (λ hbb => (Q3K (Q0g F_is_on_scale (hr.mono (by decide)) (Q0b (Q0a 1) (Q0b (Q2E (Q0a 2) Q0f rfl) Q0e)) ⟨s,some so,rfl,rfl⟩)))) ?_))
  rw [e]
  exact hR
theorem ok_check_turn (Fn : Fun K "check_turn" "check_turn" Q1J f fd) (hm : mg "check_turn" = some (.ref f)) (hb : Q0C K fd ["many","scale","said","so"] []) (F_is_turn : Q0m P w K mg base 4 "is_turn" (Q0i Q5f)) : Q0m P w K mg base 5 "check_turn" (Q0i Q1r) := by
 refine okD (k := 4) Fn sc_check_turn hm hb (λ ds O R h => ?_) (λ cdv A outer s H E ds O R hr h => ?_)
 ·obtain ⟨_,⟨_,_,_,_,rfl,_⟩,_⟩ := h; rfl
 ·obtain ⟨d,⟨m,s,said,so,rfl,hs,hso,rfl⟩,hR⟩ := h
  exact Q0c (x_if (Q2u (Q3c (Q0g F_is_turn (hr.mono (by decide)) (Q0b (Q0a 0) (Q0b (Q0a 1) (Q0b (Q2D (Q0b (Q0a 2) (Q0b (Q0a 3) Q0e))) Q0e))) ⟨_,_,_,_,rfl,by assumption,by assumption,rfl⟩))) (λ hk => by cases hk) (λ hk => Q0p (Q0p hR)))
theorem ok_awake_in (Fn : Fun K "awake_in" "awake_in" Q2i f fd) (hm : mg "awake_in" = some (.ref f)) (hb : Q0C K fd ["said"] []) : Q0m P w K mg base 1 "awake_in" (Q0i spAwake) := by
 refine okD (k := 0) Fn sc_awake_in hm hb (λ ds O R h => ?_) (λ cdv A outer s H E ds O R hr h => ?_)
 ·obtain ⟨_,⟨_,rfl,_⟩,_⟩ := h; rfl
 ·obtain ⟨d,⟨said,rfl,hs,rfl⟩,hR⟩ := h
  refine Q0c (Q0y (EvP.ev (Q5m (λ q : Option Int × Nat => if (!isN (od q.1)) = true then some (D.int (q.2 : Nat)) else none) ["adviser","what"] [] [] (ei_Z (ez_enumM (Q0a 0) (by first | exact Or.inl rfl | exact Or.inr (Or.inl rfl) | exact Or.inr (Or.inr rfl) | assumption) T.b_enumerate)) (by rw [List.length_zipIdx,sizeLine_eq]; omega) (by exact λ q hq s H fp => ⟨[some _,some _],rfl,(Q2I (Q0w (Q0t 0 (show List.Nodup (["adviser","what"] : List Str) by decide +kernel)) (Q0w (Q0t 1 (show List.Nodup (["adviser","what"] : List Str) by decide +kernel)) Q1S))),⟨_,(Q0A (Q0a 1) Q2Z cmp_isnot),λ hbb => ⟨_,if_pos hbb,(Q0a 0)⟩,λ hbb => if_neg (λ hcc => Bool.false_ne_true (hbb.symm.trans hcc))⟩⟩)) ?_))
  rw [awake_eq]
  exact hR
theorem ok_middle_awake (Fn : Fun K "middle_awake" "middle_awake" Q1c f fd) (hm : mg "middle_awake" = some (.ref f)) (hb : Q0C K fd ["said","weights"] []) (F_middle : Q0m P w K mg base 2 "middle" (Q0i spMiddle)) (F_awake_in : Q0m P w K mg base 1 "awake_in" (Q0i spAwake)) : Q0m P w K mg base 4 "middle_awake" (Q0i spMA) := by
 refine okD (k := 3) Fn Q3h hm hb (λ ds O R h => ?_) (λ cdv A outer s H E ds O R hr h => ?_)
 ·obtain ⟨_,⟨_,_,rfl,_⟩,_⟩ := h; rfl
 ·obtain ⟨d,⟨said,ws,rfl,hs,hl,hw,rfl⟩,hR⟩ := h
  have hal := ax_len said
  refine Q0c (Q0J 2 (EvP.ev (Q0g F_awake_in (hr.mono (by decide)) (Q0b (Q0a 0) Q0e) ⟨_,rfl,by assumption,rfl⟩) ?_) Q3h.nd)
  have e : [D.tup ((ax said).map λ k => D.int ((sat2 said k).getD 0)),D.tup ((ax said).map λ k => D.int (ws.getD k 0))] = [.tup ((nsA said).map D.int),.tup ((wsA said ws).map D.int)] := by
   unfold nsA wsA
   rw [List.map_map,List.map_map]
   rfl
  exact Q0c (Q0y (EvP.ev (Q0g F_middle (hr.mono (by decide)) (Q0b (Q0K T.b_tuple (Q0b (Q0Z (λ k => D.int ((sat2 said k).getD 0)) ["adviser"] ["said"] [0] (Q3I (Q0a 2) (by first | exact Or.inl rfl | exact Or.inr (Or.inl rfl) | exact Or.inr (Or.inr rfl) | assumption)) (by rw [sizeLine_eq]; omega) (by exact λ q hq s H fp => ⟨[some _],rfl,(Q0t 0 (show List.Nodup (["adviser","said"] : List Str) by decide +kernel)),⟨_,rfl,(Q2E (Q0a 1) (Q0a 0) (at_ax hq))⟩⟩)) Q0e) (Q1G (by first | exact Or.inr rfl | exact Or.inl (Or.inl rfl) | exact Or.inl (Or.inr (Or.inl rfl)) | exact Or.inl (Or.inr (Or.inr ⟨_,rfl,by first | assumption | rfl⟩))))) (Q0b (Q0K T.b_tuple (Q0b (Q0Z (λ k => D.int (ws.getD k 0)) ["adviser"] ["weights"] [1] (Q3I (Q0a 2) (by first | exact Or.inl rfl | exact Or.inr (Or.inl rfl) | exact Or.inr (Or.inr rfl) | assumption)) (by rw [sizeLine_eq]; omega) (by exact λ q hq s H fp => ⟨[some _],rfl,(Q0t 0 (show List.Nodup (["adviser","weights"] : List Str) by decide +kernel)),⟨_,rfl,(Q2E (Q0a 1) (Q0a 0) (at_ws (by have := ax_lt hq; omega)))⟩⟩)) Q0e) (Q1G (by first | exact Or.inr rfl | exact Or.inl (Or.inl rfl) | exact Or.inl (Or.inr (Or.inl rfl)) | exact Or.inl (Or.inr (Or.inr ⟨_,rfl,by first | assumption | rfl⟩))))) Q0e)) ⟨nsA said,wsA said ws,e,twoA hs hw,rfl⟩) hR))
theorem ok_times_awake (Fn : Fun K "times_awake" "times_awake" Q1s f fd) (hm : mg "times_awake" = some (.ref f)) (hb : Q0C K fd ["keeper","own","off"] []) (F_power : Q0m P w K mg base 1 "power" (Q0i spPow)) : Q0m P w K mg base 2 "times_awake" (spTAV CK5 CK3) := by
 refine okD (k := 1) Fn Q3J hm hb (λ ds O R h => ?_) (λ cdv A outer s H E ds O R hr h => ?_)
 ·obtain ⟨_,_,_,_,_,_,_,rfl,_⟩ := h; rfl
 ·obtain ⟨q,sf,p,u,own,off,ws,rfl,hW,hp,ho,hof,hR⟩ := h
  have hf := hp.f
  have s1 := hf.s1; have s2 := hf.s2; have t0 := hf.t0; have tb := hf.tb; have b2 := hf.b2
  have a1 := pw81 (x := p.t) (e := off) hf.t0 (by omega) (by omega)
  have a2 := pw81 (x := p.b) (e := p.sc - off) (by omega) (by omega) (by omega)
  have a3 := pw81 (x := p.b) (e := own) (by omega) (by omega) (by omega)
  have c1 := Q2s a1.1 a1.2 a2.1 a2.2
  have c2 := Q2s (c := 2) c1.1 c1.2 (show (0 : Int) <= 2 by decide) (by decide)
  refine Q0c (Q0J 3 (EvP.ev (Q0j (Q0g F_power (hr.mono (by decide)) (Q0b (Q0o (Q0a 0) hW (cv T.c_Weigher.cls T.c_Shifter.cls sf) (nv T.n_Weigher_top T.n_Shifter_top sf) (vl_top sf p u ws)) (Q0b (Q0a 2) Q0e)) ⟨_,_,rfl,⟨by omega,by omega⟩,⟨by omega,by omega⟩,rfl⟩) (Q0g F_power (hr.mono (by decide)) (Q0b (Q0o (Q0a 0) hW (cv T.c_Weigher.cls T.c_Shifter.cls sf) (nv T.n_Weigher_bottom T.n_Shifter_bottom sf) (Q4b sf p u ws)) (Q0b (Q0j (Q0o (Q0a 0) hW (cv T.c_Weigher.cls T.c_Shifter.cls sf) (nv T.n_Weigher_scale T.n_Shifter_scale sf) (Q5d sf p u ws)) (Q0a 2) o_sub) Q0e)) ⟨_,_,rfl,⟨by omega,by omega⟩,⟨by omega,by omega⟩,rfl⟩) (Q1O (mulP a1.1 a1.2 a2.1 a2.2))) ?_) Q3J.nd)
  exact Q0c (Q0y (EvP.ev (Q0j (Q0j (Q0a 3) Q0f (Q1O (by first | assumption | exact CMul.ok (Or.inl ⟨by omega,by omega⟩) | exact CMul.ok (Or.inr ⟨by omega,by omega⟩)))) (Q0g F_power (hr.mono (by decide)) (Q0b (Q0o (Q0a 0) hW (cv T.c_Weigher.cls T.c_Shifter.cls sf) (nv T.n_Weigher_bottom T.n_Shifter_bottom sf) (Q4b sf p u ws)) (Q0b (Q0a 1) Q0e)) ⟨_,_,rfl,⟨by omega,by omega⟩,⟨by omega,by omega⟩,rfl⟩) (Q1O (mulP c2.1 c2.2 a3.1 a3.2))) hR))
theorem ok_times_asleep (Fn : Fun K "times_asleep" "times_asleep" Q1b f fd) (hm : mg "times_asleep" = some (.ref f)) (hb : Q0C K fd ["keeper","own"] []) (F_power : Q0m P w K mg base 1 "power" (Q0i spPow)) : Q0m P w K mg base 2 "times_asleep" (spTSV CK5 CK3) := by
 refine okD (k := 1) Fn sc_times_asleep hm hb (λ ds O R h => ?_) (λ cdv A outer s H E ds O R hr h => ?_)
 ·obtain ⟨_,_,_,_,_,_,rfl,_⟩ := h; rfl
 ·obtain ⟨q,sf,p,u,own,ws,rfl,hW,hp,ho,hR⟩ := h
  have hf := hp.f
  have s1 := hf.s1; have s2 := hf.s2; have t0 := hf.t0; have tb := hf.tb; have b2 := hf.b2
  have a1 := pw81 (x := p.b) (e := p.sc) (by omega) (by omega) (by omega)
  have a2 := pw81 (x := p.b) (e := own) (by omega) (by omega) (by omega)
  have a3 := pw81 (x := p.t) (e := own) hf.t0 (by omega) (by omega)
  have e82 : (2 : Int) ^ 82 = 2 ^ 81 + 2 ^ 81 := by decide
  exact Q0c (Q0y (EvP.ev (Q0j (Q0g F_power (hr.mono (by decide)) (Q0b (Q0o (Q0a 0) hW (cv T.c_Weigher.cls T.c_Shifter.cls sf) (nv T.n_Weigher_bottom T.n_Shifter_bottom sf) (Q4b sf p u ws)) (Q0b (Q0o (Q0a 0) hW (cv T.c_Weigher.cls T.c_Shifter.cls sf) (nv T.n_Weigher_scale T.n_Shifter_scale sf) (Q5d sf p u ws)) Q0e)) ⟨_,_,rfl,⟨by omega,by omega⟩,⟨by omega,by omega⟩,rfl⟩) (Q0j (Q0g F_power (hr.mono (by decide)) (Q0b (Q0o (Q0a 0) hW (cv T.c_Weigher.cls T.c_Shifter.cls sf) (nv T.n_Weigher_bottom T.n_Shifter_bottom sf) (Q4b sf p u ws)) (Q0b (Q0a 1) Q0e)) ⟨_,_,rfl,⟨by omega,by omega⟩,⟨by omega,by omega⟩,rfl⟩) (Q0g F_power (hr.mono (by decide)) (Q0b (Q0o (Q0a 0) hW (cv T.c_Weigher.cls T.c_Shifter.cls sf) (nv T.n_Weigher_top T.n_Shifter_top sf) (vl_top sf p u ws)) (Q0b (Q0a 1) Q0e)) ⟨_,_,rfl,⟨by omega,by omega⟩,⟨by omega,by omega⟩,rfl⟩) Q1P) (Q1O (mulP (n := 82) a1.1 a1.2 (by omega) (by rw [e82]; omega)))) hR))
theorem ok_times (Fn : Fun K "times" "times" Q4z f fd) (hm : mg "times" = some (.ref f)) (hb : Q0C K fd ["keeper","own","what","so"] []) (F_charge : Q0m P w K mg base 1 "charge" (Q0i Q2V)) (F_times_asleep : Q0m P w K mg base 2 "times_asleep" (spTSV CK5 CK3)) (F_times_awake : Q0m P w K mg base 2 "times_awake" (spTAV CK5 CK3)) : Q0m P w K mg base 3 "times" (spTFV CK5 CK3) := by
 refine okD (k := 2) Fn sc_times hm hb (λ ds O R h => ?_) (λ cdv A outer s H E ds O R hr h => ?_)
 ·obtain ⟨_,_,_,_,_,_,_,_,rfl,_⟩ := h; rfl
 ·obtain ⟨q,sf,p,u,own,so,w,ws,rfl,hW,hp,ho,hso,hw,hR⟩ := h
  cases w with
  | none =>
   refine Q0c (x_if (Q0A (Q0a 2) Q2Z Q4o) (λ hk => ?_) (λ hk => by cases hk))
   exact Q0c (Q0y (EvP.ev (Ev.evp (Q1R F_times_asleep (hr.mono (by decide)) (Q0b (Q0a 0) (Q0b (Q0a 1) Q0e)) ⟨q,sf,p,u,own,ws,rfl,hW,hp,ho,rfl,rfl⟩)) hR))
  | some x =>
   have hx := onS_ok (hw.resolve_left (λ h => by cases h))
   refine Q0c (x_if (Q0A (Q0a 2) Q2Z Q4o) (λ hk => by cases hk) (λ hk => Q0p ?_))
   exact Q0c (Q0y (EvP.ev (Ev.evp (Q1R F_times_awake (hr.mono (by decide)) (Q0b (Q0a 0) (Q0b (Q0a 1) (Q0b (Q0g F_charge (hr.mono (by decide)) (Q0b (Q0a 2) (Q0b (Q0a 3) Q0e)) ⟨some x,so,rfl,rfl⟩) Q0e))) ⟨q,sf,p,u,own,ab (x - so),ws,rfl,hW,hp,ho,ab_ok hx hso,rfl,rfl⟩)) hR))
theorem ok_check_turns (Fn : Fun K "check_turns" "check_turns" Q1w f fd) (hm : mg "check_turns" = some (.ref f)) (hb : Q0C K fd ["many","scale","turns"] []) (F_is_turn : Q0m P w K mg base 4 "is_turn" (Q0i Q5f)) : Q0m P w K mg base 5 "check_turns" (Q0i Q3g) := by
 refine okD (k := 4) Fn Q2F hm hb (λ ds O R h => ?_) (λ cdv A outer s H E ds O R hr h => ?_)
 ·obtain ⟨_,⟨_,_,_,rfl,_⟩,_⟩ := h; rfl
 ·obtain ⟨d,⟨m,s,ts,rfl,hm,hts,rfl⟩,hR⟩ := h
  refine Q0c (x_if (Q2u (Q3c (Q0v T.b_isinstance (Q0b (Q0a 2) (Q0b (Q2X T.b_tuple) Q0e)) (Q2v rfl)))) (λ hk => by cases hk) (λ hk => Q0p ?_))
  refine Q0c (Q4O (ei_Z (ez_enumM (Q0a 2) (by first | exact Or.inl rfl | exact Or.inr (Or.inl rfl) | exact Or.inr (Or.inr rfl) | assumption) T.b_enumerate)) (λ i ρ O' => (∃ u v : Option D,ρ = [some (.int (m : Nat)),some (.int s),some (.tup (ts.map tD)),u,v]) /\ O' = O) ⟨⟨_,_,rfl⟩,rfl⟩ ?_ ?_)
  ·rintro i x ρ O' hx ⟨⟨u,v,rfl⟩,rfl⟩
   rw [List.getElem?_map] at hx
   cases hp : ts.zipIdx[i]? with
   | none => rw [hp] at hx; cases hx
   | some p =>
    rw [hp] at hx
    cases hx
    have hok := hts p.1 (List.fst_mem_of_mem_zipIdx (List.mem_of_getElem? hp))
    have hsd := hok.said hm
    have hso := hok.2.2
    refine ⟨_,Q2I (Q0w (Q0t 3 Q2F.nd) (Q0w (Q0t 4 Q2F.nd) Q1S)),?_⟩
    exact Q0c (x_if (Q2u (Q3c (Q0g F_is_turn (hr.mono (by decide)) (Q0b (Q0a 0) (Q0b (Q0a 1) (Q0b (Q0a 4) Q0e))) ⟨(m : Nat),s,p.1.1,p.1.2,rfl,hsd,hso,rfl⟩))) (λ hk => by cases hk) (λ hk => Q0p (Q0p ⟨⟨_,_,rfl⟩,rfl⟩)))
  ·rintro ρ O' ⟨⟨u,v,rfl⟩,rfl⟩
   exact Q0p hR
theorem ok_check_push (Fn : Fun K "check_push" "check_push" Q1M f fd) (hm : mg "check_push" = some (.ref f)) (hb : Q0C K fd ["many","push"] []) (F_check_within : Q0m P w K mg base 2 "check_within" (Q0i Q2U)) (F_power : Q0m P w K mg base 1 "power" (Q0i spPow)) : Q0m P w K mg base 3 "check_push" (Q0i spPush) := by
 refine okD (k := 2) Fn Q4g hm hb (λ ds O R h => ?_) (λ cdv A outer s H E ds O R hr h => ?_)
 ·obtain ⟨_,⟨_,_,rfl,_⟩,_⟩ := h; rfl
 ·obtain ⟨d,⟨m,ps,rfl,hp,hm,rfl⟩,hR⟩ := h
  refine Q0c (x_if (EvW.t (ew_or (Q2u (Q3c (Q0v T.b_isinstance (Q0b (Q0a 1) (Q0b (Q2X T.b_tuple) Q0e)) (Q2v rfl)))) (λ hbb => (Q4M (Q0A (Q0v T.b_len (Q0b (Q0a 1) Q0e) (Q3q (by first | exact Or.inr rfl | exact Or.inl (Or.inl rfl) | exact Or.inl (Or.inr (Or.inl rfl)) | exact Or.inl (Or.inr (Or.inr ⟨_,rfl,by first | assumption | rfl⟩))))) (Q0a 0) Q3X))))) (λ hk => ?_) (λ hk => Q0p ?_))
  ·exfalso
   have hk : (!true || !decide ((((ps.map D.int).length : Nat) : Int) = m)) = true := hk
   rw [List.length_map,hp.1,decide_eq_true rfl] at hk
   cases hk
  refine Q0c (Q4O (Q3I (Q0a 1) (by first | exact Or.inl rfl | exact Or.inr (Or.inl rfl) | exact Or.inr (Or.inr rfl) | assumption)) (λ i ρ O' => (∃ u,ρ = [some (.int m),some (.tup (ps.map D.int)),u]) /\ O' = O) ⟨⟨_,rfl⟩,rfl⟩ ?_ ?_)
  ·rintro i x ρ O' hx ⟨⟨u,rfl⟩,rfl⟩
   rw [List.getElem?_map] at hx
   cases hi : ps[i]? with
   | none => rw [hi] at hx; cases hx
   | some p =>
    rw [hi] at hx
    cases hx
    have hb := hp.2 p (List.mem_of_getElem? hi)
    refine ⟨_,Q0t 2 Q4g.nd,?_⟩
    exact Q0c (Q0D (EvP.ev (Q0g F_check_within (hr.mono (by decide)) (Q0b ev_str (Q0b (Q0a 2) (Q0b Q0f (Q0b (Q0j (Q0g F_power (hr.mono (by decide)) (Q0b Q0f (Q0b (ev_gint T.g_MOST_FIGURES.choose_spec) Q0e)) ⟨10,60,rfl,by decide,by decide,rfl⟩) Q0f o_sub) Q0e)))) ⟨_,_,_,_,rfl,hb,rfl⟩) (Q0p ⟨⟨_,rfl⟩,rfl⟩)))
  ·rintro ρ O' ⟨⟨u,rfl⟩,rfl⟩
   exact Q0p hR
theorem ok_push_of (Fn : Fun K "push_of" "push_of" Q2K f fd) (hm : mg "push_of" = some (.ref f)) (hb : Q0C K fd ["many","push"] []) (F_check_push : Q0m P w K mg base 3 "check_push" (Q0i spPush)) : Q0m P w K mg base 4 "push_of" (Q0i spPushOf) := by
 refine okD (k := 3) Fn sc_push_of hm hb (λ ds O R h => ?_) (λ cdv A outer s H E ds O R hr h => ?_)
 ·obtain ⟨_,⟨_,_,rfl,_⟩,_⟩ := h; rfl
 ·obtain ⟨d,⟨m,po,rfl,hm,hp,rfl⟩,hR⟩ := h
  cases po with
  | none =>
   refine Q0c (x_if (Q0A (Q0a 1) Q2Z Q4o) (λ hk => ?_) (λ hk => by cases hk))
   refine Q0c (Q0y (EvP.ev (Q0j (Q2D (Q0b Q0f Q0e)) (Q0a 0) (o_repT hm.1 (by omega) (by simp) (by rw [sizeLine_eq]; show 1 * m.toNat <= _; omega))) ?_))
   rw [zeros]
   exact hR
  | some ps =>
   have hp : PushOk m ps := hp
   have hm2 := hm.2
   refine Q0c (x_if (Q0A (Q0a 1) Q2Z Q4o) (λ hk => by cases hk) (λ hk => Q0p ?_))
   refine Q0c (Q0D (EvP.ev (Q0g F_check_push (hr.mono (by decide)) (Q0b (Q0a 0) (Q0b (Q0a 1) Q0e)) ⟨m,ps,rfl,hp,hm2,rfl⟩) ?_))
   exact Q0c (Q0y (EvP.ev (Q0a 1) hR))
theorem ok_first_least (Fn : Fun K "first_least" "first_least" Q1v f fd) (hm : mg "first_least" = some (.ref f)) (hb : Q0C K fd ["scores","advisers"] []) : Q0m P w K mg base 1 "first_least" (Q0i spFirst) := by
 refine okD (k := 0) Fn sc_first_least hm hb (λ ds O R h => ?_) (λ cdv A outer s H E ds O R hr h => ?_)
 ·obtain ⟨_,⟨_,_,_,rfl,_⟩,_⟩ := h; rfl
 ·obtain ⟨d,⟨sc,as,k,rfl,hl,hb,hf,rfl⟩,hR⟩ := h
  have hy : ∀ q ∈ as,atI (sc.map D.int) (q : Nat) = some (.int (sc.getD q 0)) := λ q hq => at_ws (hb q hq)
  have hne : (as.map λ k => (sc.getD k 0,((k : Nat) : Int))) ≠ [] := λ z => by
   rw [List.map_eq_nil_iff] at z
   have := hf.1
   rw [z] at this
   cases this
  refine Q0c (Q0y (EvP.ev (Q2E (Q0v T.b_min (Q0b (Q0Z (λ k : Nat => pD (sc.getD k 0,((k : Nat) : Int))) ["adviser"] ["scores"] [0] (Q3I (Q0a 1) (by first | exact Or.inl rfl | exact Or.inr (Or.inl rfl) | exact Or.inr (Or.inr rfl) | assumption)) (by rw [sizeLine_eq]; omega) (by exact λ q hq s H fp => ⟨[some _],rfl,(Q0t 0 (show List.Nodup (["adviser","scores"] : List Str) by decide +kernel)),⟨_,rfl,(Q2D (Q0b (Q2E (Q0a 1) (Q0a 0) (hy q hq)) (Q0b (Q0a 0) Q0e)))⟩⟩)) Q0e) (c_minP hr (ps := as.map λ k => (sc.getD k 0,((k : Nat) : Int))) (Or.inl (congrArg D.lst (by rw [List.map_map]; rfl))) hne)) Q0f rfl) ?_))
  rw [minP_fl hf]
  exact hR
theorem Q4V (Fn : Fun K "__init__" "Hand.__init__" Q0V f fd)  (F_check_making : Q0m P w K mg base 4 "check_making" (Q0i spMaking)) : FnOk P w K mg base CX0 5 f fd ["self","many","scale"] (toSp K (Q2a (λ C => C = CK1 \/ C = CK5 \/ C = CK3 \/ C = CK2 \/ C = CK4 \/ C = CK0))) := by
 refine okF (k := 4) Fn Q4Q (λ ds O R h => ?_) (λ cdv A outer s H E ds O R hr h => ?_)
 ·obtain ⟨_,_,_,_,rfl,_⟩ := h; rfl
 ·obtain ⟨q,m,s,C,rfl,hC,hq,hm,hs,hR⟩ := h
  have hc : Cls K C := by rcases hC with rfl | rfl | rfl | rfl | rfl | rfl; exact T.c_Hand.cls; exact T.c_Weigher.cls; exact T.c_Shifter.cls; exact T.c_Rounder.cls; exact T.c_Tier.cls; exact T.c_Follower.cls
  have n1 : Q0u K C "many" := by rcases hC with rfl | rfl | rfl | rfl | rfl | rfl; exact T.n_Hand_many; exact T.n_Weigher_many; exact T.n_Shifter_many; exact T.n_Rounder_many; exact T.n_Tier_many; exact T.n_Follower_many
  have n2 : Q0u K C "scale" := by rcases hC with rfl | rfl | rfl | rfl | rfl | rfl; exact T.n_Hand_scale; exact T.n_Weigher_scale; exact T.n_Shifter_scale; exact T.n_Rounder_scale; exact T.n_Tier_scale; exact T.n_Follower_scale
  refine Q0c (Q0D (EvP.ev (Q0g F_check_making (hr.mono (by decide)) (Q0b (Q0a 1) (Q0b (Q0a 2) Q0e)) ⟨_,_,rfl,by assumption,by assumption,rfl⟩) ?_))
  refine Q0c (Q2x (Q0a 1) (Q0a 0) hq hc n1 (by decide) ?_)
  refine Q0c (Q2x (Q0a 2) (Q0a 0) (Q1H hq) hc n2 (by show 1 < 1000; decide) ?_)
  refine Q0p ?_
  rw [List.set_set,put_hand]
  exact hR
theorem ok_Hand_heeded (Fn : Fun K "heeded" "Hand.heeded" Q1z f fd)  : FnOk P w K mg base CX0 1 f fd ["self"] (toSp K (spHeedH CK1)) := by
 refine okF (k := 0) Fn sc_Hand_heeded (λ ds O R h => ?_) (λ cdv A outer s H E ds O R hr h => ?_)
 ·obtain ⟨_,_,_,rfl,_⟩ := h; rfl
 ·obtain ⟨q,m,s,rfl,hq,hm,hR⟩ := h
  refine Q0c (Q0y (EvP.ev (Q0j (Q2D (Q0b Q0f Q0e)) (Q0o (Q0a 0) hq T.c_Hand.cls T.n_Hand_many (hl_many m s)) (o_repT hm.1 (by omega) (by simp) (by rw [sizeLine_eq]; show 1 * m.toNat <= _; omega))) ?_))
  rw [ones]
  exact hR
theorem Q4E (Fn : Fun K "heeded" "Weigher.heeded" Q0P f fd)  : FnOk P w K mg base CX0 1 f fd ["self"] (toSp K (Q4t CK5 CK3)) := by
 refine okF (k := 0) Fn Q4x (λ ds O R h => ?_) (λ cdv A outer s H E ds O R hr h => ?_)
 ·obtain ⟨_,_,_,_,_,rfl,_⟩ := h; rfl
 ·obtain ⟨q,sf,p,u,ws,rfl,hW,hR⟩ := h
  exact Q0c (Q0y (EvP.ev (Q0o (Q0a 0) hW (cv T.c_Weigher.cls T.c_Shifter.cls sf) (nv T.n_Weigher_tops T.n_Shifter_tops sf) (vl_tops sf p u ws)) hR))
theorem Q4F (Fn : Fun K "heeded" "Rounder.heeded" Q0Q f fd)  : FnOk P w K mg base CX0 1 f fd ["self"] (toSp K (spHeedR CK2)) := by
 refine okF (k := 0) Fn Q4y (λ ds O R h => ?_) (λ cdv A outer s H E ds O R hr h => ?_)
 ·obtain ⟨_,_,_,_,_,rfl,_⟩ := h; rfl
 ·obtain ⟨jj,m,s,ov,ins,rfl,hO,hl,hR⟩ := h
  refine Q0c (Q0y (EvP.ev (Q0K T.b_tuple (Q0b (Q0Z (λ b : Bool => if b = true then D.int 1 else D.int 0) ["one"] [] [] (Q3I (Q0o (Q0a 0) hO T.c_Rounder.cls T.n_Rounder_inside (rl_inside m s ov ins)) (by first | exact Or.inl rfl | exact Or.inr (Or.inl rfl) | exact Or.inr (Or.inr rfl) | assumption)) (by rw [sizeLine_eq]; omega) (by exact λ q hq s H fp => ⟨[some _],rfl,(Q0t 0 (show List.Nodup (["one"] : List Str) by decide +kernel)),⟨_,rfl,(ev_if (Q3c (Q0a 0)) (λ hbb => Q0f) (λ hbb => Q0f))⟩⟩)) Q0e) (Q1G (by first | exact Or.inr rfl | exact Or.inl (Or.inl rfl) | exact Or.inl (Or.inr (Or.inl rfl)) | exact Or.inl (Or.inr (Or.inr ⟨_,rfl,by first | assumption | rfl⟩))))) ?_))
  rw [heed_eq]
  exact hR
theorem ok_Hand_say (Fn : Fun K "say" "Hand.say" Q2l f fd)  (F_check_said : Q0m P w K mg base 4 "check_said" (Q0i Q2n)) (F_middle_awake : Q0m P w K mg base 4 "middle_awake" (Q0i spMA)) (M_Hand_heeded : Q0h P w K mg base CK1 1 "heeded" (spHeedH CK1)) (M_Weigher_heeded : Q0h P w K mg base CK5 1 "heeded" (Q4t CK5 CK3)) (M_Shifter_heeded : Q0h P w K mg base CK3 1 "heeded" (Q4t CK5 CK3)) (M_Rounder_heeded : Q0h P w K mg base CK2 1 "heeded" (spHeedR CK2)) : FnOk P w K mg base CX0 6 f fd ["self","said"] (toSp K (Q0S CK1 CK5 CK3 CK2)) := by
 refine okF (k := 5) Fn sc_Hand_say (λ ds O R h => ?_) (λ cdv A outer s H E ds O R hr h => ?_)
 ·obtain ⟨_,_,_,_,_,rfl,_⟩ := h; rfl
 ·obtain ⟨q,m,s,ws,said,rfl,hq,hm,hs,hl,hw,hR⟩ := h
  have hs1 := hs.1
  have h24 : said.length <= 24 := by have := hs.2.1; omega
  have hll : ws.length = said.length := by omega
  rcases hq with ⟨hq,rfl⟩ | ⟨sf,p,u,hW,rfl,rfl⟩ | ⟨ins,ov,hq,rfl⟩
  ·refine Q0c (Q0D (EvP.ev (Q0g F_check_said (hr.mono (by decide)) (Q0b (Q0o (Q0a 0) hq T.c_Hand.cls T.n_Hand_many (hl_many m s)) (Q0b (Q0o (Q0a 0) hq T.c_Hand.cls T.n_Hand_scale (Q5k m s)) (Q0b (Q0a 1) Q0e))) ⟨_,_,_,rfl,by assumption,rfl⟩) ?_))
   exact Q0c (Q0y (EvP.ev (Q0g F_middle_awake (hr.mono (by decide)) (Q0b (Q0a 1) (Q0b (Ev.evp (Q1Q M_Hand_heeded (hr.mono (by decide)) (Q0a 0) hq (hl_heeded m s) ⟨q,m,s,rfl,hq,hm,rfl,rfl⟩)) Q0e)) ⟨_,_,rfl,by assumption,by assumption,by assumption,rfl⟩) hR))
  ·refine Q0c (Q0D (EvP.ev (Q0g F_check_said (hr.mono (by decide)) (Q0b (Q0o (Q0a 0) hW (cv T.c_Weigher.cls T.c_Shifter.cls sf) (nv T.n_Weigher_many T.n_Shifter_many sf) (vl_many sf p u ws)) (Q0b (Q0o (Q0a 0) hW (cv T.c_Weigher.cls T.c_Shifter.cls sf) (nv T.n_Weigher_scale T.n_Shifter_scale sf) (Q5d sf p u ws)) (Q0b (Q0a 1) Q0e))) ⟨_,_,_,rfl,by assumption,rfl⟩) ?_))
   exact Q0c (Q0y (EvP.ev (Q0g F_middle_awake (hr.mono (by decide)) (Q0b (Q0a 1) (Q0b (Ev.evp (Q1Q (mv M_Weigher_heeded M_Shifter_heeded sf) (hr.mono (by decide)) (Q0a 0) hW (vl_no sf p u ws (by decide +kernel) (by decide +kernel)) ⟨q,sf,p,u,ws,rfl,hW,rfl,rfl⟩)) Q0e)) ⟨_,_,rfl,by assumption,by assumption,by assumption,rfl⟩) hR))
  ·have hi24 : ins.length <= 24 := by have : (wsR ins).length = ins.length := List.length_map ..; omega
   refine Q0c (Q0D (EvP.ev (Q0g F_check_said (hr.mono (by decide)) (Q0b (Q0o (Q0a 0) hq T.c_Rounder.cls T.n_Rounder_many (rl_many m s ov ins)) (Q0b (Q0o (Q0a 0) hq T.c_Rounder.cls T.n_Rounder_scale (Q5i m s ov ins)) (Q0b (Q0a 1) Q0e))) ⟨_,_,_,rfl,by assumption,rfl⟩) ?_))
   exact Q0c (Q0y (EvP.ev (Q0g F_middle_awake (hr.mono (by decide)) (Q0b (Q0a 1) (Q0b (Ev.evp (Q1Q M_Rounder_heeded (hr.mono (by decide)) (Q0a 0) hq (rl_no m s ov ins (by decide +kernel)) ⟨q,m,s,ov,ins,rfl,hq,hi24,rfl,rfl⟩)) Q0e)) ⟨_,_,rfl,by assumption,by assumption,by assumption,rfl⟩) hR))
theorem ok_Hand_hear (Fn : Fun K "hear" "Hand.hear" Q1X f fd)  (F_check_turn : Q0m P w K mg base 5 "check_turn" (Q0i Q1r)) : FnOk P w K mg base CX0 6 f fd ["self","said","so"] (toSp K (Q3e CK1)) := by
 refine okF (k := 5) Fn sc_Hand_hear (λ ds O R h => ?_) (λ cdv A outer s H E ds O R hr h => ?_)
 ·obtain ⟨_,_,_,_,_,rfl,_⟩ := h; rfl
 ·obtain ⟨q,m,sc,so,said,rfl,hq,hs,hso,hR⟩ := h
  exact Q0c (Q0D (EvP.ev (Q0g F_check_turn (hr.mono (by decide)) (Q0b (Q0o (Q0a 0) hq T.c_Hand.cls T.n_Hand_many (hl_many m sc)) (Q0b (Q0o (Q0a 0) hq T.c_Hand.cls T.n_Hand_scale (Q5k m sc)) (Q0b (Q0a 1) (Q0b (Q0a 2) Q0e)))) ⟨_,_,_,_,rfl,by assumption,by assumption,rfl⟩) (Q0p hR)))
theorem ok_Hand_anew (Fn : Fun K "anew" "Hand.anew" Q1Y f fd)  (K_Hand : Q1C P w K mg base CK1 5 "Hand" (Q2a (λ C => C = CK1 \/ C = CK5 \/ C = CK3 \/ C = CK2 \/ C = CK4 \/ C = CK0))) : FnOk P w K mg base CX0 7 f fd ["self"] (toSp K (Q3O CK1)) := by
 refine okF (k := 6) Fn sc_Hand_anew (λ ds O R h => ?_) (λ cdv A outer s H E ds O R hr h => ?_)
 ·obtain ⟨_,_,_,rfl,_⟩ := h; rfl
 ·obtain ⟨q,m,sc,rfl,hq,hm,hs,hR⟩ := h
  refine Q0c (Q0y (Q2d K_Hand (hr.mono (by decide)) (Q0b (Q0o (Q0a 0) hq T.c_Hand.cls T.n_Hand_many (hl_many m sc)) (Q0b (Q0o (Q0a 0) hq T.c_Hand.cls T.n_Hand_scale (Q5k m sc)) Q0e)) ⟨O.length,m,sc,CK1,rfl,.inl rfl,st0,hm,hs,rfl,?_⟩))
  rw [ss0]
  exact hR
theorem Q3V (Fn : Fun K "__init__" "Rounder.__init__" Q0I f fd)  (O_Hand___init__ : OfCls P w K mg base "Hand" 5 "__init__" (Q2a (λ C => C = CK1 \/ C = CK5 \/ C = CK3 \/ C = CK2 \/ C = CK4 \/ C = CK0))) : FnOk P w K mg base CX0 6 f fd ["self","many","scale"] (toSp K (spInitR CK2)) := by
 refine okF (k := 5) Fn Q3S (λ ds O R h => ?_) (λ cdv A outer s H E ds O R hr h => ?_)
 ·obtain ⟨_,_,_,rfl,_⟩ := h; rfl
 ·obtain ⟨q,m,s,rfl,hq,hm,hs,hR⟩ := h
  refine Q0c (Q0D (Q4l O_Hand___init__ (hr.mono (by decide)) (Q0b (Q0a 0) (Q0b (Q0a 1) (Q0b (Q0a 2) Q0e))) ⟨q,m,s,CK2,rfl,.inr (.inr (.inr (.inl rfl))),hq,hm,hs,?_⟩))
  refine Q0c (Q2x (Q0j (Q2D (Q0b ev_bl Q0e)) (Q0a 1) (o_repT hm.1 (by omega) (by simp) (by rw [sizeLine_eq]; show 1 * m.toNat <= _; omega))) (Q0a 0) (Q1H hq) T.c_Rounder.cls T.n_Rounder_inside (by show 2 < 1000; decide) ?_)
  rw [List.set_set,show Q2c m s = r2 m s from rfl,put_r3,trues]
  refine Q0c (Q2x Q0f (Q0a 0) (Q1H hq) T.c_Rounder.cls T.n_Rounder_over (by show 3 < 1000; decide) ?_)
  rw [List.set_set,put_r4]
  exact Q0p hR
theorem ok_Rounder_hear (Fn : Fun K "hear" "Rounder.hear" Q1l f fd)  (F_check_turn : Q0m P w K mg base 5 "check_turn" (Q0i Q1r)) (F_charge : Q0m P w K mg base 1 "charge" (Q0i Q2V)) : FnOk P w K mg base CX0 6 f fd ["self","said","so"] (toSp K (Q3d CK2)) := by
 refine okF (k := 5) Fn Q3j (λ ds O R h => ?_) (λ cdv A outer s H E ds O R hr h => ?_)
 ·obtain ⟨_,_,_,_,_,_,_,rfl,_⟩ := h; rfl
 ·obtain ⟨jj,m,s,ov,so,ins,said,rfl,hO,hm,hs,hso,hl,hR⟩ := h
  have hs1 := hs.1
  have hzl : (ins.zip said).length <= 63 := by rw [List.length_zip]; omega
  refine Q0c (Q0D (EvP.ev (Q0g F_check_turn (hr.mono (by decide)) (Q0b (Q0o (Q0a 0) hO T.c_Rounder.cls T.n_Rounder_many (rl_many m s ov ins)) (Q0b (Q0o (Q0a 0) hO T.c_Rounder.cls T.n_Rounder_scale (Q5i m s ov ins)) (Q0b (Q0a 1) (Q0b (Q0a 2) Q0e)))) ⟨_,_,_,_,rfl,by assumption,by assumption,rfl⟩) ?_))
  refine Q0c (Q0J 3 (EvP.ev (Q0K T.b_tuple (Q0b (Q0Z (λ p : Bool × Option Int => .bl (p.1 && decide (chg p.2 so = 0))) ["one","what"] ["so"] [2] (ei_Z (Q3o (Q0o (Q0a 0) hO T.c_Rounder.cls T.n_Rounder_inside (rl_inside m s ov ins)) (Q0a 1) (by first | exact Or.inl rfl | exact Or.inr (Or.inl rfl) | exact Or.inr (Or.inr rfl) | assumption) (by first | exact Or.inl rfl | exact Or.inr (Or.inl rfl) | exact Or.inr (Or.inr rfl) | assumption) T.b_zip)) (by rw [sizeLine_eq]; omega) (by exact λ q hq s H fp => ⟨[some _,some _],rfl,(Q2I (Q0w (Q0t 0 (show List.Nodup (["one","what","so"] : List Str) by decide +kernel)) (Q0w (Q0t 1 (show List.Nodup (["one","what","so"] : List Str) by decide +kernel)) Q1S))),⟨_,rfl,(Q3L (Q0a 0) (λ hbb => (Q3K (Q3a (Q0g F_charge (hr.mono (by decide)) (Q0b (Q0a 1) (Q0b (Q0a 2) Q0e)) ⟨_,_,rfl,rfl⟩) Q0f Q0M))))⟩⟩)) Q0e) (Q1G (by first | exact Or.inr rfl | exact Or.inl (Or.inl rfl) | exact Or.inl (Or.inr (Or.inl rfl)) | exact Or.inl (Or.inr (Or.inr ⟨_,rfl,by first | assumption | rfl⟩))))) ?_) Q3j.nd)
  have e1 : ((ins.zip said).map λ p : Bool × Option Int => D.bl (p.1 && decide (chg p.2 so = 0))) = (leftL said so ins).map D.bl := by
   unfold leftL
   rw [List.map_map]
   rfl
  rw [e1]
  have hLl : (leftL said so ins).length = ins.length := leftL_len (by omega)
  unfold nextI nextO at hR
  generalize leftL said so ins = left at hR hLl
  refine Q0c (x_if (Q3c (Q0v T.b_any (Q0b (Q0a 3) Q0e) (c_any (by first | exact Or.inr rfl | exact Or.inl (Or.inl rfl) | exact Or.inl (Or.inr (Or.inl rfl)) | exact Or.inl (Or.inr (Or.inr ⟨_,rfl,by first | assumption | rfl⟩)))))) (λ hk => ?_) (λ hk => ?_))
  ·rw [if_pos hk,if_pos hk] at hR
   refine Q0c (Q2x (Q0a 3) (Q0a 0) hO T.c_Rounder.cls T.n_Rounder_inside (by show 4 < 1000; decide) ?_)
   rw [rput_in]
   exact Q0p (Q0p hR)
  ·have hk' : ¬ left.any id = true := by rw [hk]; exact Bool.false_ne_true
   rw [if_neg hk',if_neg hk'] at hR
   refine Q0c (Q2x (Q0j (Q2D (Q0b ev_bl Q0e)) (Q0o (Q0a 0) hO T.c_Rounder.cls T.n_Rounder_many (rl_many m s ov ins)) (o_repT hm.1 (by omega) (by simp) (by rw [sizeLine_eq]; show 1 * m.toNat <= _; omega))) (Q0a 0) hO T.c_Rounder.cls T.n_Rounder_inside (by show 4 < 1000; decide) ?_)
   rw [trues,rput_in]
   have hO2 : (O.set jj (some (MO.ins CK2 (rouF m s (List.replicate m.toNat true) ov))))[jj]? = some (some (.ins CK2 (rouF m s (List.replicate m.toNat true) ov))) := Q1H hO
   refine Q0c (Q2x (Q0j (Q0o (Q0a 0) hO2 T.c_Rounder.cls T.n_Rounder_over (rl_over m s ov _)) Q0f Q1P) (Q0a 0) hO2 T.c_Rounder.cls T.n_Rounder_over (by show 4 < 1000; decide) ?_)
   rw [List.set_set,rput_ov]
   have e : m.toNat = ins.length := by omega
   rw [e]
   exact Q0p (Q0p hR)
theorem ok_Rounder_anew (Fn : Fun K "anew" "Rounder.anew" Q1m f fd)  (K_Rounder : Q1C P w K mg base CK2 6 "Rounder" (spInitR CK2)) : FnOk P w K mg base CX0 8 f fd ["self"] (toSp K (Q3N CK2)) := by
 refine okF (k := 7) Fn sc_Rounder_anew (λ ds O R h => ?_) (λ cdv A outer s H E ds O R hr h => ?_)
 ·obtain ⟨_,_,_,_,_,rfl,_⟩ := h; rfl
 ·obtain ⟨q,m,s,ov,ins,rfl,hq,hm,hs,hR⟩ := h
  refine Q0c (Q0y (Q2d K_Rounder (hr.mono (by decide)) (Q0b (Q0o (Q0a 0) hq T.c_Rounder.cls T.n_Rounder_many (rl_many m s ov ins)) (Q0b (Q0o (Q0a 0) hq T.c_Rounder.cls T.n_Rounder_scale (Q5i m s ov ins)) Q0e)) ⟨O.length,m,s,rfl,st0,hm,hs,rfl,?_⟩))
  rw [ss0]
  exact hR
theorem Q3T (Fn : Fun K "__init__" "Weigher.__init__" Q0G f fd)  (F_check_fraction : Q0m P w K mg base 3 "check_fraction" (Q0i Q4v)) (O_Hand___init__ : OfCls P w K mg base "Hand" 5 "__init__" (Q2a (λ C => C = CK1 \/ C = CK5 \/ C = CK3 \/ C = CK2 \/ C = CK4 \/ C = CK0))) : FnOk P w K mg base CX0 6 f fd ["self","many","scale","top","bottom"] (toSp K (Q2B CK5 CK3)) := by
 refine okF (k := 5) Fn Q3Q (λ ds O R h => ?_) (λ cdv A outer s H E ds O R hr h => ?_)
 ·obtain ⟨_,_,_,rfl,_⟩ := h; rfl
 ·obtain ⟨q,sf,p,rfl,hq,hp,hR⟩ := h
  obtain ⟨m,s,t,b,sh,pa⟩ := p
  have hm : 1 <= m /\ m <= 24 := ⟨hp.m1,hp.m2⟩
  have hb : 0 <= t /\ t < b /\ b <= 100 := ⟨hp.f.t0,hp.f.tb,hp.f.b2⟩
  refine Q0c (Q0D (EvP.ev (Q0g F_check_fraction (hr.mono (by decide)) (Q0b (Q0a 3) (Q0b (Q0a 4) Q0e)) ⟨_,_,rfl,by assumption,rfl⟩) ?_))
  refine Q0c (Q0D (Q4l O_Hand___init__ (hr.mono (by decide)) (Q0b (Q0a 0) (Q0b (Q0a 1) (Q0b (Q0a 2) Q0e))) ⟨q,m,s,wsC CK5 CK3 sf,rfl,(by cases sf; exact .inr (.inl rfl); exact .inr (.inr (.inl rfl))),hq,hm,⟨hp.f.s1,hp.f.s2⟩,?_⟩))
  have q1 := Q1H (y := some (.ins (wsC CK5 CK3 sf) (Q2c m s))) hq
  refine Q0c (Q2x (Q0a 3) (Q0a 0) q1 (cv T.c_Weigher.cls T.c_Shifter.cls sf) (nv T.n_Weigher_top T.n_Shifter_top sf) (by show 2 < 1000; decide) ?_)
  rw [List.set_set,put_top]
  refine Q0c (Q2x (Q0a 4) (Q0a 0) (Q1H hq) (cv T.c_Weigher.cls T.c_Shifter.cls sf) (nv T.n_Weigher_bottom T.n_Shifter_bottom sf) (by show 3 < 1000; decide) ?_)
  rw [List.set_set,put_bottom]
  refine Q0c (Q2x (Q0j (Q2D (Q0b Q0f Q0e)) (Q0a 1) (o_repT hm.1 (by omega) (by simp) (by rw [sizeLine_eq]; show 1 * m.toNat <= _; omega))) (Q0a 0) (Q1H hq) (cv T.c_Weigher.cls T.c_Shifter.cls sf) (nv T.n_Weigher_tops T.n_Shifter_tops sf) (by show 4 < 1000; decide) ?_)
  rw [List.set_set,put_tops,ones]
  refine Q0c (Q2x Q0f (Q0a 0) (Q1H hq) (cv T.c_Weigher.cls T.c_Shifter.cls sf) (nv T.n_Weigher_under T.n_Shifter_under sf) (by show 5 < 1000; decide) ?_)
  rw [List.set_set,put_under]
  exact Q0p hR
theorem Q3U (Fn : Fun K "__init__" "Shifter.__init__" Q0H f fd)  (F_check_share : Q0m P w K mg base 3 "check_share" (Q0i spShare)) (O_Weigher___init__ : OfCls P w K mg base "Weigher" 6 "__init__" (Q2B CK5 CK3)) : FnOk P w K mg base CX0 7 f fd ["self","many","scale","top","bottom","share","parts"] (toSp K (spInitS CK3)) := by
 refine okF (k := 6) Fn Q3R (λ ds O R h => ?_) (λ cdv A outer s H E ds O R hr h => ?_)
 ·obtain ⟨_,_,rfl,_⟩ := h; rfl
 ·obtain ⟨q,p,rfl,hq,hp,hR⟩ := h
  have hsh : 1 <= p.sh /\ p.sh < p.pa /\ p.pa <= 100 := ⟨hp.h1,hp.h2,hp.h3⟩
  refine Q0c (Q0D (EvP.ev (Q0g F_check_share (hr.mono (by decide)) (Q0b (Q0a 5) (Q0b (Q0a 6) Q0e)) ⟨_,_,rfl,by assumption,rfl⟩) ?_))
  refine Q0c (Q0D (Q4l O_Weigher___init__ (hr.mono (by decide)) (Q0b (Q0a 0) (Q0b (Q0a 1) (Q0b (Q0a 2) (Q0b (Q0a 3) (Q0b (Q0a 4) Q0e))))) ⟨q,true,p,rfl,hq,⟨hp.f,hp.m1,hp.m2,λ z => by cases z⟩,?_⟩))
  have q1 := Q1H (y := some (.ins CK3 (Q1B p.m p.sc p.t p.b (List.replicate p.m.toNat 1) 1))) hq
  refine Q0c (Q2x (Q0a 5) (Q0a 0) q1 T.c_Shifter.cls T.n_Shifter_share (by show 6 < 1000; decide) ?_)
  rw [List.set_set,put_share]
  refine Q0c (Q2x (Q0a 6) (Q0a 0) (Q1H hq) T.c_Shifter.cls T.n_Shifter_parts (by show 7 < 1000; decide) ?_)
  rw [List.set_set,put_parts]
  exact Q0p hR
theorem Q4T (Fn : Fun K "weigh" "Weigher.weigh" Q0T f fd)  (F_charge : Q0m P w K mg base 1 "charge" (Q0i Q2V)) (M_Weigher_say : Q0h P w K mg base CK5 6 "say" (Q0S CK1 CK5 CK3 CK2)) (M_Shifter_say : Q0h P w K mg base CK3 6 "say" (Q0S CK1 CK5 CK3 CK2)) (F_times : Q0m P w K mg base 3 "times" (spTFV CK5 CK3)) (F_times_asleep : Q0m P w K mg base 2 "times_asleep" (spTSV CK5 CK3)) : FnOk P w K mg base CX0 7 f fd ["self","said","so"] (toSp K (Q3s CK5 CK3)) := by
 refine okF (k := 6) Fn Q2Y (λ ds O R h => ?_) (λ cdv A outer s H E ds O R hr h => ?_)
 ·obtain ⟨_,_,_,_,_,_,_,_,rfl,_⟩ := h; rfl
 ·obtain ⟨jj,n,sf,p,u,so,said,ws,rfl,hW,hp,hn,hwo,hl,hs,hso,hR⟩ := h
  have hf := hp.f
  have hs1 := hs.1
  have h24 := hs.2.1
  have h0 : Wok ws := λ w hw => (hwo.w w hw).1
  have hon := Q3n (ws := ws) hs (by have := hf.s1; omega) h0
  have hd := ab_ok hon hso
  refine Q0c (Q0J 3 (EvP.ev (Q0g F_charge (hr.mono (by decide)) (Q0b (Ev.evp (Q1F (mv M_Weigher_say M_Shifter_say sf) (hr.mono (by decide)) (Q0a 0) hW (vl_no sf p u ws (by decide +kernel) (by decide +kernel)) (Q0b (Q0a 1) Q0e) ⟨jj,p.m,p.sc,ws,said,rfl,.inr (.inl ⟨sf,p,u,hW,rfl,rfl⟩),⟨hp.m1,hp.m2⟩,hs,hl,h0,rfl,rfl⟩)) (Q0b (Q0a 2) Q0e)) ⟨some (midA said ws),so,rfl,rfl⟩) ?_) Q2Y.nd)
  have hdd : chg (some (midA said ws)) so = ab (midA said ws - so) := rfl
  rw [hdd]
  generalize ab (midA said ws - so) = dd at hd hR
  have hzl : (ws.zip said).length <= 63 := by rw [List.length_zip]; omega
  have hi : ∀ q ∈ ws.zip said,IntMulOk q.1 (tF p.t p.b p.sc dd so q.2) := λ q hq => by
   have h1 := hwo.w _ (List.of_mem_zip hq).1
   have h2 := tF_ok hf hd.2 hso (hs.2.2 _ (List.of_mem_zip hq).2)
   exact mulP h1.1 h1.2 h2.1 h2.2 (by omega)
  have hin : ∀ q ∈ ws.zip said,q.2 = none \/ onS p.sc q.2 = true := λ q hq => hs.2.2 _ (List.of_mem_zip hq).2
  refine Q0c (Q2x (Q0K T.b_tuple (Q0b (Q0Z (λ q : Int × Option Int => .int (q.1 * tF p.t p.b p.sc dd so q.2)) ["kept","what"] ["self","own","so"] [0,3,2] (ei_Z (Q3o (Q0o (Q0a 0) hW (cv T.c_Weigher.cls T.c_Shifter.cls sf) (nv T.n_Weigher_tops T.n_Shifter_tops sf) (vl_tops sf p u ws)) (Q0a 1) (by first | exact Or.inl rfl | exact Or.inr (Or.inl rfl) | exact Or.inr (Or.inr rfl) | assumption) (by first | exact Or.inl rfl | exact Or.inr (Or.inl rfl) | exact Or.inr (Or.inr rfl) | assumption) T.b_zip)) (by rw [sizeLine_eq]; omega) (by exact λ q hq s H fp => ⟨[some _,some _],rfl,(Q2I (Q0w (Q0t 0 (show List.Nodup (["kept","what","self","own","so"] : List Str) by decide +kernel)) (Q0w (Q0t 1 (show List.Nodup (["kept","what","self","own","so"] : List Str) by decide +kernel)) Q1S))),⟨_,rfl,(Q0j (Q0a 0) (Ev.evp (Q1R F_times (hr.mono (by decide)) (Q0b (Q0a 2) (Q0b (Q0a 3) (Q0b (Q0a 1) (Q0b (Q0a 4) Q0e)))) ⟨_,_,_,_,_,_,q.2,_,rfl,hW,hp,hd,hso,hin q hq,rfl,rfl⟩)) (Q1O (hi q hq)))⟩⟩)) Q0e) (Q1G (by first | exact Or.inr rfl | exact Or.inl (Or.inl rfl) | exact Or.inl (Or.inr (Or.inl rfl)) | exact Or.inl (Or.inr (Or.inr ⟨_,rfl,by first | assumption | rfl⟩))))) (Q0a 0) hW (cv T.c_Weigher.cls T.c_Shifter.cls sf) (nv T.n_Weigher_tops T.n_Shifter_tops sf) (vlen ..) ?_)
  have e1 : ((ws.zip said).map λ q : Int × Option Int => D.int (q.1 * tF p.t p.b p.sc dd so q.2)) = (Q2G p.t p.b p.sc dd so said ws).map D.int := by
   unfold Q2G
   rw [List.map_map]
   rfl
  rw [e1,vput_tops]
  have h1 := tS_ok (own := dd) hf hd.2
  have hW2 : (O.set jj (some (MO.ins (wsC CK5 CK3 sf) (wsF sf p (Q2G p.t p.b p.sc dd so said ws) u))))[jj]? = some (some (.ins (wsC CK5 CK3 sf) (wsF sf p (Q2G p.t p.b p.sc dd so said ws) u))) := Q1H hW
  refine Q0c (Q2x (Q0j (Q0o (Q0a 0) hW2 (cv T.c_Weigher.cls T.c_Shifter.cls sf) (nv T.n_Weigher_under T.n_Shifter_under sf) (vl_under sf p u _)) (Ev.evp (Q1R F_times_asleep (hr.mono (by decide)) (Q0b (Q0a 0) (Q0b (Q0a 3) Q0e)) ⟨jj,sf,p,u,dd,_,rfl,hW2,hp,hd,rfl,rfl⟩)) (Q1O (mulP hwo.u0 hwo.u1 h1.1 h1.2 (by omega)))) (Q0a 0) hW2 (cv T.c_Weigher.cls T.c_Shifter.cls sf) (nv T.n_Weigher_under T.n_Shifter_under sf) (vlen ..) ?_)
  rw [List.set_set,vput_under]
  exact Q0p hR
theorem ok_Shifter_deal (Fn : Fun K "deal" "Shifter.deal" Q1j f fd)  : FnOk P w K mg base CX0 1 f fd ["self"] (toSp K (spDealS CK3)) := by
 refine okF (k := 0) Fn Q2r (λ ds O R h => ?_) (λ cdv A outer s H E ds O R hr h => ?_)
 ·obtain ⟨_,_,_,_,rfl,_⟩ := h; rfl
 ·obtain ⟨jj,p,u,ws,rfl,hW,hp,hl,hR⟩ := h
  have hk := kept_ok hp
  have p1 := hp.h1; have p2 := hp.h2; have p3 := hp.h3; have m1 := hp.m1; have m2 := hp.m2
  refine Q0c (Q0J 1 (EvP.ev (Q0j (Q0o (Q0a 0) hW T.c_Shifter.cls T.n_Shifter_share (zl_share p u ws)) (Q0v T.b_sum (Q0b (Q0o (Q0a 0) hW T.c_Shifter.cls T.n_Shifter_tops (zl_tops p u ws)) Q0e) (c_sum (Or.inr rfl))) (Q1O (CMul.ok (Or.inl ⟨by omega,by omega⟩)))) ?_) Q2r.nd)
  refine Q0c (Q0J 2 (EvP.ev (Q0j (Q0o (Q0a 0) hW T.c_Shifter.cls T.n_Shifter_many (zl_many p u ws)) (Q0j (Q0o (Q0a 0) hW T.c_Shifter.cls T.n_Shifter_parts (zl_parts p u ws)) (Q0o (Q0a 0) hW T.c_Shifter.cls T.n_Shifter_share (zl_share p u ws)) o_sub) (Q1O (CMul.ok (Or.inl ⟨by omega,by omega⟩)))) ?_) Q2r.nd)
  refine Q0c (Q2x (Q0K T.b_tuple (Q0b (Q0Z (λ w : Int => .int (w * (p.m * (p.pa - p.sh)) + p.sh * ws.sum)) ["one"] ["kept","dealt"] [2,1] (Q3I (Q0o (Q0a 0) hW T.c_Shifter.cls T.n_Shifter_tops (zl_tops p u ws)) (by first | exact Or.inl rfl | exact Or.inr (Or.inl rfl) | exact Or.inr (Or.inr rfl) | assumption)) (by rw [sizeLine_eq]; omega) (by exact λ q hq s H fp => ⟨[some _],rfl,(Q0t 0 (show List.Nodup (["one","kept","dealt"] : List Str) by decide +kernel)),⟨_,rfl,(Q0j (Q0j (Q0a 0) (Q0a 1) (Q1O (CMul.ok (Or.inr ⟨by omega,by omega⟩)))) (Q0a 2) Q1P)⟩⟩)) Q0e) (Q1G (by first | exact Or.inr rfl | exact Or.inl (Or.inl rfl) | exact Or.inl (Or.inr (Or.inl rfl)) | exact Or.inl (Or.inr (Or.inr ⟨_,rfl,by first | assumption | rfl⟩))))) (Q0a 0) hW T.c_Shifter.cls T.n_Shifter_tops (by show 8 < 1000; decide) ?_)
  have e1 : (ws.map λ w : Int => D.int (w * (p.m * (p.pa - p.sh)) + p.sh * ws.sum)) = (dealL p ws).map D.int := by
   unfold dealL
   rw [List.map_map]
   rfl
  rw [e1,sput_tops]
  have hW2 : (O.set jj (some (MO.ins CK3 (shiF p (dealL p ws) u))))[jj]? = some (some (.ins CK3 (shiF p (dealL p ws) u))) := Q1H hW
  refine Q0c (Q2x (Q0j (Q0j (Q0o (Q0a 0) hW2 T.c_Shifter.cls T.n_Shifter_under (zl_under p u _)) (Q0o (Q0a 0) hW2 T.c_Shifter.cls T.n_Shifter_many (zl_many p u _)) (Q1O (CMul.ok (Or.inr ⟨by omega,by omega⟩)))) (Q0o (Q0a 0) hW2 T.c_Shifter.cls T.n_Shifter_parts (zl_parts p u _)) (Q1O (CMul.ok (Or.inr ⟨by omega,by omega⟩)))) (Q0a 0) hW2 T.c_Shifter.cls T.n_Shifter_under (by show 8 < 1000; decide) ?_)
  rw [List.set_set,sput_under]
  exact Q0p hR
theorem ok_Weigher_hear (Fn : Fun K "hear" "Weigher.hear" Q1g f fd)  (F_check_turn : Q0m P w K mg base 5 "check_turn" (Q0i Q1r)) (M_Weigher_weigh : Q0h P w K mg base CK5 7 "weigh" (Q3s CK5 CK3)) : FnOk P w K mg base CX0 8 f fd ["self","said","so"] (toSp K (Q1q CK5 CK3 false)) := by
 refine okF (k := 7) Fn sc_Weigher_hear (λ ds O R h => ?_) (λ cdv A outer s H E ds O R hr h => ?_)
 ·obtain ⟨_,_,_,_,_,_,_,rfl,_⟩ := h; rfl
 ·obtain ⟨jj,n,p,u,so,said,ws,rfl,hW,hp,hn,hwo,hl,hs,hso,hR⟩ := h
  have hW' : O[jj]? = some (some (.ins CK5 (Q1B p.m p.sc p.t p.b ws u))) := hW
  refine Q0c (Q0D (EvP.ev (Q0g F_check_turn (hr.mono (by decide)) (Q0b (Q0o (Q0a 0) hW' T.c_Weigher.cls T.n_Weigher_many (wl_many ..)) (Q0b (Q0o (Q0a 0) hW' T.c_Weigher.cls T.n_Weigher_scale (wl_scale ..)) (Q0b (Q0a 1) (Q0b (Q0a 2) Q0e)))) ⟨_,_,_,_,rfl,by assumption,by assumption,rfl⟩) ?_))
  exact Q0c (Q0D (Q1F M_Weigher_weigh (hr.mono (by decide)) (Q0a 0) hW' (wl_no _ _ _ _ _ _ (by decide +kernel)) (Q0b (Q0a 1) (Q0b (Q0a 2) Q0e)) ⟨jj,n,false,p,u,so,said,ws,rfl,hW,hp,hn,hwo,hl,hs,hso,Q0p hR⟩))
theorem ok_Shifter_hear (Fn : Fun K "hear" "Shifter.hear" Q1i f fd)  (F_check_turn : Q0m P w K mg base 5 "check_turn" (Q0i Q1r)) (M_Shifter_weigh : Q0h P w K mg base CK3 7 "weigh" (Q3s CK5 CK3)) (M_Shifter_deal : Q0h P w K mg base CK3 1 "deal" (spDealS CK3)) : FnOk P w K mg base CX0 8 f fd ["self","said","so"] (toSp K (Q1q CK5 CK3 true)) := by
 refine okF (k := 7) Fn sc_Shifter_hear (λ ds O R h => ?_) (λ cdv A outer s H E ds O R hr h => ?_)
 ·obtain ⟨_,_,_,_,_,_,_,rfl,_⟩ := h; rfl
 ·obtain ⟨jj,n,p,u,so,said,ws,rfl,hW0,hp0,hn,hwo,hl,hs,hso,hR⟩ := h
  have hW : SAt CK3 O jj p ws u := hW0
  have hp := hp0.so
  refine Q0c (Q0D (EvP.ev (Q0g F_check_turn (hr.mono (by decide)) (Q0b (Q0o (Q0a 0) hW T.c_Shifter.cls T.n_Shifter_many (zl_many p u ws)) (Q0b (Q0o (Q0a 0) hW T.c_Shifter.cls T.n_Shifter_scale (zl_scale p u ws)) (Q0b (Q0a 1) (Q0b (Q0a 2) Q0e)))) ⟨_,_,_,_,rfl,by assumption,by assumption,rfl⟩) ?_))
  refine Q0c (Q0D (Q1F M_Shifter_weigh (hr.mono (by decide)) (Q0a 0) hW (zl_no p u ws (by decide +kernel)) (Q0b (Q0a 1) (Q0b (Q0a 2) Q0e)) ⟨jj,n,true,p,u,so,said,ws,rfl,hW0,hp0,hn,hwo,hl,hs,hso,?_⟩))
  have hW2 : SAt CK3 (O.set jj (some (.ins CK3 (shiF p (Q2G p.t p.b p.sc (ab (midA said ws - so)) so said ws) (u * tS p.t p.b p.sc (ab (midA said ws - so))))))) jj p (Q2G p.t p.b p.sc (ab (midA said ws - so)) so said ws) (u * tS p.t p.b p.sc (ab (midA said ws - so))) := Q1H hW
  have hs1 := hs.1
  have h24 := hs.2.1
  have hnl := Q3m (t := p.t) (b := p.b) (sc := p.sc) (dd := ab (midA said ws - so)) (so := so) (show ws.length = said.length by omega)
  refine Q0c (Q0D (Q1Q M_Shifter_deal (hr.mono (by decide)) (Q0a 0) hW2 (zl_no p _ _ (by decide +kernel)) ⟨jj,p,_,_,rfl,hW2,hp,by omega,?_⟩))
  rw [List.set_set]
  exact Q0p hR
theorem ok_Weigher_anew (Fn : Fun K "anew" "Weigher.anew" Q1h f fd)  (K_Weigher : Q1C P w K mg base CK5 6 "Weigher" (Q2B CK5 CK3)) : FnOk P w K mg base CX0 9 f fd ["self"] (toSp K (Q1E CK5 CK3 false)) := by
 refine okF (k := 8) Fn sc_Weigher_anew (λ ds O R h => ?_) (λ cdv A outer s H E ds O R hr h => ?_)
 ·obtain ⟨_,_,_,_,rfl,_⟩ := h; rfl
 ·obtain ⟨jj,p,u,ws,rfl,hW,hp,hR⟩ := h
  have hW' : O[jj]? = some (some (.ins CK5 (Q1B p.m p.sc p.t p.b ws u))) := hW
  refine Q0c (Q0y (Q2d K_Weigher (hr.mono (by decide)) (Q0b (Q0o (Q0a 0) hW' T.c_Weigher.cls T.n_Weigher_many (wl_many ..)) (Q0b (Q0o (Q0a 0) hW' T.c_Weigher.cls T.n_Weigher_scale (wl_scale ..)) (Q0b (Q0o (Q0a 0) hW' T.c_Weigher.cls T.n_Weigher_top (wl_top ..)) (Q0b (Q0o (Q0a 0) hW' T.c_Weigher.cls T.n_Weigher_bottom (wl_bottom ..)) Q0e)))) ⟨O.length,false,p,rfl,st0,hp,rfl,?_⟩))
  rw [ss0]
  exact hR
theorem ok_Shifter_anew (Fn : Fun K "anew" "Shifter.anew" Q1k f fd)  (K_Shifter : Q1C P w K mg base CK3 7 "Shifter" (spInitS CK3)) : FnOk P w K mg base CX0 9 f fd ["self"] (toSp K (Q1E CK5 CK3 true)) := by
 refine okF (k := 8) Fn sc_Shifter_anew (λ ds O R h => ?_) (λ cdv A outer s H E ds O R hr h => ?_)
 ·obtain ⟨_,_,_,_,rfl,_⟩ := h; rfl
 ·obtain ⟨jj,p,u,ws,rfl,hW0,hp0,hR⟩ := h
  have hW : SAt CK3 O jj p ws u := hW0
  have hp := hp0.so
  refine Q0c (Q0y (Q2d K_Shifter (hr.mono (by decide)) (Q0b (Q0o (Q0a 0) hW T.c_Shifter.cls T.n_Shifter_many (zl_many p u ws)) (Q0b (Q0o (Q0a 0) hW T.c_Shifter.cls T.n_Shifter_scale (zl_scale p u ws)) (Q0b (Q0o (Q0a 0) hW T.c_Shifter.cls T.n_Shifter_top (zl_top p u ws)) (Q0b (Q0o (Q0a 0) hW T.c_Shifter.cls T.n_Shifter_bottom (zl_bottom p u ws)) (Q0b (Q0o (Q0a 0) hW T.c_Shifter.cls T.n_Shifter_share (zl_share p u ws)) (Q0b (Q0o (Q0a 0) hW T.c_Shifter.cls T.n_Shifter_parts (zl_parts p u ws)) Q0e)))))) ⟨O.length,p,rfl,st0,hp,rfl,?_⟩))
  rw [ss0]
  exact hR
theorem Q3G (Fn : FunD K "__init__" "Follower.__init__" Q0F f fd [.none])  (F_push_of : Q0m P w K mg base 4 "push_of" (Q0i spPushOf)) (O_Hand___init__ : OfCls P w K mg base "Hand" 5 "__init__" (Q2a (λ C => C = CK1 \/ C = CK5 \/ C = CK3 \/ C = CK2 \/ C = CK4 \/ C = CK0))) : FnOk P w K mg base CX0 6 f fd ["self","many","scale","push"] (toSp K (spInitF CK0)) := by
 refine okFD (k := 5) Fn Q3E (λ ds O R h => ?_) (λ cdv A outer s H E ds O R hr h => ?_)
 ·obtain ⟨_,_,_,_,rfl,_⟩ := h; rfl
 ·obtain ⟨q,m,s,po,rfl,hq,hm,hs,hp,hR⟩ := h
  refine Q0c (Q0D (Q4l O_Hand___init__ (hr.mono (by decide)) (Q0b (Q0a 0) (Q0b (Q0a 1) (Q0b (Q0a 2) Q0e))) ⟨q,m,s,CK0,rfl,.inr (.inr (.inr (.inr (.inr rfl)))),hq,hm,hs,?_⟩))
  refine Q0c (Q2x (Q0g F_push_of (hr.mono (by decide)) (Q0b (Q0a 1) (Q0b (Q0a 3) Q0e)) ⟨m,po,rfl,hm,hp,rfl⟩) (Q0a 0) (Q1H hq) T.c_Follower.cls T.n_Follower_push (by show 2 < 1000; decide) ?_)
  rw [List.set_set,show Q2c m s = g2 m s from rfl,put_g3]
  have q3 := Q1H (y := some (.ins CK0 (g3 m s (.tup ((poL m po).map D.int))))) hq
  refine Q0c (Q2x (Q0o (Q0a 0) q3 T.c_Follower.cls T.n_Follower_push (g3_push _ _ _)) (Q0a 0) q3 T.c_Follower.cls T.n_Follower_reached (by show 3 < 1000; decide) ?_)
  rw [List.set_set,put_g4]
  exact Q0p hR
theorem ok_Follower_say (Fn : Fun K "say" "Follower.say" Q1n f fd)  (F_check_said : Q0m P w K mg base 4 "check_said" (Q0i Q2n)) (F_awake_in : Q0m P w K mg base 1 "awake_in" (Q0i spAwake)) (F_first_least : Q0m P w K mg base 1 "first_least" (Q0i spFirst)) : FnOk P w K mg base CX0 5 f fd ["self","said"] (toSp K (Q4J CK0)) := by
 refine okF (k := 4) Fn Q3k (λ ds O R h => ?_) (λ cdv A outer s H E ds O R hr h => ?_)
 ·obtain ⟨_,_,_,_,_,_,rfl,_⟩ := h; rfl
 ·obtain ⟨q,m,s,ps,sc,said,rfl,hq,hm,hs,hl,hR⟩ := h
  have hs1 := hs.1
  have h24 : said.length <= 24 := by have := hs.2.1; omega
  have hal := ax_len said
  refine Q0c (Q0D (EvP.ev (Q0g F_check_said (hr.mono (by decide)) (Q0b (Q0o (Q0a 0) hq T.c_Follower.cls T.n_Follower_many (fl_many m s ps sc)) (Q0b (Q0o (Q0a 0) hq T.c_Follower.cls T.n_Follower_scale (Q5l m s ps sc)) (Q0b (Q0a 1) Q0e))) ⟨_,_,_,rfl,by assumption,rfl⟩) ?_))
  refine Q0c (Q0J 2 (EvP.ev (Q0g F_awake_in (hr.mono (by decide)) (Q0b (Q0a 1) Q0e) ⟨_,rfl,by assumption,rfl⟩) ?_) Q3k.nd)
  refine Q0c (x_if (Q0A (Q0v T.b_len (Q0b (Q0a 2) Q0e) (Q3q (by first | exact Or.inr rfl | exact Or.inl (Or.inl rfl) | exact Or.inl (Or.inr (Or.inl rfl)) | exact Or.inl (Or.inr (Or.inr ⟨_,rfl,by first | assumption | rfl⟩))))) Q0f Q0M) (λ hk => ?_) (λ hk => Q0p ?_))
  ·have hk := of_decide_eq_true hk
   rw [List.length_map] at hk
   rw [sayV_none (List.length_eq_zero_iff.mp (by omega))] at hR
   exact Q0c (Q0y (EvP.ev Q0f hR))
  ·have hk := of_decide_eq_false hk
   rw [List.length_map] at hk
   obtain ⟨k,_,hf⟩ := flx_fl sc (ax said) (ax_pw said) (λ z => hk (by rw [z]; rfl))
   rw [sayV_some hf] at hR
   have hb : ∀ k ∈ ax said,k < sc.length := λ k hk => by have := ax_lt hk; omega
   exact Q0c (Q0y (EvP.ev (Q2E (Q0a 1) (Q0g F_first_least (hr.mono (by decide)) (Q0b (Q0o (Q0a 0) hq T.c_Follower.cls T.n_Follower_reached (fl_reached m s ps sc)) (Q0b (Q0a 2) Q0e)) ⟨sc,ax said,k,rfl,by omega,hb,hf,rfl⟩) (at_ax hf.1)) hR))
theorem Q4W (Fn : Fun K "hear" "Follower.hear" Q0W f fd)  (F_check_turn : Q0m P w K mg base 5 "check_turn" (Q0i Q1r)) (F_charge : Q0m P w K mg base 1 "charge" (Q0i Q2V)) : FnOk P w K mg base CX0 6 f fd ["self","said","so"] (toSp K (Q3f CK0)) := by
 refine okF (k := 5) Fn Q4R (λ ds O R h => ?_) (λ cdv A outer s H E ds O R hr h => ?_)
 ·obtain ⟨_,_,_,_,_,_,_,rfl,_⟩ := h; rfl
 ·obtain ⟨jj,m,s,so,ps,sc,said,rfl,hO,hm,hs,hso,hl,hR⟩ := h
  have hs1 := hs.1
  have hzl : (sc.zip said).length <= 63 := by rw [List.length_zip]; omega
  refine Q0c (Q0D (EvP.ev (Q0g F_check_turn (hr.mono (by decide)) (Q0b (Q0o (Q0a 0) hO T.c_Follower.cls T.n_Follower_many (fl_many m s ps sc)) (Q0b (Q0o (Q0a 0) hO T.c_Follower.cls T.n_Follower_scale (Q5l m s ps sc)) (Q0b (Q0a 1) (Q0b (Q0a 2) Q0e)))) ⟨_,_,_,_,rfl,by assumption,by assumption,rfl⟩) ?_))
  refine Q0c (Q2x (Q0K T.b_tuple (Q0b (Q0Z (λ p : Int × Option Int => .int (p.1 + chg p.2 so)) ["score","what"] ["so"] [2] (ei_Z (Q3o (Q0o (Q0a 0) hO T.c_Follower.cls T.n_Follower_reached (fl_reached m s ps sc)) (Q0a 1) (by first | exact Or.inl rfl | exact Or.inr (Or.inl rfl) | exact Or.inr (Or.inr rfl) | assumption) (by first | exact Or.inl rfl | exact Or.inr (Or.inl rfl) | exact Or.inr (Or.inr rfl) | assumption) T.b_zip)) (by rw [sizeLine_eq]; omega) (by exact λ q hq s H fp => ⟨[some _,some _],rfl,(Q2I (Q0w (Q0t 0 (show List.Nodup (["score","what","so"] : List Str) by decide +kernel)) (Q0w (Q0t 1 (show List.Nodup (["score","what","so"] : List Str) by decide +kernel)) Q1S))),⟨_,rfl,(Q0j (Q0a 0) (Q0g F_charge (hr.mono (by decide)) (Q0b (Q0a 1) (Q0b (Q0a 2) Q0e)) ⟨_,_,rfl,rfl⟩) Q1P)⟩⟩)) Q0e) (Q1G (by first | exact Or.inr rfl | exact Or.inl (Or.inl rfl) | exact Or.inl (Or.inr (Or.inl rfl)) | exact Or.inl (Or.inr (Or.inr ⟨_,rfl,by first | assumption | rfl⟩))))) (Q0a 0) hO T.c_Follower.cls T.n_Follower_reached (by show 4 < 1000; decide) ?_)
  have e1 : ((sc.zip said).map λ p : Int × Option Int => D.int (p.1 + chg p.2 so)) = (nextS said so sc).map D.int := by
   unfold nextS
   rw [List.map_map]
   rfl
  rw [e1,fput]
  exact Q0p hR
theorem Q4X (Fn : Fun K "anew" "Follower.anew" Q0X f fd)  (K_Follower : Q1C P w K mg base CK0 6 "Follower" (spInitF CK0)) : FnOk P w K mg base CX0 8 f fd ["self"] (toSp K (Q3P CK0)) := by
 refine okF (k := 7) Fn Q4S (λ ds O R h => ?_) (λ cdv A outer s H E ds O R hr h => ?_)
 ·obtain ⟨_,_,_,_,_,rfl,_⟩ := h; rfl
 ·obtain ⟨q,m,s,ps,sc,rfl,hq,hm,hs,hp,hR⟩ := h
  refine Q0c (Q0y (Q2d K_Follower (hr.mono (by decide)) (Q0b (Q0o (Q0a 0) hq T.c_Follower.cls T.n_Follower_many (fl_many m s ps sc)) (Q0b (Q0o (Q0a 0) hq T.c_Follower.cls T.n_Follower_scale (Q5l m s ps sc)) (Q0b (Q0o (Q0a 0) hq T.c_Follower.cls T.n_Follower_push (fl_push m s ps sc)) Q0e))) ⟨O.length,m,s,some ps,rfl,st0,hm,hs,hp,rfl,?_⟩))
  rw [ss0]
  exact hR
theorem ok_are_alike (Fn : Fun K "are_alike" "are_alike" Q1U f fd) (hm : mg "are_alike" = some (.ref f)) (hb : Q0C K fd ["hands"] []) : Q0m P w K mg base 1 "are_alike" (spAlikeT ⟨CK1,CK5,CK3,CK2,CK4,CK0⟩) := by
 refine okD (k := 0) Fn sc_are_alike hm hb (λ ds O R h => ?_) (λ cdv A outer s H E ds O R hr h => ?_)
 ·obtain ⟨_,_,_,rfl,_⟩ := h; rfl
 ·obtain ⟨m,s,pv,rfl,hP,hl,hR⟩ := h
  have hz : pv.length <= sizeLine := by rw [sizeLine_eq]; omega
  refine Q0c (x_if (EvT.cast (k' := false) (EvW.t (ew_or (Q2u (Q3c (Q0v T.b_isinstance (Q0b (Q0a 0) (Q0b (Q2X T.b_tuple) Q0e)) (Q2v rfl)))) (λ hbb => (Q4M (Q0A (Q0v T.b_len (Q0b (Q0a 0) Q0e) (Q3q (by first | exact Or.inr rfl | exact Or.inl (Or.inl rfl) | exact Or.inl (Or.inr (Or.inl rfl)) | exact Or.inl (Or.inr (Or.inr ⟨_,rfl,by first | assumption | rfl⟩))))) Q0f Q0M))))) (by show (false || decide _) = false; rw [List.length_map,decide_eq_false (by omega)]; rfl)) (λ hk => by cases hk) (λ _ => Q0p ?_))
  have ea : (pv.map λ _ => true).all id = true := by rw [List.all_map]; exact List.all_eq_true.mpr λ _ _ => rfl
  refine Q0c (x_if (EvT.cast (k' := false) (Q2u (Q3c (Q0v T.b_all (Q0b (Q0Z (λ _ : Nat × Hv => .bl true) ["hand"] [] [] (Q3I (Q0a 0) (by first | exact Or.inl rfl | exact Or.inr (Or.inl rfl) | exact Or.inr (Or.inr rfl) | assumption)) hz (by exact λ q hq s H fp => ⟨[some _],rfl,(Q0t 0 (show List.Nodup (["hand"] : List Str) by decide +kernel)),⟨_,rfl,(ev_isHv T.b_isinstance (Q0a 0) (hP q hq).1 T.c_Hand T.c_Weigher T.c_Shifter T.c_Rounder T.m_Hand T.i_Hand_Hand T.i_Weigher_Hand T.i_Shifter_Hand T.i_Rounder_Hand T.c_Follower T.i_Follower_Hand)⟩⟩)) Q0e) (c_all (bs := pv.map λ _ => true) (Or.inl (Or.inl (by rw [List.map_map]; rfl))))))) (by rw [ea]; rfl)) (λ hk => by cases hk) (λ _ => Q0p ?_))
  obtain ⟨x0,h0⟩ : ∃ x,pv[0]? = some x := ⟨_,List.getElem?_eq_getElem (by omega)⟩
  have hx0 := hP x0 (List.mem_of_getElem? h0)
  have hat : atI (pv.map λ x => D.ptr x.1) 0 = some (.ptr x0.1) := Q4G (j := 0) (by rw [List.getElem?_map,h0]; rfl)
  obtain ⟨n0,ok0⟩ := hx0.2
  refine Q0c (Q0y (EvP.ev (Q0v T.b_all (Q0b (Q0Z (λ _ : Nat × Hv => .bl (decide (((m : Nat) : Int) = (m : Nat)) && decide (s = s))) ["hand"] ["hands"] [0] (Q3I (Q0a 0) (by first | exact Or.inl rfl | exact Or.inr (Or.inl rfl) | exact Or.inr (Or.inr rfl) | assumption)) hz (by exact λ q hq s H fp => ⟨[some _],rfl,(Q0t 0 (show List.Nodup (["hand","hands"] : List Str) by decide +kernel)),⟨_,rfl,(Q3L (Q3a (Q4m T.c_Hand.cls T.c_Weigher.cls T.c_Shifter.cls T.c_Rounder.cls T.n_Hand_many T.n_Weigher_many T.n_Shifter_many T.n_Rounder_many T.c_Follower.cls T.n_Follower_many (Q0a 0) (hP q hq).1 (hP q hq).2.choose_spec) (Q4m T.c_Hand.cls T.c_Weigher.cls T.c_Shifter.cls T.c_Rounder.cls T.n_Hand_many T.n_Weigher_many T.n_Shifter_many T.n_Rounder_many T.c_Follower.cls T.n_Follower_many (Q2E (Q0a 1) Q0f (hat)) hx0.1 ok0) Q0M) (λ hbb => (Q3K (Q3a (Q2T T.c_Hand.cls T.c_Weigher.cls T.c_Shifter.cls T.c_Rounder.cls T.n_Hand_scale T.n_Weigher_scale T.n_Shifter_scale T.n_Rounder_scale T.c_Follower.cls T.n_Follower_scale (Q0a 0) (hP q hq).1 (hP q hq).2.choose_spec) (Q2T T.c_Hand.cls T.c_Weigher.cls T.c_Shifter.cls T.c_Rounder.cls T.n_Hand_scale T.n_Weigher_scale T.n_Shifter_scale T.n_Rounder_scale T.c_Follower.cls T.n_Follower_scale (Q2E (Q0a 1) Q0f (hat)) hx0.1 ok0) Q0M))))⟩⟩)) Q0e) (c_all (bs := pv.map λ _ => true) (Or.inl (Or.inl (by rw [List.map_map,decide_eq_true rfl,decide_eq_true rfl]; rfl))))) ?_))
  rw [ea]
  exact hR
theorem ok_is_head (Fn : Fun K "is_head" "is_head" Q2R f fd) (hm : mg "is_head" = some (.ref f)) (hb : Q0C K fd ["hands","head"] []) : Q0m P w K mg base 1 "is_head" (spIsHeadT ⟨CK1,CK5,CK3,CK2,CK4,CK0⟩) := by
 refine okD (k := 0) Fn sc_is_head hm hb (λ ds O R h => ?_) (λ cdv A outer s H E ds O R hr h => ?_)
 ·obtain ⟨_,_,_,_,_,rfl,_⟩ := h; rfl
 ·obtain ⟨m,s,pv,hp,hd,rfl,hP,hD,hl,hR⟩ := h
  obtain ⟨x0,h0⟩ : ∃ x,pv[0]? = some x := ⟨_,List.getElem?_eq_getElem (by omega)⟩
  have hx0 := hP x0 (List.mem_of_getElem? h0)
  have hat : atI (pv.map λ x => D.ptr x.1) 0 = some (.ptr x0.1) := Q4G (j := 0) (by rw [List.getElem?_map,h0]; rfl)
  obtain ⟨n0,ok0⟩ := hx0.2
  have hd0 := hD (hp,hd) (List.mem_singleton.mpr rfl)
  obtain ⟨n1,ok1⟩ := hd0.2
  refine Q0c (Q0y (EvP.ev (Q3L (ev_isHv T.b_isinstance (Q0a 1) hd0.1 T.c_Hand T.c_Weigher T.c_Shifter T.c_Rounder T.m_Hand T.i_Hand_Hand T.i_Weigher_Hand T.i_Shifter_Hand T.i_Rounder_Hand T.c_Follower T.i_Follower_Hand) (λ hbb => (Q3L (Q3a (Q4m T.c_Hand.cls T.c_Weigher.cls T.c_Shifter.cls T.c_Rounder.cls T.n_Hand_many T.n_Weigher_many T.n_Shifter_many T.n_Rounder_many T.c_Follower.cls T.n_Follower_many (Q0a 1) hd0.1 ok1) (Q0v T.b_len (Q0b (Q0a 0) Q0e) (Q3q (by first | exact Or.inr rfl | exact Or.inl (Or.inl rfl) | exact Or.inl (Or.inr (Or.inl rfl)) | exact Or.inl (Or.inr (Or.inr ⟨_,rfl,by first | assumption | rfl⟩))))) Q0M) (λ hbb => (Q3K (Q3a (Q2T T.c_Hand.cls T.c_Weigher.cls T.c_Shifter.cls T.c_Rounder.cls T.n_Hand_scale T.n_Weigher_scale T.n_Shifter_scale T.n_Rounder_scale T.c_Follower.cls T.n_Follower_scale (Q0a 1) hd0.1 ok1) (Q2T T.c_Hand.cls T.c_Weigher.cls T.c_Shifter.cls T.c_Rounder.cls T.n_Hand_scale T.n_Weigher_scale T.n_Shifter_scale T.n_Rounder_scale T.c_Follower.cls T.n_Follower_scale (Q2E (Q0a 0) Q0f (hat)) hx0.1 ok0) Q0M)))))) ?_))
  rw [List.length_map,decide_eq_true rfl,decide_eq_true rfl]
  exact hR
theorem ok_check_tier (Fn : Fun K "check_tier" "check_tier" Q1K f fd) (hm : mg "check_tier" = some (.ref f)) (hb : Q0C K fd ["hands","head"] []) (F_are_alike : Q0m P w K mg base 1 "are_alike" (spAlikeT ⟨CK1,CK5,CK3,CK2,CK4,CK0⟩)) (F_is_head : Q0m P w K mg base 1 "is_head" (spIsHeadT ⟨CK1,CK5,CK3,CK2,CK4,CK0⟩)) : Q0m P w K mg base 2 "check_tier" (spTier ⟨CK1,CK5,CK3,CK2,CK4,CK0⟩) := by
 refine okD (k := 1) Fn sc_check_tier hm hb (λ ds O R h => ?_) (λ cdv A outer s H E ds O R hr h => ?_)
 ·obtain ⟨_,_,_,_,_,rfl,_⟩ := h; rfl
 ·obtain ⟨m,s,pv,hp,hd,rfl,hP,hD,hm,hs,hl,hR⟩ := h
  exact Q0c (x_if (EvT.cast (k' := false) (EvW.t (ew_or (Q2u (Q3c (Ev.evp (Q1R F_are_alike (hr.mono (by decide)) (Q0b (Q0a 0) Q0e) ⟨m,s,pv,rfl,hP,hl,rfl,rfl⟩)))) (λ hbb => (Q4M (Q2u (Q3c (Ev.evp (Q1R F_is_head (hr.mono (by decide)) (Q0b (Q0a 0) (Q0b (Q0a 1) Q0e)) ⟨m,s,pv,hp,hd,rfl,hP,hD,hl,rfl,rfl⟩)))))))) rfl) (λ hk => by cases hk) (λ _ => Q0p (Q0p hR)))
theorem Q4U (Fn : Fun K "__init__" "Tier.__init__" Q0U f fd)  (F_check_tier : Q0m P w K mg base 2 "check_tier" (spTier ⟨CK1,CK5,CK3,CK2,CK4,CK0⟩)) (O_Hand___init__ : OfCls P w K mg base "Hand" 5 "__init__" (Q2a (λ C => C = CK1 \/ C = CK5 \/ C = CK3 \/ C = CK2 \/ C = CK4 \/ C = CK0))) (M_Hand_anew : Q0h P w K mg base CK1 7 "anew" (Q3O CK1)) (M_Weigher_anew : Q0h P w K mg base CK5 9 "anew" (Q1E CK5 CK3 false)) (M_Shifter_anew : Q0h P w K mg base CK3 9 "anew" (Q1E CK5 CK3 true)) (M_Rounder_anew : Q0h P w K mg base CK2 8 "anew" (Q3N CK2)) (M_Follower_anew : Q0h P w K mg base CK0 8 "anew" (Q3P CK0)) : FnOk P w K mg base CX0 10 f fd ["self","hands","head"] (toSp K (spInitT ⟨CK1,CK5,CK3,CK2,CK4,CK0⟩)) := by
 refine okF (k := 9) Fn Q4P (λ ds O R h => ?_) (λ cdv A outer s H E ds O R hr h => ?_)
 ·obtain ⟨_,_,_,_,_,_,_,rfl,_⟩ := h; rfl
 ·obtain ⟨q,m,s,pv,hp,hd,O0,rfl,rfl,rfl,hP,hD,hm,hs,hl,hR⟩ := h
  have hz : pv.length <= sizeLine := by rw [sizeLine_eq]; omega
  have hmI : (1 : Int) <= (m : Nat) /\ ((m : Nat) : Int) <= 24 := ⟨by omega,by omega⟩
  refine Q0c (Q0D (EvP.ev (Ev.evp (Q1R F_check_tier (hr.mono (by decide)) (Q0b (Q0a 1) (Q0b (Q0a 2) Q0e)) ⟨m,s,pv,hp,hd,rfl,hP.app,hD.app,hm,hs,hl,rfl,rfl⟩)) ?_))
  obtain ⟨x0,h0⟩ : ∃ x,pv[0]? = some x := ⟨_,List.getElem?_eq_getElem (by omega)⟩
  have hx0 := hP.app (Y := [some (MO.ins CK4 [])]) x0 (List.mem_of_getElem? h0)
  have hat : atI (pv.map λ x => D.ptr x.1) 0 = some (.ptr x0.1) := Q4G (j := 0) (by rw [List.getElem?_map,h0]; rfl)
  obtain ⟨n0,ok0⟩ := hx0.2
  refine Q0c (Q0D (Q4l O_Hand___init__ (hr.mono (by decide)) (Q0b (Q0a 0) (Q0b (Q4m T.c_Hand.cls T.c_Weigher.cls T.c_Shifter.cls T.c_Rounder.cls T.n_Hand_many T.n_Weigher_many T.n_Shifter_many T.n_Rounder_many T.c_Follower.cls T.n_Follower_many (Q2E (Q0a 1) Q0f (hat)) hx0.1 ok0) (Q0b (Q2T T.c_Hand.cls T.c_Weigher.cls T.c_Shifter.cls T.c_Rounder.cls T.n_Hand_scale T.n_Weigher_scale T.n_Shifter_scale T.n_Rounder_scale T.c_Follower.cls T.n_Follower_scale (Q2E (Q0a 1) Q0f (hat)) hx0.1 ok0) Q0e))) ⟨O0.length,(m : Nat),s,CK4,rfl,.inr (.inr (.inr (.inr (.inl rfl)))),st0,hmI,hs,?_⟩))
  rw [ss0]
  have sub : ∀ Z,PvAt ⟨CK1,CK5,CK3,CK2,CK4,CK0⟩ (O0 ++ [some (MO.ins CK4 (Q2c (m : Nat) s))] ++ Z) m s pv := λ Z => hP.app.app
  have gd : ∀ Z,PvAt ⟨CK1,CK5,CK3,CK2,CK4,CK0⟩ (O0 ++ [some (MO.ins CK4 (Q2c (m : Nat) s))] ++ Z) pv.length s [(hp,hd)] := λ Z => hD.app.app
  refine Q0c (x_fldE (q := O0.length) (C := CK4) (fs := Q2c (m : Nat) s) (ev_callTyA T.b_tuple (es_consA (ev_compSM (λ i => .ptr (O0.length + 1 + i)) (λ i => O0 ++ [some (MO.ins CK4 (Q2c (m : Nat) s))] ++ (pv.take i).map λ x => some (Cs.o ⟨CK1,CK5,CK3,CK2,CK4,CK0⟩ (m : Nat) s (Q1p m x.2))) (by rw [List.take_zero,List.map_nil,List.append_nil]) ["hand"] [] [] (Q3I (Q0a 1) (by first | exact Or.inl rfl | exact Or.inr (Or.inl rfl) | exact Or.inr (Or.inr rfl) | assumption)) hz ?turn (EvPs.as Q0e ⟨_,Q1G (Or.inl (Or.inl rfl)),(Q0a 0),mid_at,?_⟩)))) T.c_Tier.cls T.n_Tier_hands (by show 2 < 1000; decide))
  case turn =>
   intro i x hx s2 H2 fp
   have hi := (List.getElem?_eq_some_iff.mp hx).1
   obtain ⟨n1,ok1⟩ := (hP x (List.mem_of_getElem? hx)).2
   refine ⟨[some (.ptr x.1)],rfl,Q0t 0 (show List.Nodup (["hand"] : List Str) by decide +kernel),ev_anewH M_Hand_anew M_Weigher_anew M_Shifter_anew M_Rounder_anew (hr.mono (by decide)) (hr.mono (by decide)) (hr.mono (by decide)) M_Follower_anew (hr.mono (by decide)) (Q0a 0) (sub _ x (List.mem_of_getElem? hx)).1 ok1 hm hs ⟨?_,?_⟩⟩
   ·show D.ptr _ = D.ptr _
    congr 1
    rw [List.length_append,List.length_append,List.length_map,List.length_take]
    show O0.length + 1 + _ = _
    omega
   ·show _ = O0 ++ _ ++ List.map _ (pv.take (i + 1))
    rw [List.take_succ,hx,List.map_append,<- List.append_assoc]
    rfl
  rw [mid_set,put_hands,List.take_of_length_le (Nat.le_refl _)]
  generalize hZ : (pv.map λ x => some (Cs.o ⟨CK1,CK5,CK3,CK2,CK4,CK0⟩ (m : Nat) s (Q1p m x.2))) = Z
  have hZl : Z.length = pv.length := by rw [<- hZ,List.length_map]
  have hd0 := hD (hp,hd) (List.mem_singleton.mpr rfl)
  obtain ⟨n2,ok2⟩ := hd0.2
  have hq2 : ∀ (y : Option MO) (Y : Sto),(O0 ++ [y] ++ Y)[hp]? = some (some (Cs.o ⟨CK1,CK5,CK3,CK2,CK4,CK0⟩ (pv.length : Nat) s hd)) := λ y Y => Q3M (Q3M hd0.1)
  refine Q0c (x_fldE (q := O0.length) (C := CK4) (fs := tieH (m : Nat) s (.tup ((List.range pv.length).map λ i => .ptr (O0.length + 1 + i)))) (ev_anewH M_Hand_anew M_Weigher_anew M_Shifter_anew M_Rounder_anew (hr.mono (by decide)) (hr.mono (by decide)) (hr.mono (by decide)) M_Follower_anew (hr.mono (by decide)) (Q0a 2) (hq2 _ _) ok2 hl hs ⟨(Q0a 0),?_,?_⟩) T.c_Tier.cls T.n_Tier_head (by show 3 < 1000; decide))
  ·exact Q3M mid_at
  rw [List.append_assoc (O0 ++ _) Z,mid_set,put_head,show (O0 ++ [some (MO.ins CK4 (tieH (m : Nat) s (.tup ((List.range pv.length).map λ i => .ptr (O0.length + 1 + i)))))] ++ Z).length = O0.length + 1 + pv.length by rw [List.length_append,List.length_append,hZl]; rfl]
  refine Q0c (Q2x (Q0j (Q2D (Q0b Q0f Q0e)) (Q0v T.b_len (Q0b (Q0a 1) Q0e) (Q3q (by first | exact Or.inr rfl | exact Or.inl (Or.inl rfl) | exact Or.inl (Or.inr (Or.inl rfl)) | exact Or.inl (Or.inr (Or.inr ⟨_,rfl,by first | assumption | rfl⟩))))) (o_repT (by rw [List.length_map]; omega) (by rw [List.length_map]; omega) (by simp) (by rw [sizeLine_eq,List.length_map,Int.toNat_natCast]; show 1 * _ <= _; omega))) (Q0a 0) mid_at T.c_Tier.cls T.n_Tier_charged (by show 4 < 1000; decide) ?_)
  rw [mid_set,List.length_map,Int.toNat_natCast,zeros,put_charged]
  refine Q0p ?_
  have e : newT ⟨CK1,CK5,CK3,CK2,CK4,CK0⟩ m s O0.length (pv.map (·.2)) hd = [some (MO.ins CK4 (tieF (m : Nat) s O0.length pv.length (List.replicate pv.length 0)))] ++ (Z ++ [some (Cs.o ⟨CK1,CK5,CK3,CK2,CK4,CK0⟩ (pv.length : Nat) s (Q1p pv.length hd))]) := by
   unfold newT
   rw [List.length_map,List.map_map,<- hZ]
   rfl
  rw [e,<- List.append_assoc] at hR
  exact hR
theorem Q3F (Fn : Fun K "hand_charges" "Tier.hand_charges" Q0E f fd)  : FnOk P w K mg base CX0 1 f fd ["self"] (toSp K (spChT ⟨CK1,CK5,CK3,CK2,CK4,CK0⟩)) := by
 refine okF (k := 0) Fn Q3D (λ ds O R h => ?_) (λ cdv A outer s H E ds O R hr h => ?_)
 ·obtain ⟨_,_,_,_,_,_,rfl,_⟩ := h; rfl
 ·obtain ⟨q,m,s,hs,hd,ch,rfl,hT,hR⟩ := h
  exact Q0c (Q0y (EvP.ev (Q0o (Q0a 0) hT.o T.c_Tier.cls T.n_Tier_charged (tl_charged _ _ _ _ _)) hR))
theorem ok_Tier_ask (Fn : Fun K "ask" "Tier.ask" Q2k f fd)  (M_Hand_say : Q0h P w K mg base CK1 6 "say" (Q0S CK1 CK5 CK3 CK2)) (M_Weigher_say : Q0h P w K mg base CK5 6 "say" (Q0S CK1 CK5 CK3 CK2)) (M_Shifter_say : Q0h P w K mg base CK3 6 "say" (Q0S CK1 CK5 CK3 CK2)) (M_Rounder_say : Q0h P w K mg base CK2 6 "say" (Q0S CK1 CK5 CK3 CK2)) (M_Follower_say : Q0h P w K mg base CK0 5 "say" (Q4J CK0)) : FnOk P w K mg base CX0 7 f fd ["self","said"] (toSp K (spAskT ⟨CK1,CK5,CK3,CK2,CK4,CK0⟩)) := by
 refine okF (k := 6) Fn sc_Tier_ask (λ ds O R h => ?_) (λ cdv A outer s H E ds O R hr h => ?_)
 ·obtain ⟨_,_,_,_,_,_,_,_,rfl,_⟩ := h; rfl
 ·obtain ⟨q0,n,m,s,hs,hd,ch,said,rfl,hT,hk,hm,hsd,hR⟩ := h
  have hz : (List.range hs.length).length <= sizeLine := by rw [sizeLine_eq,List.length_range]; have := hk.l2; omega
  have hv : ∀ i ∈ List.range hs.length,O[q0 + 1 + i]? = some (some (Cs.o ⟨CK1,CK5,CK3,CK2,CK4,CK0⟩ (m : Nat) s (hs.getD i .h))) /\ HvOk n m s (hs.getD i .h) := λ i hi => by
   have hi := List.mem_range.mp hi
   have e : hs[i]? = some (hs.getD i .h) := by rw [List.getD_eq_getElem?_getD,List.getElem?_eq_getElem hi]; rfl
   exact ⟨hT.h i _ e,hk.h _ (List.mem_of_getElem? e)⟩
  refine Q0c (Q0y (EvP.ev (Q0K T.b_tuple (Q0b (Q0Z (λ i : Nat => .int (sayH m said (hs.getD i .h))) ["hand"] ["said"] [1] (Q3I (Q0o (Q0a 0) hT.o T.c_Tier.cls T.n_Tier_hands (tl_hands _ _ _ _ _)) (by first | exact Or.inl rfl | exact Or.inr (Or.inl rfl) | exact Or.inr (Or.inr rfl) | assumption)) hz (by exact λ q hq s H fp => ⟨[some _],rfl,(Q0t 0 (show List.Nodup (["hand","said"] : List Str) by decide +kernel)),⟨_,rfl,(ev_sayH M_Hand_say M_Weigher_say M_Shifter_say M_Rounder_say (hr.mono (by decide)) M_Follower_say (hr.mono (by decide)) (Q0a 0) (hv q hq).1 (hv q hq).2 hm hsd (Q0b (Q0a 1) Q0e))⟩⟩)) Q0e) (Q1G (by first | exact Or.inr rfl | exact Or.inl (Or.inl rfl) | exact Or.inl (Or.inr (Or.inl rfl)) | exact Or.inl (Or.inr (Or.inr ⟨_,rfl,by first | assumption | rfl⟩))))) ?_))
  have e : ((List.range hs.length).map λ i : Nat => D.int (sayH m said (hs.getD i .h))) = (askT m said hs).map D.int := by
   unfold askT
   rw [List.map_map]
   refine List.ext_getElem? λ i => ?_
   rw [List.getElem?_map,List.getElem?_map]
   by_cases hi : i < hs.length
   ·rw [List.getElem?_range hi,List.getElem?_eq_getElem hi]
    show some (D.int (sayH m said (hs.getD i .h))) = some (D.int (sayH m said hs[i]))
    rw [List.getD_eq_getElem?_getD,List.getElem?_eq_getElem hi]
    rfl
   ·rw [List.getElem?_eq_none (by rw [List.length_range]; omega),List.getElem?_eq_none (by omega)]
    rfl
  rw [e]
  exact hR
theorem ok_Tier_say (Fn : Fun K "say" "Tier.say" Q2j f fd)  (F_check_said : Q0m P w K mg base 4 "check_said" (Q0i Q2n)) (M_Tier_ask : Q0h P w K mg base CK4 7 "ask" (spAskT ⟨CK1,CK5,CK3,CK2,CK4,CK0⟩)) (M_Hand_say : Q0h P w K mg base CK1 6 "say" (Q0S CK1 CK5 CK3 CK2)) (M_Weigher_say : Q0h P w K mg base CK5 6 "say" (Q0S CK1 CK5 CK3 CK2)) (M_Shifter_say : Q0h P w K mg base CK3 6 "say" (Q0S CK1 CK5 CK3 CK2)) (M_Rounder_say : Q0h P w K mg base CK2 6 "say" (Q0S CK1 CK5 CK3 CK2)) (M_Follower_say : Q0h P w K mg base CK0 5 "say" (Q4J CK0)) : FnOk P w K mg base CX0 9 f fd ["self","said"] (toSp K (spSayT ⟨CK1,CK5,CK3,CK2,CK4,CK0⟩)) := by
 refine okF (k := 8) Fn sc_Tier_say (λ ds O R h => ?_) (λ cdv A outer s H E ds O R hr h => ?_)
 ·obtain ⟨_,_,_,_,_,_,_,_,rfl,_⟩ := h; rfl
 ·obtain ⟨q,n,m,s,hs,hd,ch,said,rfl,hT,hk,hm,h0,hsd,hR⟩ := h
  refine Q0c (Q0D (EvP.ev (Q0g F_check_said (hr.mono (by decide)) (Q0b (Q0o (Q0a 0) hT.o T.c_Tier.cls T.n_Tier_many (tl_many _ _ _ _ _)) (Q0b (Q0o (Q0a 0) hT.o T.c_Tier.cls T.n_Tier_scale (tl_scale _ _ _ _ _)) (Q0b (Q0a 1) Q0e))) ⟨_,_,_,rfl,by assumption,rfl⟩) ?_))
  have hak := ask_ok hk.h hk.l2 hsd h0
  refine Q0c (Q0y (EvP.ev (ev_sayH M_Hand_say M_Weigher_say M_Shifter_say M_Rounder_say (hr.mono (by decide)) M_Follower_say (hr.mono (by decide)) (Q0o (Q0a 0) hT.o T.c_Tier.cls T.n_Tier_head (tl_head _ _ _ _ _)) hT.d hk.d ⟨hk.l1,hk.l2⟩ hak (Q0b (EvP.cast (Ev.evp (Q1F M_Tier_ask (hr.mono (by decide)) (Q0a 0) hT.o (tl_no _ _ _ _ _ (by decide +kernel)) (Q0b (Q0a 1) Q0e) ⟨q,n,m,s,hs,hd,ch,said,rfl,hT,hk,hm,hsd,rfl,rfl⟩)) (congrArg D.tup (asS_od _).symm)) Q0e)) hR))
theorem ok_Tier_hear (Fn : Fun K "hear" "Tier.hear" Q1V f fd)  (F_check_turn : Q0m P w K mg base 5 "check_turn" (Q0i Q1r)) (F_charge : Q0m P w K mg base 1 "charge" (Q0i Q2V)) (M_Tier_ask : Q0h P w K mg base CK4 7 "ask" (spAskT ⟨CK1,CK5,CK3,CK2,CK4,CK0⟩)) (M_Hand_hear : Q0h P w K mg base CK1 6 "hear" (Q3e CK1)) (M_Weigher_hear : Q0h P w K mg base CK5 8 "hear" (Q1q CK5 CK3 false)) (M_Shifter_hear : Q0h P w K mg base CK3 8 "hear" (Q1q CK5 CK3 true)) (M_Rounder_hear : Q0h P w K mg base CK2 6 "hear" (Q3d CK2)) (M_Follower_hear : Q0h P w K mg base CK0 6 "hear" (Q3f CK0)) : FnOk P w K mg base CX0 10 f fd ["self","said","so"] (toSp K (Q4u ⟨CK1,CK5,CK3,CK2,CK4,CK0⟩)) := by
 refine okF (k := 9) Fn Q3i (λ ds O R h => ?_) (λ cdv A outer s H E ds O R hr h => ?_)
 ·obtain ⟨_,_,_,_,_,_,_,_,_,rfl,_⟩ := h; rfl
 ·obtain ⟨q0,n,m,s,so,hs,hd,ch,said,rfl,hT,hk,hn,hm,hsd,hso,hR⟩ := h
  have h0 : 0 <= s := by omega
  have hak := ask_ok hk.h hk.l2 hsd h0
  refine Q0c (Q0D (EvP.ev (Q0g F_check_turn (hr.mono (by decide)) (Q0b (Q0o (Q0a 0) hT.o T.c_Tier.cls T.n_Tier_many (tl_many _ _ _ _ _)) (Q0b (Q0o (Q0a 0) hT.o T.c_Tier.cls T.n_Tier_scale (tl_scale _ _ _ _ _)) (Q0b (Q0a 1) (Q0b (Q0a 2) Q0e)))) ⟨_,_,_,_,rfl,by assumption,by assumption,rfl⟩) ?_))
  refine Q0c (Q0J 3 (EvP.ev (Ev.evp (Q1F M_Tier_ask (hr.mono (by decide)) (Q0a 0) hT.o (tl_no _ _ _ _ _ (by decide +kernel)) (Q0b (Q0a 1) Q0e) ⟨q0,n,m,s,hs,hd,ch,said,rfl,hT,hk,hm,hsd,rfl,rfl⟩)) ?_) Q3i.nd)
  refine Q0c (Q0D (ev_hearH M_Hand_hear M_Weigher_hear M_Shifter_hear M_Rounder_hear (hr.mono (by decide)) (hr.mono (by decide)) (hr.mono (by decide)) M_Follower_hear (hr.mono (by decide)) (Q0o (Q0a 0) hT.o T.c_Tier.cls T.n_Tier_head (tl_head _ _ _ _ _)) hT.d hk.d hn ⟨hk.l1,hk.l2⟩ hak hso (Q0b (EvP.cast (Q0a 3) (congrArg D.tup (asS_od _).symm)) (Q0b (Q0a 2) Q0e)) ?_))
  have b1 : Blk q0 hs.length O (O.set (q0 + 1 + hs.length) (some (Cs.o ⟨CK1,CK5,CK3,CK2,CK4,CK0⟩ (hs.length : Nat) s (Q1Z (asS (askT m said hs)) so hd)))) := (Blk.refl _ _ _).set (by omega) (Nat.le_refl _)
  have i1 : (O.set (q0 + 1 + hs.length) (some (Cs.o ⟨CK1,CK5,CK3,CK2,CK4,CK0⟩ (hs.length : Nat) s (Q1Z (asS (askT m said hs)) so hd))))[q0]? = some (some (.ins CK4 (tieF (m : Nat) s q0 hs.length ch))) := by rw [List.getElem?_set_ne (by omega)]; exact hT.o
  have i2 : (O.set (q0 + 1 + hs.length) (some (Cs.o ⟨CK1,CK5,CK3,CK2,CK4,CK0⟩ (hs.length : Nat) s (Q1Z (asS (askT m said hs)) so hd))))[q0 + 1 + hs.length]? = some (some (Cs.o ⟨CK1,CK5,CK3,CK2,CK4,CK0⟩ (hs.length : Nat) s (Q1Z (asS (askT m said hs)) so hd))) := Q1H hT.d
  have i3 : ∀ j v,hs[j]? = some v -> (O.set (q0 + 1 + hs.length) (some (Cs.o ⟨CK1,CK5,CK3,CK2,CK4,CK0⟩ (hs.length : Nat) s (Q1Z (asS (askT m said hs)) so hd))))[q0 + 1 + j]? = some (some (Cs.o ⟨CK1,CK5,CK3,CK2,CK4,CK0⟩ (m : Nat) s v)) := λ j v hv => by
   have := (List.getElem?_eq_some_iff.mp hv).1
   rw [List.getElem?_set_ne (by omega)]; exact hT.h j v hv
  have hd' : hvO CK1 CK5 CK3 CK2 CK0 (hs.length : Nat) s (Q1Z (asS (askT m said hs)) so hd) = Cs.o ⟨CK1,CK5,CK3,CK2,CK4,CK0⟩ (hs.length : Nat) s (Q1Z (asS (askT m said hs)) so hd) := rfl
  rw [hd']
  generalize O.set (q0 + 1 + hs.length) (some (Cs.o ⟨CK1,CK5,CK3,CK2,CK4,CK0⟩ (hs.length : Nat) s (Q1Z (asS (askT m said hs)) so hd))) = O1 at b1 i1 i2 i3
  have hasl : (askT m said hs).length = hs.length := List.length_map ..
  refine Q0c (Q4O (Q3I (Q0o (Q0a 0) i1 T.c_Tier.cls T.n_Tier_hands (tl_hands _ _ _ _ _)) (by first | exact Or.inl rfl | exact Or.inr (Or.inl rfl) | exact Or.inr (Or.inr rfl) | assumption)) (λ i ρ O' => (∃ v : Option D,ρ = [some (.ptr q0),some (.tup (said.map od)),some (.int so),some (.tup ((askT m said hs).map D.int)),v]) /\ Blk q0 hs.length O O' /\ O'[q0]? = some (some (.ins CK4 (tieF (m : Nat) s q0 hs.length ch))) /\ O'[q0 + 1 + hs.length]? = some (some (Cs.o ⟨CK1,CK5,CK3,CK2,CK4,CK0⟩ (hs.length : Nat) s (Q1Z (asS (askT m said hs)) so hd))) /\ ∀ j v,hs[j]? = some v -> O'[q0 + 1 + j]? = some (some (Cs.o ⟨CK1,CK5,CK3,CK2,CK4,CK0⟩ (m : Nat) s (if j < i then Q1Z said so v else v)))) ⟨⟨_,rfl⟩,b1,i1,i2,λ j v hv => by rw [if_neg (Nat.not_lt_zero _)]; exact i3 j v hv⟩ ?_ ?_)
  ·clear i1 i2 i3 b1
   rintro i z ρ O' hz ⟨⟨v4,rfl⟩,bk,j1,j2,j3⟩
   rw [List.getElem?_map] at hz
   obtain ⟨i',hi',rfl⟩ := Option.map_eq_some_iff.mp hz
   have hil : i < hs.length := by have := (List.getElem?_eq_some_iff.mp hi').1; rw [List.length_range] at this; exact this
   rw [List.getElem?_range hil] at hi'
   cases hi'
   obtain ⟨v,hv⟩ : ∃ v,hs[i]? = some v := ⟨_,List.getElem?_eq_getElem hil⟩
   have jv := j3 i v hv
   rw [if_neg (Nat.lt_irrefl _)] at jv
   refine ⟨_,Q0t 4 Q3i.nd,?_⟩
   refine Q0c (Q0D (ev_hearH M_Hand_hear M_Weigher_hear M_Shifter_hear M_Rounder_hear (hr.mono (by decide)) (hr.mono (by decide)) (hr.mono (by decide)) M_Follower_hear (hr.mono (by decide)) (Q0a 4) jv (hk.h v (List.mem_of_getElem? hv)) hn hm hsd hso (Q0b (Q0a 1) (Q0b (Q0a 2) Q0e)) ?_))
   refine Q0p ⟨⟨_,rfl⟩,bk.set (by omega) (by omega),by rw [List.getElem?_set_ne (by omega)]; exact j1,by rw [List.getElem?_set_ne (by omega)]; exact j2,λ j w hw => ?_⟩
   by_cases hj : j = i
   ·subst hj
    rw [hv] at hw
    cases hw
    rw [if_pos (Nat.lt_succ_self _)]
    exact Q1H jv
   ·rw [List.getElem?_set_ne (by omega),j3 j w hw]
    by_cases hji : j < i
    ·rw [if_pos hji,if_pos (by omega)]
    ·rw [if_neg hji,if_neg (by omega)]
  ·clear i1 i2 i3 b1
   rintro ρ O' ⟨⟨v4,rfl⟩,bk,j1,j2,j3⟩
   rw [List.length_map,List.length_range] at j3
   have hzl : (ch.zip (askT m said hs)).length <= 63 := by rw [List.length_zip,hasl]; have := hk.l2; omega
   refine Q0c (Q2x (Q0K T.b_tuple (Q0b (Q0Z (λ x : Int × Int => .int (x.1 + ab (x.2 - so))) ["charged","saying"] ["so"] [2] (ei_Z (Q3o (Q0o (Q0a 0) j1 T.c_Tier.cls T.n_Tier_charged (tl_charged _ _ _ _ _)) (Q0a 3) (by first | exact Or.inl rfl | exact Or.inr (Or.inl rfl) | exact Or.inr (Or.inr rfl) | assumption) (by first | exact Or.inl rfl | exact Or.inr (Or.inl rfl) | exact Or.inr (Or.inr rfl) | assumption) T.b_zip)) (by rw [sizeLine_eq]; omega) (by exact λ q hq s H fp => ⟨[some _,some _],rfl,(Q2I (Q0w (Q0t 0 (show List.Nodup (["charged","saying","so"] : List Str) by decide +kernel)) (Q0w (Q0t 1 (show List.Nodup (["charged","saying","so"] : List Str) by decide +kernel)) Q1S))),⟨_,rfl,(Q0j (Q0a 0) (Q0g F_charge (hr.mono (by decide)) (Q0b (Q0a 1) (Q0b (Q0a 2) Q0e)) ⟨some q.2,so,rfl,rfl⟩) Q1P)⟩⟩)) Q0e) (Q1G (by first | exact Or.inr rfl | exact Or.inl (Or.inl rfl) | exact Or.inl (Or.inr (Or.inl rfl)) | exact Or.inl (Or.inr (Or.inr ⟨_,rfl,by first | assumption | rfl⟩))))) (Q0a 0) j1 T.c_Tier.cls T.n_Tier_charged (by show 5 < 1000; decide) ?_)
   have e1 : ((ch.zip (askT m said hs)).map λ x : Int × Int => D.int (x.1 + ab (x.2 - so))) = (paidT m said so hs ch).map D.int := by
    unfold paidT
    rw [List.map_map]
    rfl
   rw [e1,tput_charged]
   refine Q0p (hR _ (bk.set (Nat.le_refl _) (by omega)) ⟨?_,λ i v hv => ?_,?_⟩)
   ·rw [List.length_map]; exact Q1H j1
   ·rw [List.getElem?_map] at hv
    obtain ⟨w,hw,rfl⟩ := Option.map_eq_some_iff.mp hv
    rw [List.getElem?_set_ne (by omega),j3 i w hw,if_pos (List.getElem?_eq_some_iff.mp hw).1]
   ·rw [List.length_map,List.getElem?_set_ne (by omega)]; exact j2
theorem ok_Tier_anew (Fn : Fun K "anew" "Tier.anew" Q1W f fd)  (K_Tier : Q1C P w K mg base CK4 10 "Tier" (spInitT ⟨CK1,CK5,CK3,CK2,CK4,CK0⟩)) : FnOk P w K mg base CX0 12 f fd ["self"] (toSp K (spAnewT ⟨CK1,CK5,CK3,CK2,CK4,CK0⟩)) := by
 refine okF (k := 11) Fn sc_Tier_anew (λ ds O R h => ?_) (λ cdv A outer s H E ds O R hr h => ?_)
 ·obtain ⟨_,_,_,_,_,_,_,rfl,_⟩ := h; rfl
 ·obtain ⟨q,n,m,s,hs,hd,ch,rfl,hT,hk,hm,hs1,hR⟩ := h
  have hpl : ((List.range hs.length).map λ i => (q + 1 + i,hs.getD i Hv.h)).length = hs.length := by rw [List.length_map,List.length_range]
  have hp2 : ((List.range hs.length).map λ i => (q + 1 + i,hs.getD i Hv.h)).map (·.2) = hs := by rw [List.map_map]; exact range_getD hs .h
  have hp1 : ((List.range hs.length).map λ i => (q + 1 + i,hs.getD i Hv.h)).map (λ x => D.ptr x.1) = (List.range hs.length).map λ i => D.ptr (q + 1 + i) := by rw [List.map_map]; rfl
  have hPv : PvAt ⟨CK1,CK5,CK3,CK2,CK4,CK0⟩ O m s ((List.range hs.length).map λ i => (q + 1 + i,hs.getD i Hv.h)) := λ x hx => by
   obtain ⟨i,hi,rfl⟩ := List.mem_map.mp hx
   have hi := List.mem_range.mp hi
   have e : hs[i]? = some (hs.getD i .h) := by rw [List.getD_eq_getElem?_getD,List.getElem?_eq_getElem hi]; rfl
   exact ⟨hT.h i _ e,n,hk.h _ (List.mem_of_getElem? e)⟩
  generalize ((List.range hs.length).map λ i => (q + 1 + i,hs.getD i Hv.h)) = pv at hpl hp2 hp1 hPv
  refine Q0c (Q0y (Q2d K_Tier (hr.mono (by decide)) (Q0b (Q0o (Q0a 0) hT.o T.c_Tier.cls T.n_Tier_hands (tl_hands _ _ _ _ _)) (Q0b (Q0o (Q0a 0) hT.o T.c_Tier.cls T.n_Tier_head (tl_head _ _ _ _ _)) Q0e)) ⟨O.length,m,s,pv,q + 1 + hs.length,hd,O,by rw [hp1],rfl,rfl,hPv,λ x hx => ?_,hm,hs1,by rw [hpl]; exact ⟨hk.l1,hk.l2⟩,rfl,?_⟩))
  ·rw [List.mem_singleton.mp hx,hpl]; exact ⟨hT.d,n,hk.d⟩
  ·rw [hp2]; exact hR
theorem ok_has_greatest (Fn : Fun K "has_greatest" "has_greatest" Q1d f fd) (hm : mg "has_greatest" = some (.ref f)) (hb : Q0C K fd ["top","bottom","own"] []) : Q0m P w K mg base 1 "has_greatest" (Q0i spHas) := by
 refine okD (k := 0) Fn sc_has_greatest hm hb (λ ds O R h => ?_) (λ cdv A outer s H E ds O R hr h => ?_)
 ·obtain ⟨_,⟨_,_,_,rfl,_⟩,_⟩ := h; rfl
 ·obtain ⟨d,⟨t,b,o,rfl,rfl⟩,hR⟩ := h
  exact Q0c (Q0y (EvP.ev (Q3L (Q3a (Q0a 0) (Q0a 1) cmp_lt) (λ hbb => (Q3K (ev_or (Q3a (Q0a 0) Q0f cmp_gt) (λ hbb => (Q3K (Q3a (Q0a 2) Q0f Q0M))))))) hR))
theorem ok_most_errors (Fn : Fun K "most_errors" "most_errors" Q1t f fd) (hm : mg "most_errors" = some (.ref f)) (hb : Q0C K fd ["many","top","bottom","own"] []) (F_power : Q0m P w K mg base 1 "power" (Q0i spPow)) (F_has_greatest : Q0m P w K mg base 1 "has_greatest" (Q0i spHas)) : Q0m P w K mg base 2 "most_errors" (relSp pre17 rel17) := by
 refine okD (k := 1) Fn Q0R hm hb (λ ds O R h => ?_) (λ cdv A outer s H E ds O R hr h => ?_)
 ·obtain ⟨⟨_,_,_,_,rfl,_⟩,_⟩ := h; rfl
 ·obtain ⟨⟨m,t,b,o,rfl,ho,hk⟩,hR⟩ := h
  have m1 := hk.m1
  have m2 := hk.m2
  have t0 := hk.t0
  have tb := hk.tb
  have b2 := hk.b2
  have o2 := hk.o2
  refine Q0c (x_if (Q2u (Q3c (Q0g F_has_greatest (hr.mono (by decide)) (Q0b (Q0a 1) (Q0b (Q0a 2) (Q0b (Q0a 3) Q0e))) ⟨_,_,_,rfl,rfl⟩))) (λ hc => ?_) (λ hc => Q0p ?_))
  ·have z : t = 0 /\ 0 < o := by
    simp only [Bool.not_eq_true',Bool.and_eq_false_iff,Bool.or_eq_false_iff,decide_eq_false_iff_not] at hc
    omega
   exact Q0c (Q0y (EvP.ev Q2Z (hR _ ⟨m,t,b,o,rfl,.inl ⟨z.1,z.2,rfl⟩⟩)))
  have z : ¬ (t = 0 /\ 0 < o) := by
   simp only [Bool.not_eq_false',Bool.and_eq_true,Bool.or_eq_true,decide_eq_true_eq] at hc
   omega
  have hp : 1 <= t ^ o.toNat := by
   by_cases h0 : t = 0
   ·have : o = 0 := by omega
    subst this
    simp
   ·exact Int.pow_pos (by omega)
  refine Q0c (Q0J 4 (EvP.ev Q0f ?_) Q0R.nd)
  refine Q0c (Q0J 5 (EvP.ev (Q0j (Q0j (Q0g F_power (hr.mono (by decide)) (Q0b (Q0a 1) (Q0b (Q0a 3) Q0e)) ⟨_,_,rfl,⟨by omega,by omega⟩,⟨by omega,by omega⟩,rfl⟩) Q0f (Q1O (by first | assumption | exact CMul.ok (Or.inl ⟨by omega,by omega⟩) | exact CMul.ok (Or.inr ⟨by omega,by omega⟩)))) (Q0a 2) (Q1O (by first | assumption | exact CMul.ok (Or.inl ⟨by omega,by omega⟩) | exact CMul.ok (Or.inr ⟨by omega,by omega⟩)))) ?_) Q0R.nd)
  refine Q0c (Q0J 6 (EvP.ev (Q0j (Q0j (Q0a 0) (Q0g F_power (hr.mono (by decide)) (Q0b (Q0a 2) (Q0b (Q0a 3) Q0e)) ⟨_,_,rfl,⟨by omega,by omega⟩,⟨by omega,by omega⟩,rfl⟩) (Q1O (by first | assumption | exact CMul.ok (Or.inl ⟨by omega,by omega⟩) | exact CMul.ok (Or.inr ⟨by omega,by omega⟩)))) (Q0j (Q0a 2) (Q0a 1) Q1P) (Q1O (by first | assumption | exact CMul.ok (Or.inl ⟨by omega,by omega⟩) | exact CMul.ok (Or.inr ⟨by omega,by omega⟩)))) ?_) Q0R.nd)
  refine Q0c (x_while (λ ρ O' => ∃ e : Nat,ρ = [some (.int m),some (.int t),some (.int b),some (.int o),some (.int (e : Nat)),some (.int (t ^ o.toNat * (2 * b) ^ (e + 1))),some (.int (m * b ^ o.toNat * (b + t) ^ (e + 1)))] /\ O' = O /\ le17 m t b o.toNat e) mu17 ⟨0,?_,rfl,le0 hk⟩ ?_)
  ·rw [show t ^ o.toNat * 2 * b = t ^ o.toNat * (2 * b) ^ (0 + 1) by rw [Int.pow_succ,Int.pow_zero,Int.one_mul,Int.mul_assoc],show m * b ^ o.toNat * (b + t) = m * b ^ o.toNat * (b + t) ^ (0 + 1) by rw [Int.pow_succ,Int.pow_zero,Int.one_mul]]
   rfl
  rintro ρ O' ⟨e,rfl,rfl,he⟩
  have hf : e < 56000 := few hk hp he
  have sw : m * b ^ o.toNat * (b + t) ^ (e + 1) = m * (b + t) ^ (e + 1) * b ^ o.toNat := by rw [Int.mul_assoc,Int.mul_comm (b ^ o.toNat),<- Int.mul_assoc]
  refine ⟨_,(Q0A (Q0a 5) (Q0a 6) cmp_le),λ hc => ?_,λ hc => ?_⟩
  ·have hc := of_decide_eq_true hc
   rw [sw] at hc
   refine Q0c (Q0J 4 (EvP.ev (Q0j (Q0a 4) Q0f Q1P) ?_) Q0R.nd)
   refine Q0c (Q0J 5 (EvP.ev (Q0j (Q0j (Q0a 5) Q0f (Q1O (by first | assumption | exact CMul.ok (Or.inl ⟨by omega,by omega⟩) | exact CMul.ok (Or.inr ⟨by omega,by omega⟩)))) (Q0a 2) (Q1O (by first | assumption | exact CMul.ok (Or.inl ⟨by omega,by omega⟩) | exact CMul.ok (Or.inr ⟨by omega,by omega⟩)))) ?_) Q0R.nd)
   refine Q0c (Q0J 6 (EvP.ev (Q0j (Q0a 6) (Q0j (Q0a 2) (Q0a 1) Q1P) (Q1O (by first | assumption | exact CMul.ok (Or.inl ⟨by omega,by omega⟩) | exact CMul.ok (Or.inr ⟨by omega,by omega⟩)))) ?_) Q0R.nd)
   refine Q0p ⟨⟨e + 1,?_,rfl,hc⟩,?_⟩
   ·rw [show t ^ o.toNat * (2 * b) ^ (e + 1) * 2 * b = t ^ o.toNat * (2 * b) ^ (e + 1 + 1) by rw [Int.pow_succ (2 * b) (e + 1),Int.mul_assoc,Int.mul_assoc],show m * b ^ o.toNat * (b + t) ^ (e + 1) * (b + t) = m * b ^ o.toNat * (b + t) ^ (e + 1 + 1) by rw [Int.pow_succ (b + t) (e + 1),Int.mul_assoc,Int.mul_assoc]]
    rfl
   ·show 56001 - ((e : Int) + 1).toNat < 56001 - (e : Int).toNat
    omega
  ·have hc := of_decide_eq_false hc
   rw [sw] at hc
   exact Q0c (Q0y (EvP.ev (Q0a 4) (hR _ ⟨m,t,b,o,rfl,.inr ⟨z,e,hf,rfl,he,hc⟩⟩)))
theorem ok_halvings (Fn : Fun K "halvings" "halvings" Q2h f fd) (hm : mg "halvings" = some (.ref f)) (hb : Q0C K fd ["count"] []) : Q0m P w K mg base 1 "halvings" (Q0i spHalv) := by
 refine okD (k := 0) Fn Q2q hm hb (λ ds O R h => ?_) (λ cdv A outer s H E ds O R hr h => ?_)
 ·obtain ⟨_,⟨_,rfl,_⟩,_⟩ := h; rfl
 ·obtain ⟨d,⟨m,rfl,hm,rfl⟩,hR⟩ := h
  refine Q0c (Q0J 1 (EvP.ev Q0f ?_) Q2q.nd)
  refine Q0c (Q0J 2 (EvP.ev (Q0a 0) ?_) Q2q.nd)
  refine Q0c (x_while (λ ρ O' => ∃ n e : Nat,ρ = [some (.int (m : Nat)),some (.int (e : Nat)),some (.int (n : Nat))] /\ O' = O /\ 1 <= n /\ n <= 24 /\ e + hv n = hv m) muH3 ⟨m,0,rfl,rfl,hm.1,hm.2,Nat.zero_add _⟩ ?_)
  rintro ρ O' ⟨n,e,rfl,rfl,hn1,hn2,he⟩
  refine ⟨_,(Q0A (Q0a 2) Q0f cmp_gt),λ hk => ?_,λ hk => ?_⟩
  ·have hk := of_decide_eq_true hk
   refine Q0c (Q0J 2 (EvP.ev (Q0j (Q0a 2) Q0f (Q3H ⟨(by first | decide | omega),(by first | decide | omega)⟩)) ?_) Q2q.nd)
   refine Q0c (Q0J 1 (EvP.ev (Q0j (Q0a 1) Q0f Q1P) ?_) Q2q.nd)
   have hst := hv_step n (by omega) (by omega)
   have e1 : ((n : Nat) : Int) / 2 = ((n / 2 : Nat) : Int) := by omega
   have e2 : ((e : Nat) : Int) + 1 = ((e + 1 : Nat) : Int) := by omega
   rw [e1,e2]
   refine Q0p ⟨⟨n / 2,e + 1,rfl,rfl,by omega,by omega,by omega⟩,?_⟩
   show (((n / 2 : Nat) : Int)).toNat < ((n : Nat) : Int).toNat
   omega
  ·have hk := of_decide_eq_false hk
   have := hv_one' n (by omega) (by omega)
   have e1 : hv m = e := by omega
   rw [e1] at hR
   exact Q0c (Q0y (EvP.ev (Q0a 1) hR))
theorem ok_ran (Fn : Fun K "ran" "ran" s_ran f fd) (hm : mg "ran" = some (.ref f)) (hb : Q0C K fd ["hand","turns"] []) (F_check_turns : Q0m P w K mg base 5 "check_turns" (Q0i Q3g)) (M_Hand_anew : Q0h P w K mg base CK1 7 "anew" (Q3O CK1)) (M_Hand_say : Q0h P w K mg base CK1 6 "say" (Q0S CK1 CK5 CK3 CK2)) (M_Hand_hear : Q0h P w K mg base CK1 6 "hear" (Q3e CK1)) (M_Weigher_anew : Q0h P w K mg base CK5 9 "anew" (Q1E CK5 CK3 false)) (M_Weigher_say : Q0h P w K mg base CK5 6 "say" (Q0S CK1 CK5 CK3 CK2)) (M_Weigher_hear : Q0h P w K mg base CK5 8 "hear" (Q1q CK5 CK3 false)) (M_Shifter_anew : Q0h P w K mg base CK3 9 "anew" (Q1E CK5 CK3 true)) (M_Shifter_say : Q0h P w K mg base CK3 6 "say" (Q0S CK1 CK5 CK3 CK2)) (M_Shifter_hear : Q0h P w K mg base CK3 8 "hear" (Q1q CK5 CK3 true)) (M_Rounder_anew : Q0h P w K mg base CK2 8 "anew" (Q3N CK2)) (M_Rounder_say : Q0h P w K mg base CK2 6 "say" (Q0S CK1 CK5 CK3 CK2)) (M_Rounder_hear : Q0h P w K mg base CK2 6 "hear" (Q3d CK2)) (M_Tier_anew : Q0h P w K mg base CK4 12 "anew" (spAnewT ⟨CK1,CK5,CK3,CK2,CK4,CK0⟩)) (M_Tier_say : Q0h P w K mg base CK4 9 "say" (spSayT ⟨CK1,CK5,CK3,CK2,CK4,CK0⟩)) (M_Tier_hear : Q0h P w K mg base CK4 10 "hear" (Q4u ⟨CK1,CK5,CK3,CK2,CK4,CK0⟩)) (M_Follower_anew : Q0h P w K mg base CK0 8 "anew" (Q3P CK0)) (M_Follower_say : Q0h P w K mg base CK0 5 "say" (Q4J CK0)) (M_Follower_hear : Q0h P w K mg base CK0 6 "hear" (Q3f CK0)) : Q0m P w K mg base 13 "ran" (spRanX ⟨CK1,CK5,CK3,CK2,CK4,CK0⟩) := by
 refine okD (k := 12) Fn sc_ran hm hb (λ ds O R h => ?_) (λ cdv A outer s H E ds O R hr h => ?_)
 ·obtain ⟨_,_,_,_,_,_,rfl,_⟩ := h; rfl
 ·obtain ⟨q0,n,m,s,x,ts,rfl,hW,hok,hm,hs,hts,htl,hR⟩ := h
  have hev := evX_ok hok hm.2 hts
  have hsz := λ i hi => siz_ev (m := m) (x := x) (ts := ts) i hi
  refine xs_keep ?_
  refine Q0c (Q0D (EvP.ev (Q0g F_check_turns (hr.mono (by decide)) (Q0b (ev_manyX (C := ⟨CK1,CK5,CK3,CK2,CK4,CK0⟩) T.c_Hand.cls T.c_Weigher.cls T.c_Shifter.cls T.c_Rounder.cls T.n_Hand_many T.n_Weigher_many T.n_Shifter_many T.n_Rounder_many T.c_Follower.cls T.n_Follower_many T.c_Tier.cls T.n_Tier_many (Q0a 0) hW hok) (Q0b (ev_scaleX (C := ⟨CK1,CK5,CK3,CK2,CK4,CK0⟩) T.c_Hand.cls T.c_Weigher.cls T.c_Shifter.cls T.c_Rounder.cls T.n_Hand_scale T.n_Weigher_scale T.n_Shifter_scale T.n_Rounder_scale T.c_Follower.cls T.n_Follower_scale T.c_Tier.cls T.n_Tier_scale (Q0a 0) hW hok) (Q0b (Q0a 1) Q0e))) ⟨m,s,ts,rfl,hm.2,hts,rfl⟩) ?_))
  refine Q0c (Q0J 2 (ev_anewX (C := ⟨CK1,CK5,CK3,CK2,CK4,CK0⟩) M_Hand_anew M_Weigher_anew M_Shifter_anew M_Rounder_anew (hr.mono (by decide)) (hr.mono (by decide)) (hr.mono (by decide)) M_Follower_anew (hr.mono (by decide)) M_Tier_anew (hr.mono (by decide)) (Q0a 0) hW hok hm hs λ B hB hA => ?_) sc_ran.nd)
  refine Q0c (Q0J 3 (ev_lstM Q0e ?_) sc_ran.nd)
  have hOB : (O ++ B).length = O.length + sizX x := by rw [List.length_append,hB]
  refine Q0c (Q4O (Q3I (Q0a 1) (by first | exact Or.inl rfl | exact Or.inr (Or.inl rfl) | exact Or.inr (Or.inr rfl) | assumption)) (λ i ρ O' => ∃ (B : Sto) (v1 v2 : Option D),ρ = [some (.ptr q0),some (.tup (ts.map tD)),some (.ptr O.length),some (.ptr (O.length + sizX x)),v1,v2] /\ B.length = sizX x /\ O' = O ++ B ++ [some (MO.lst (((List.range i).map (Q2z m x ts)).map D.int))] /\ HAt ⟨CK1,CK5,CK3,CK2,CK4,CK0⟩ O' O.length m s (evX m x ts i)) ⟨B,_,_,by rw [hOB]; rfl,hB,rfl,hA _⟩ ?_ ?_)
  ·clear hA hB hOB B
   rintro i z ρ O' hx ⟨B,v1,v2,rfl,hB,rfl,hA⟩
   rw [List.getElem?_map] at hx
   obtain ⟨tn,hq,rfl⟩ := Option.map_eq_some_iff.mp hx
   have hi := (List.getElem?_eq_some_iff.mp hq).1
   have hok1 := hts tn (List.mem_of_getElem? hq)
   have he := hev i (by omega)
   have hz := hsz i (by omega)
   have hsay : Q2z m x ts i = sayX m tn.1 (evX m x ts i) := by unfold Q2z; rw [tnX_at hq]
   rw [Q4n hq,List.range_succ,List.map_append,List.map_append,List.map_cons,List.map_nil,hsay]
   generalize evX m x ts i = y at he hA hz
   generalize hLg : (List.range i).map (Q2z m x ts) = L at hA
   have hLl : L.length = i := by rw [<- hLg,List.length_map,List.length_range]
   have hl0 : (O ++ B).length = O.length + sizX x := by rw [List.length_append,hB]
   have hq1 : ∀ l : List D,(O ++ B ++ [some (MO.lst l)])[O.length + sizX x]? = some (some (.lst l)) := λ l => by rw [<- hl0]; exact st0
   refine ⟨_,Q2I (Q0w (Q0t 4 sc_ran.nd) (Q0w (Q0t 5 sc_ran.nd) Q1S)),?_⟩
   refine Q0c (x_append (Q0a 3) (hq1 _) (ev_sayX (C := ⟨CK1,CK5,CK3,CK2,CK4,CK0⟩) M_Hand_say M_Weigher_say M_Shifter_say M_Rounder_say (hr.mono (by decide)) M_Follower_say (hr.mono (by decide)) M_Tier_say (hr.mono (by decide)) (Q0a 2) hA he hm (by omega) (hok1.said hm.2) (Q0b (Q0a 4) Q0e)) (by rw [sizeLine_eq,List.length_map]; omega) ?_)
   rw [<- hl0,ss0,hl0]
   have hA2 : HAt ⟨CK1,CK5,CK3,CK2,CK4,CK0⟩ (O ++ B ++ [some (MO.lst (L.map D.int ++ [.int (sayX m tn.1 y)]))]) O.length m s y := hA.in_ (B' := []) (by rw [hz]; exact hB)
   refine Q0c (Q0D (ev_hearX (C := ⟨CK1,CK5,CK3,CK2,CK4,CK0⟩) M_Hand_hear M_Weigher_hear M_Shifter_hear M_Rounder_hear (hr.mono (by decide)) (hr.mono (by decide)) (hr.mono (by decide)) M_Follower_hear (hr.mono (by decide)) M_Tier_hear (hr.mono (by decide)) (Q0a 2) hA2 he (by omega) hm (hok1.said hm.2) hok1.2.2 (Q0b (Q0a 4) (Q0b (Q0a 5) Q0e)) λ O' hb hA3 => ?_))
   rw [hz] at hb
   obtain ⟨B',hB',rfl⟩ := hb.split rfl hB
   exact Q0p ⟨B',_,_,rfl,hB',by rw [show [D.int (sayX m tn.1 y)] = List.map D.int [sayX m tn.1 y] from rfl],hA3⟩
  ·rintro ρ O' ⟨B,v1,v2,rfl,hB,rfl,hA⟩
   rw [List.length_map]
   have hl0 : (O ++ B).length = O.length + sizX x := by rw [List.length_append,hB]
   generalize (List.range ts.length).map (Q2z m x ts) = L at hR
   have q1 : (O ++ B ++ [some (MO.lst (L.map D.int))])[O.length + sizX x]? = some (some (.lst (L.map D.int))) := by rw [<- hl0]; exact st0
   refine Q0c (Q0y (EvP.ev (Q0K T.b_tuple (Q0b (Q0a 3) Q0e) (Q1G (by first | exact Or.inr rfl | exact Or.inl (Or.inl rfl) | exact Or.inl (Or.inr (Or.inl rfl)) | exact Or.inl (Or.inr (Or.inr ⟨_,rfl,by first | assumption | rfl⟩))))) ?_))
   exact ⟨⟨_,List.append_assoc ..⟩,npDs_ints _,hR⟩
theorem ok_l_cell_at (Fn : Fun K "_law_cell_at" "_law_cell_at" Q1T f fd) (hm : mg "_law_cell_at" = some (.ref f)) (hb : Q0C K fd ["_law_script","_law_k"] []) : Q0m P w K mg base 1 "_law_cell_at" (Q0i spCell) := by
 refine okD (k := 0) Fn sc_l_cell_at hm hb (λ ds O R h => ?_) (λ cdv A outer s H E ds O R hr h => ?_)
 ·obtain ⟨_,⟨_,_,rfl,_⟩,_⟩ := h; rfl
 ·obtain ⟨d,⟨ns,k,rfl,hk0,rfl⟩,hR⟩ := h
  refine Q0c (x_if (Q0A (Q0a 1) (Q0v T.b_len (Q0b (Q0a 0) Q0e) (Q3q (by first | exact Or.inr rfl | exact Or.inl (Or.inl rfl) | exact Or.inl (Or.inr (Or.inl rfl)) | exact Or.inl (Or.inr (Or.inr ⟨_,rfl,by first | assumption | rfl⟩))))) cmp_lt) (λ hk => ?_) (λ hk => ?_))
  ·have hk := of_decide_eq_true hk
   rw [List.length_map] at hk
   have hi : k.toNat < ns.length := by omega
   have hz : atI (ns.map D.int) k = some (.int ns[k.toNat]) := atI_map hk0 (List.getElem?_eq_getElem hi)
   refine Q0c (Q0y (EvP.ev (ev_ixL (Q0a 0) (by first | exact Or.inl rfl | exact Or.inr (Or.inl rfl) | exact Or.inr (Or.inr ⟨_,rfl,by first | assumption | rfl⟩)) (Q0a 1) hz) ?_))
   unfold Q1a at hR
   rw [List.getElem?_eq_getElem hi] at hR
   exact hR
  ·have hk := of_decide_eq_false hk
   rw [List.length_map] at hk
   refine Q0p ?_
   refine Q0c (Q0y (EvP.ev Q0f ?_))
   unfold Q1a at hR
   rw [List.getElem?_eq_none (by omega)] at hR
   exact hR
theorem ok_l_next (Fn : Fun K "_law_next" "_law_next" Q3y f fd) (hm : mg "_law_next" = some (.ref f)) (hb : Q0C K fd ["_law_x"] []) : Q0m P w K mg base 1 "_law_next" (Q0i spNext) := by
 refine okD (k := 0) Fn sc_l_next hm hb (λ ds O R h => ?_) (λ cdv A outer s H E ds O R hr h => ?_)
 ·obtain ⟨_,⟨_,rfl,_⟩,_⟩ := h; rfl
 ·obtain ⟨d,⟨x,rfl,hx,rfl⟩,hR⟩ := h
  have m1 : IntMulOk x x := mulP (m := 40) (n := 40) hx.1 (by omega) hx.1 (by omega)
  have m2 : IntMulOk 48271 x := mulP (m := 20) (n := 40) (by decide) (by decide) hx.1 (by omega)
  exact Q0c (Q0y (EvP.ev (Q0j (Q0j (Q0j (Q0j (Q0a 0) (Q0a 0) (Q1O m1)) (Q0j Q0f (Q0a 0) (Q1O m2)) Q1P) Q0f Q1P) Q0f (Q2f (by first | decide | omega))) hR))
theorem ok_l_seed (Fn : Fun K "_law_seed" "_law_seed" Q3x f fd) (hm : mg "_law_seed" = some (.ref f)) (hb : Q0C K fd ["_law_script","_law_k"] []) (F_l_cell_at : Q0m P w K mg base 1 "_law_cell_at" (Q0i spCell)) (F_l_next : Q0m P w K mg base 1 "_law_next" (Q0i spNext)) : Q0m P w K mg base 2 "_law_seed" (Q0i spSeedS) := by
 refine okD (k := 1) Fn sc_l_seed hm hb (λ ds O R h => ?_) (λ cdv A outer s H E ds O R hr h => ?_)
 ·obtain ⟨_,⟨_,_,rfl,_⟩,_⟩ := h; rfl
 ·obtain ⟨d,⟨ns,k,rfl,hk,rfl⟩,hR⟩ := h
  have m1 : IntMulOk 69621 k := mulP (m := 20) (n := 40) (by decide) (by decide) hk.1 (by omega)
  have m2 : IntMulOk (69621 * k) k := mulP (m := 40) (n := 40) (by omega) (by omega) hk.1 (by omega)
  refine Q0c (Q0J 2 (EvP.ev (Q0j (Q0j (Q0j (Q0j (Q0g F_l_cell_at (hr.mono (by decide)) (Q0b (Q0a 0) (Q0b (Q0a 1) Q0e)) ⟨_,_,rfl,hk.1,rfl⟩) Q0f (Q2f (by first | decide | omega))) (Q0j (Q0j Q0f (Q0a 1) (Q1O m1)) (Q0a 1) (Q1O m2)) Q1P) Q0f Q1P) Q0f (Q2f (by first | decide | omega))) ?_) sc_l_seed.nd)
  unfold Q2y at hR
  generalize Q1a ns k = c at hR
  have h1 : 0 <= (c % 2147483647 + 69621 * k * k + 5) % 2147483647 /\ (c % 2147483647 + 69621 * k * k + 5) % 2147483647 < 3000000000 := by omega
  have h2 : 0 <= nxt ((c % 2147483647 + 69621 * k * k + 5) % 2147483647) /\ nxt ((c % 2147483647 + 69621 * k * k + 5) % 2147483647) < 3000000000 := by
   have := nxt_lo ((c % 2147483647 + 69621 * k * k + 5) % 2147483647)
   unfold Lo at this
   omega
  exact Q0c (Q0y (EvP.ev (Q0g F_l_next (hr.mono (by decide)) (Q0b (Q0g F_l_next (hr.mono (by decide)) (Q0b (Q0a 2) Q0e) ⟨_,rfl,h1,rfl⟩) Q0e) ⟨_,rfl,h2,rfl⟩) hR))
theorem ok_l_turn (Fn : Fun K "_law_turn" "_law_turn" Q3w f fd) (hm : mg "_law_turn" = some (.ref f)) (hb : Q0C K fd ["_law_x","_law_many_here","_law_scale","_law_sleeps"] []) (F_l_next : Q0m P w K mg base 1 "_law_next" (Q0i spNext)) : Q0m P w K mg base 2 "_law_turn" (Q0i spTurnR) := by
 refine okD (k := 1) Fn Q2b hm hb (λ ds O R h => ?_) (λ cdv A outer s H E ds O R hr h => ?_)
 ·obtain ⟨_,⟨_,_,_,_,rfl,_⟩,_⟩ := h; rfl
 ·obtain ⟨d,⟨x,m,s,sl,rfl,hx,hm,hs,rfl⟩,hR⟩ := h
  refine xs_keep ?_
  refine Q0c (Q0J 4 (EvP.ev (Q0j (Q0j (Q0a 0) Q0f (Q3H ⟨(by first | decide | omega),(by first | decide | omega)⟩)) (Q0j (Q0a 2) Q0f Q1P) (Q2f (by omega))) ?_) Q2b.nd)
  unfold turnR at hR
  generalize x / 7 % (s + 1) = so at hR
  refine Q0c (Q0J 5 (ev_lstM Q0e ?_) Q2b.nd)
  refine Q0c (Q4O (Q3p (Q0a 1) T.b_range (by first | decide | omega) (by first | decide | omega)) (λ i ρ O' => ∃ (L : List (Option Int)) (y : Int) (u v : Option D),ρ = [some (.int y),some (.int (m : Nat)),some (.int s),some (.bl sl),some (.int so),some (.ptr O.length),u,v] /\ O' = O ++ [some (.lst (L.map od))] /\ L.length = i /\ Lo y /\ runR s sl so m 0 x = L ++ runR s sl so (m - i) i y) ⟨[],x,_,_,rfl,rfl,rfl,hx,rfl⟩ ?_ ?_)
  ·rintro i z ρ O' hz ⟨L,y,u,v,rfl,rfl,hL,hy,hrun⟩
   obtain ⟨hi,rfl⟩ := rangeD_at hz
   have hi : i < m := by omega
   refine ⟨_,Q0t 6 Q2b.nd,?_⟩
   have hy' : 0 <= y + (0 + ((i : Nat) : Int)) /\ y + (0 + ((i : Nat) : Int)) < 3000000000 := by have := hy.1; have := hy.2; omega
   refine Q0c (Q0J 0 (EvP.ev (Q0g F_l_next (hr.mono (by decide)) (Q0b (Q0j (Q0a 0) (Q0a 6) Q1P) Q0e) ⟨_,rfl,hy',rfl⟩) ?_) Q2b.nd)
   rw [show m - i = (m - (i + 1)) + 1 by omega] at hrun
   have hrun : runR s sl so m 0 x = L ++ (whatR s sl so (i : Int) (nxt (y + (i : Int))) :: runR s sl so (m - (i + 1)) (i + 1) (nxt (y + (i : Int)))) := hrun
   rw [show y + (0 + ((i : Nat) : Int)) = y + ((i : Nat) : Int) by omega]
   have hlo := nxt_lo (y + ((i : Nat) : Int))
   generalize nxt (y + ((i : Nat) : Int)) = n at hrun hlo
   refine Q0c (Q0J 7 (EvP.ev (Q0j (Q0j (Q0a 0) Q0f (Q3H ⟨(by first | decide | omega),(by first | decide | omega)⟩)) (Q0j (Q0a 2) Q0f Q1P) (Q2f (by omega))) ?_) Q2b.nd)
   refine xs_seq (λ ρ' O2 => ρ' = [some (.int n),some (.int (m : Nat)),some (.int s),some (.bl sl),some (.int so),some (.ptr O.length),some (.int (0 + (i : Nat))),some (.int (if 1 < n / 3 % ((i : Int) % 7 + 3) then so else n / 16 % (s + 1)))] /\ O2 = O ++ [some (.lst (L.map od))]) (x_if (Q0A (Q0j (Q0j (Q0a 0) Q0f (Q3H ⟨(by first | decide | omega),(by first | decide | omega)⟩)) (Q0j (Q0j (Q0a 6) Q0f (Q2f (by first | decide | omega))) Q0f Q1P) (Q2f (by omega))) Q0f cmp_gt) (λ hk => ?_) (λ hk => ?_)) ?_
   ·have hk := of_decide_eq_true hk
    rw [Int.zero_add] at hk
    refine Q0c (Q0J 7 (EvP.ev (Q0a 4) ?_) Q2b.nd)
    exact Q0p ⟨by rw [if_pos hk]; rfl,rfl⟩
   ·have hk := of_decide_eq_false hk
    rw [Int.zero_add] at hk
    exact Q0p ⟨by rw [if_neg hk]; rfl,rfl⟩
   rintro _ _ ⟨rfl,rfl⟩
   have hw : whatR s sl so (i : Int) n = if (sl && decide (n % 4 = 0)) = true then none else some (if 1 < n / 3 % ((i : Int) % 7 + 3) then so else n / 16 % (s + 1)) := rfl
   generalize (if 1 < n / 3 % ((i : Int) % 7 + 3) then so else n / 16 % (s + 1)) = z at hw
   refine xs_seq (λ ρ' O2 => ρ' = [some (.int n),some (.int (m : Nat)),some (.int s),some (.bl sl),some (.int so),some (.ptr O.length),some (.int (0 + (i : Nat))),some (od (whatR s sl so (i : Int) n))] /\ O2 = O ++ [some (.lst (L.map od))]) (x_if (EvW.t (ew_and (Q3c (Q0a 3)) (λ hbb => (ew_and1 (Q0A (Q0j (Q0a 0) Q0f (Q2f (by first | decide | omega))) Q0f Q0M))))) (λ hk => ?_) (λ hk => ?_)) ?_
   ·refine Q0c (Q0J 7 (EvP.ev Q2Z ?_) Q2b.nd)
    exact Q0p ⟨by rw [hw,if_pos hk]; rfl,rfl⟩
   ·exact Q0p ⟨by rw [hw,if_neg (by rw [hk]; exact Bool.false_ne_true)]; rfl,rfl⟩
   rintro _ _ ⟨rfl,rfl⟩
   refine Q0c (x_append (Q0a 5) st0 (Q0a 7) (by rw [sizeLine_eq,List.length_map]; omega) ?_)
   rw [ss0]
   exact Q0p ⟨L ++ [whatR s sl so (i : Int) n],_,_,_,rfl,by rw [List.map_append]; rfl,by rw [List.length_append,hL]; rfl,hlo,by rw [hrun,List.append_assoc]; rfl⟩
  ·rintro ρ O' ⟨L,y,u,v,rfl,rfl,hL,hy,hrun⟩
   rw [Q1A,Int.toNat_natCast,Nat.sub_self] at hrun
   have e : runR s sl so m 0 x = L := by rw [hrun]; exact List.append_nil _
   rw [e] at hR
   have q0 : (O ++ [some (MO.lst (L.map od))])[O.length]? = some (some (.lst (L.map od))) := st0
   refine Q0c (Q0y (EvP.ev (Q2D (Q0b (Q0K T.b_tuple (Q0b (Q0a 5) Q0e) (Q1G (by first | exact Or.inr rfl | exact Or.inl (Or.inl rfl) | exact Or.inl (Or.inr (Or.inl rfl)) | exact Or.inl (Or.inr (Or.inr ⟨_,rfl,by first | assumption | rfl⟩))))) (Q0b (Q0a 4) Q0e))) ?_))
   exact ⟨⟨_,rfl⟩,tD_np (L,so),hR⟩
theorem ok_l_turns (Fn : Fun K "_law_turns" "_law_turns" Q2L f fd) (hm : mg "_law_turns" = some (.ref f)) (hb : Q0C K fd ["_law_script","_law_start","_law_many_here","_law_scale","_law_sleeps"] []) (F_l_seed : Q0m P w K mg base 2 "_law_seed" (Q0i spSeedS)) (F_l_turn : Q0m P w K mg base 2 "_law_turn" (Q0i spTurnR)) : Q0m P w K mg base 3 "_law_turns" (Q0i spTurnsR) := by
 refine okD (k := 2) Fn Q2J hm hb (λ ds O R h => ?_) (λ cdv A outer s H E ds O R hr h => ?_)
 ·obtain ⟨_,⟨_,_,_,_,_,rfl,_⟩,_⟩ := h; rfl
 ·obtain ⟨d,⟨ns,st,m,s,sl,rfl,hl,hst,hm,hs,rfl⟩,hR⟩ := h
  refine xs_keep ?_
  have hm8 : atI [D.int 24,D.int 8] (if decide ((8 : Int) < (m : Nat)) then 1 else 0) = some (.int (mostR m)) := by
   unfold mostR
   by_cases h : 8 < m
   ·rw [if_pos h,decide_eq_true (by omega)]; rfl
   ·rw [if_neg h,decide_eq_false (by omega)]; rfl
  refine Q0c (Q0J 5 (EvP.ev (ev_ixL (ev_lst (Q0b Q0f (Q0b Q0f Q0e))) (by first | exact Or.inl rfl | exact Or.inr (Or.inl rfl) | exact Or.inr (Or.inr ⟨_,rfl,by first | assumption | rfl⟩)) (Q0K T.b_int (Q0b (Q3a (Q0a 2) Q0f cmp_gt) Q0e) c_intB) hm8) ?_) Q2J.nd)
  have hst2 : 0 <= st /\ st <= 1000 := by omega
  refine Q0c (Q0J 6 (EvP.ev (ev_ixL (ev_lst (Q0b Q0f (Q0b Q0f (Q0b Q0f (Q0b Q0f (Q0b Q0f (Q0b Q0f (Q0b Q0f (Q0b Q0f Q0e))))))))) (by first | exact Or.inl rfl | exact Or.inr (Or.inl rfl) | exact Or.inr (Or.inr ⟨_,rfl,by first | assumption | rfl⟩)) (Q0j (Q0g F_l_seed (hr.mono (by decide)) (Q0b (Q0a 0) (Q0b (Q0a 1) Q0e)) ⟨_,_,rfl,by first | assumption | omega,rfl⟩) Q0f (Q2f (by first | decide | omega))) (fewR_at (Q2y (Q1a ns st) st))) ?_) Q2J.nd)
  refine Q0c (Q0J 7 (ev_lstM Q0e ?_) Q2J.nd)
  have he1 := endR_le ns st m
  have he2 := endR_ge (ns := ns) (st := st) (m := m)
  have hE : endR ns st m = (if st + mostR m < (if st + fewR (Q2y (Q1a ns st) st) > (((ns.map D.int).length : Nat) : Int) then st + fewR (Q2y (Q1a ns st) st) else (((ns.map D.int).length : Nat) : Int)) then st + mostR m else (if st + fewR (Q2y (Q1a ns st) st) > (((ns.map D.int).length : Nat) : Int) then st + fewR (Q2y (Q1a ns st) st) else (((ns.map D.int).length : Nat) : Int))) := by rw [List.length_map]; rfl
  unfold turnsR at hR
  refine Q0c (Q4O (xs := Q4j st (endR ns st m - st).toNat) (by rw [hE]; exact (ei_range2 (Q0a 1) (Q0v T.b_min (Q0b (Q0v T.b_max (Q0b (Q0v T.b_len (Q0b (Q0a 0) Q0e) (Q3q (by first | exact Or.inr rfl | exact Or.inl (Or.inl rfl) | exact Or.inl (Or.inr (Or.inl rfl)) | exact Or.inl (Or.inr (Or.inr ⟨_,rfl,by first | assumption | rfl⟩))))) (Q0b (Q0j (Q0a 1) (Q0a 6) Q1P) Q0e)) c_max) (Q0b (Q0j (Q0a 1) (Q0a 5) Q1P) Q0e)) c_min) T.b_range (by omega) (by omega) (by rw [<- hE]; omega) (by rw [<- hE]; omega))) (λ i ρ O' => ∃ v : Option D,ρ = [some (.scr (ns.map D.int)),some (.int st),some (.int (m : Nat)),some (.int s),some (.bl sl),some (.int (mostR m)),some (.int (fewR (Q2y (Q1a ns st) st))),some (.ptr O.length),v] /\ O' = O ++ [some (.lst (((List.range i).map λ j : Nat => turnR m s sl (Q2y (Q1a ns (st + (j : Int))) (st + (j : Int)))).map tD))]) ⟨_,rfl,rfl⟩ ?_ ?_)
  ·rintro i z ρ O' hz ⟨v,rfl,rfl⟩
   obtain ⟨hi,rfl⟩ := rangeD_at hz
   refine ⟨_,Q0t 8 Q2J.nd,?_⟩
   have hlo := seed_lo (Q1a ns (st + (i : Int))) (st + (i : Int))
   refine Q0c (x_append (Q0a 7) st0 (Q0g F_l_turn (hr.mono (by decide)) (Q0b (Q0g F_l_seed (hr.mono (by decide)) (Q0b (Q0a 0) (Q0b (Q0a 8) Q0e)) ⟨_,_,rfl,⟨by omega,by omega⟩,rfl⟩) (Q0b (Q0a 2) (Q0b (Q0a 3) (Q0b (Q0a 4) Q0e)))) ⟨_,_,_,_,rfl,by assumption,by assumption,by assumption,rfl⟩) (by rw [sizeLine_eq,List.length_map,List.length_map,List.length_range]; omega) ?_)
   rw [ss0]
   refine Q0p ⟨_,rfl,?_⟩
   rw [List.range_succ,List.map_append,List.map_append]
   rfl
  ·rintro ρ O' ⟨v,rfl,rfl⟩
   rw [Q1A]
   generalize (List.range (endR ns st m - st).toNat).map (λ j : Nat => turnR m s sl (Q2y (Q1a ns (st + (j : Int))) (st + (j : Int)))) = L at hR
   have q0 : (O ++ [some (MO.lst (L.map tD))])[O.length]? = some (some (.lst (L.map tD))) := st0
   refine Q0c (Q0y (EvP.ev (Q0K T.b_tuple (Q0b (Q0a 7) Q0e) (Q1G (by first | exact Or.inr rfl | exact Or.inl (Or.inl rfl) | exact Or.inl (Or.inr (Or.inl rfl)) | exact Or.inl (Or.inr (Or.inr ⟨_,rfl,by first | assumption | rfl⟩))))) ?_))
   exact ⟨⟨_,rfl⟩,npDs_map tD_np _,hR⟩
theorem ok_l_many (Fn : Fun K "_law_many" "_law_many" Q3z f fd) (hm : mg "_law_many" = some (.ref f)) (hb : Q0C K fd ["_law_x"] []) : Q0m P w K mg base 1 "_law_many" (relSp preX relMany) := by
 refine okD (k := 0) Fn sc_l_many hm hb (λ ds O R h => ?_) (λ cdv A outer s H E ds O R hr h => ?_)
 ·obtain ⟨⟨_,rfl⟩,_⟩ := h; rfl
 ·obtain ⟨⟨c,rfl⟩,hR⟩ := h
  have hnat : ∀ i : Int,0 <= i -> ∃ m : Nat,i = (m : Int) := λ i h => Int.eq_ofNat_of_zero_le h
  refine Q0c (x_if (Q0A (Q0j (Q0a 0) Q0f (Q2f (by first | decide | omega))) Q0f Q0M) (λ hk => ?_) (λ hk => Q0p ?_))
  ·obtain ⟨m,hm⟩ := hnat (24 - c / 8 % 17) (by omega)
   exact Q0c (Q0y (EvP.ev (Q0j Q0f (Q0j (Q0j (Q0a 0) Q0f (Q3H ⟨(by first | decide | omega),(by first | decide | omega)⟩)) Q0f (Q2f (by first | decide | omega))) o_sub) (hR _ ⟨m,by rw [hm],by omega,by omega⟩)))
  ·obtain ⟨m,hm⟩ := hnat (1 + c / 8 % 7) (by omega)
   exact Q0c (Q0y (EvP.ev (Q0j Q0f (Q0j (Q0j (Q0a 0) Q0f (Q3H ⟨(by first | decide | omega),(by first | decide | omega)⟩)) Q0f (Q2f (by first | decide | omega))) Q1P) (hR _ ⟨m,by rw [hm],by omega,by omega⟩)))
theorem ok_l_fraction (Fn : Fun K "_law_fraction" "_law_fraction" Q1I f fd) (hm : mg "_law_fraction" = some (.ref f)) (hb : Q0C K fd ["_law_x"] []) : Q0m P w K mg base 1 "_law_fraction" (Q0i spFracP) := by
 refine okD (k := 0) Fn Q4f hm hb (λ ds O R h => ?_) (λ cdv A outer s H E ds O R hr h => ?_)
 ·obtain ⟨_,⟨_,rfl,_⟩,_⟩ := h; rfl
 ·obtain ⟨d,⟨c,rfl,rfl⟩,hR⟩ := h
  have hb := fbF_ok c
  have eb : (if c % 2 = 0 then 1 + c / 4 % 9 else 1 + c / 4 % 100) = fbF c := rfl
  refine Q0c (Q0J 1 (EvP.ev (ev_ixL (ev_lst (Q0b (Q0j Q0f (Q0j (Q0j (Q0a 0) Q0f (Q3H ⟨(by first | decide | omega),(by first | decide | omega)⟩)) Q0f (Q2f (by first | decide | omega))) Q1P) (Q0b (Q0j Q0f (Q0j (Q0j (Q0a 0) Q0f (Q3H ⟨(by first | decide | omega),(by first | decide | omega)⟩)) Q0f (Q2f (by first | decide | omega))) Q1P) Q0e))) (by first | exact Or.inl rfl | exact Or.inr (Or.inl rfl) | exact Or.inr (Or.inr ⟨_,rfl,by first | assumption | rfl⟩)) (Q0j (Q0a 0) Q0f (Q2f (by first | decide | omega))) (twosR (by omega))) ?_) Q4f.nd)
  rw [eb]
  exact Q0c (Q0y (EvP.ev (ev_ixL (ev_lst (Q0b (Q2D (Q0b (Q0j (Q0j (Q0a 0) Q0f (Q3H ⟨(by first | decide | omega),(by first | decide | omega)⟩)) (Q0a 1) (Q2f (by omega))) (Q0b (Q0a 1) Q0e))) (Q0b (Q2D (Q0b Q0f (Q0b (Q0a 1) Q0e))) (Q0b (Q2D (Q0b (Q0j (Q0a 1) Q0f o_sub) (Q0b (Q0a 1) Q0e))) (Q0b (Q2D (Q0b (Q0j (Q0a 1) Q0f (Q3H ⟨(by first | decide | omega),(by first | decide | omega)⟩)) (Q0b (Q0a 1) Q0e))) Q0e))))) (by first | exact Or.inl rfl | exact Or.inr (Or.inl rfl) | exact Or.inr (Or.inr ⟨_,rfl,by first | assumption | rfl⟩)) (Q0j (Q0j (Q0a 0) Q0f (Q3H ⟨(by first | decide | omega),(by first | decide | omega)⟩)) Q0f (Q2f (by first | decide | omega))) (frac_at c)) hR))
theorem ok_l_hand (Fn : Fun K "_law_hand" "_law_hand" Q3A f fd) (hm : mg "_law_hand" = some (.ref f)) (hb : Q0C K fd ["_law_many_here","_law_scale","_law_x"] []) (K_Hand : Q1C P w K mg base CK1 5 "Hand" (Q2a (λ C => C = CK1 \/ C = CK5 \/ C = CK3 \/ C = CK2 \/ C = CK4 \/ C = CK0))) (K_Weigher : Q1C P w K mg base CK5 6 "Weigher" (Q2B CK5 CK3)) (K_Shifter : Q1C P w K mg base CK3 7 "Shifter" (spInitS CK3)) (K_Rounder : Q1C P w K mg base CK2 6 "Rounder" (spInitR CK2)) (K_Follower : Q1C P w K mg base CK0 6 "Follower" (spInitF CK0)) : Q0m P w K mg base 13 "_law_hand" (spHandP1 ⟨CK1,CK5,CK3,CK2,CK4,CK0⟩) := by
 refine okD (k := 12) Fn Q4e hm hb (λ ds O R h => ?_) (λ cdv A outer s H E ds O R hr h => ?_)
 ·obtain ⟨_,_,_,rfl,_⟩ := h; rfl
 ·obtain ⟨m,s,x,rfl,hm,hs,hR⟩ := h
  have hmI : (1 : Int) <= (m : Nat) /\ ((m : Nat) : Int) <= 24 := ⟨by omega,by omega⟩
  refine Q0c (Q0J 3 (EvP.ev (Q0j Q0f (Q0j (Q0j (Q0a 2) Q0f (Q3H ⟨(by first | decide | omega),(by first | decide | omega)⟩)) Q0f (Q2f (by first | decide | omega))) Q1P) ?_) Q4e.nd)
  have hb : 2 <= 2 + x / 8 % 9 /\ 2 + x / 8 % 9 <= 10 := by omega
  generalize 2 + x / 8 % 9 = b at hb
  refine Q0c (Q0J 4 (EvP.ev (Q0j (Q0j (Q0a 2) Q0f (Q3H ⟨(by first | decide | omega),(by first | decide | omega)⟩)) (Q0a 3) (Q2f (by omega))) ?_) Q4e.nd)
  have ht0 := Int.emod_nonneg (x / 80) (show b ≠ 0 by omega)
  have ht1 := Int.emod_lt_of_pos (x / 80) (show 0 < b by omega)
  generalize x / 80 % b = t at ht0 ht1
  refine Q0c (Q0J 5 (EvP.ev (Q0j (Q0a 2) Q0f (Q2f (by first | decide | omega))) ?_) Q4e.nd)
  have hf : Frac s t b := ⟨hs.1,hs.2,ht0,ht1,by omega⟩
  have hV : ∀ (sf : Bool) (sh : Int),1 <= sh /\ sh <= 5 -> VOk sf ⟨(m : Nat),s,t,b,sh,7⟩ := λ sf sh h => ⟨hf,hmI.1,hmI.2,λ _ => ⟨h.1,by show sh < 7; omega,by show (7 : Int) <= 100; decide⟩⟩
  by_cases h0 : x % 5 = 0
  ·refine Q0c (x_if (EvT.cast (k' := true) (Q0A (Q0a 5) Q0f Q0M) (decide_eq_true h0)) (λ _ => ?_) (λ hk => by cases hk))
   refine Q0c (Q0y (Q2d K_Weigher (hr.mono (by decide)) (Q0b (Q0a 0) (Q0b (Q0a 1) (Q0b (Q0a 4) (Q0b (Q0a 3) Q0e)))) ⟨O.length,false,⟨(m : Nat),s,t,b,1,7⟩,rfl,st0,hV false 1 (by decide),rfl,?_⟩))
   rw [ss0]
   exact hR (.v false ⟨(m : Nat),s,t,b,1,7⟩ (List.replicate m 1) 1) ⟨hV false 1 (by decide),rfl,rfl,Q4a m,List.length_replicate⟩
  refine Q0c (x_if (EvT.cast (k' := false) (Q0A (Q0a 5) Q0f Q0M) (decide_eq_false h0)) (λ hk => by cases hk) (λ _ => Q0p ?_))
  by_cases h1 : x % 5 = 1
  ·refine Q0c (x_if (EvT.cast (k' := true) (Q0A (Q0a 5) Q0f Q0M) (decide_eq_true h1)) (λ _ => ?_) (λ hk => by cases hk))
   have hps : PushOk (m : Nat) ((List.range m).map λ k : Nat => x / (0 + (k : Int) + 3) % 4) := ⟨by rw [List.length_map,List.length_range],λ p hp => by
    obtain ⟨k,_,rfl⟩ := List.mem_map.mp hp
    have : (4 : Int) <= 10 ^ (60 : Int).toNat - 1 := by decide +kernel
    omega⟩
   refine Q0c (Q0y (Q2d K_Follower (hr.mono (by decide)) (Q0b (Q0a 0) (Q0b (Q0a 1) (Q0b (EvP.cast (Q0K T.b_tuple (Q0b (Q0Z (λ k : Nat => .int (x / (0 + (k : Int) + 3) % 4)) ["_law_k"] ["_law_x"] [2] (Q3p (Q0a 0) T.b_range (by first | decide | omega) (by first | decide | omega)) (by rw [sizeLine_eq,List.length_range,Int.toNat_natCast]; omega) (by exact λ q hq s H fp => ⟨[some _],rfl,(Q0t 0 (show List.Nodup (["_law_k","_law_x"] : List Str) by decide +kernel)),⟨_,rfl,(Q0j (Q0j (Q0a 1) (Q0j (Q0a 0) Q0f Q1P) (Q3H ⟨by have := List.mem_range.mp hq; omega,by have := List.mem_range.mp hq; omega⟩)) Q0f (Q2f (by first | decide | omega)))⟩⟩)) Q0e) (Q1G (by first | exact Or.inr rfl | exact Or.inl (Or.inl rfl) | exact Or.inl (Or.inr (Or.inl rfl)) | exact Or.inl (Or.inr (Or.inr ⟨_,rfl,by first | assumption | rfl⟩))))) (show D.tup _ = poD (some ((List.range m).map λ k : Nat => x / (0 + (k : Int) + 3) % 4)) by rw [Int.toNat_natCast]; show _ = D.tup _; rw [List.map_map]; rfl)) Q0e))) ⟨O.length,(m : Nat),s,some _,rfl,st0,hmI,hs,hps,rfl,?_⟩))
   rw [ss0]
   exact hR (.f _ _) ⟨hps,by show ((List.range m).map _).length = m; rw [List.length_map,List.length_range]⟩
  refine Q0c (x_if (EvT.cast (k' := false) (Q0A (Q0a 5) Q0f Q0M) (decide_eq_false h1)) (λ hk => by cases hk) (λ _ => Q0p ?_))
  by_cases h2 : x % 5 = 2
  ·refine Q0c (x_if (EvT.cast (k' := true) (Q0A (Q0a 5) Q0f Q0M) (decide_eq_true h2)) (λ _ => ?_) (λ hk => by cases hk))
   refine Q0c (Q0y (Q2d K_Rounder (hr.mono (by decide)) (Q0b (Q0a 0) (Q0b (Q0a 1) Q0e)) ⟨O.length,(m : Nat),s,rfl,st0,hmI,hs,rfl,?_⟩))
   rw [ss0]
   exact hR (.r (List.replicate m true) 0) List.length_replicate
  refine Q0c (x_if (EvT.cast (k' := false) (Q0A (Q0a 5) Q0f Q0M) (decide_eq_false h2)) (λ hk => by cases hk) (λ _ => Q0p ?_))
  by_cases h3 : x % 5 = 3
  ·refine Q0c (x_if (EvT.cast (k' := true) (Q0A (Q0a 5) Q0f Q0M) (decide_eq_true h3)) (λ _ => ?_) (λ hk => by cases hk))
   have hsh : 1 <= 1 + x / 1000 % 5 /\ 1 + x / 1000 % 5 <= 5 := by omega
   refine Q0c (Q0y (Q2d K_Shifter (hr.mono (by decide)) (Q0b (Q0a 0) (Q0b (Q0a 1) (Q0b (Q0a 4) (Q0b (Q0a 3) (Q0b (Q0j Q0f (Q0j (Q0j (Q0a 2) Q0f (Q3H ⟨(by first | decide | omega),(by first | decide | omega)⟩)) Q0f (Q2f (by first | decide | omega))) Q1P) (Q0b Q0f Q0e)))))) ⟨O.length,⟨(m : Nat),s,t,b,1 + x / 1000 % 5,7⟩,rfl,st0,(hV true _ hsh).so,rfl,?_⟩))
   rw [ss0]
   exact hR (.v true ⟨(m : Nat),s,t,b,1 + x / 1000 % 5,7⟩ (List.replicate m 1) 1) ⟨hV true _ hsh,rfl,rfl,Q4a m,List.length_replicate⟩
  refine Q0c (x_if (EvT.cast (k' := false) (Q0A (Q0a 5) Q0f Q0M) (decide_eq_false h3)) (λ hk => by cases hk) (λ _ => Q0p ?_))
  refine Q0c (Q0y (Q2d K_Hand (hr.mono (by decide)) (Q0b (Q0a 0) (Q0b (Q0a 1) Q0e)) ⟨O.length,(m : Nat),s,CK1,rfl,.inl rfl,st0,hmI,hs,rfl,?_⟩))
  rw [ss0]
  exact hR .h trivial
theorem ok_l_hands (Fn : Fun K "_law_hands" "_law_hands" Q2N f fd) (hm : mg "_law_hands" = some (.ref f)) (hb : Q0C K fd ["_law_many_here","_law_scale","_law_x"] []) (F_l_next : Q0m P w K mg base 1 "_law_next" (Q0i spNext)) (F_l_hand : Q0m P w K mg base 13 "_law_hand" (spHandP1 ⟨CK1,CK5,CK3,CK2,CK4,CK0⟩)) : Q0m P w K mg base 14 "_law_hands" (spHandsP ⟨CK1,CK5,CK3,CK2,CK4,CK0⟩) := by
 refine okD (k := 13) Fn Q3u hm hb (λ ds O R h => ?_) (λ cdv A outer s H E ds O R hr h => ?_)
 ·obtain ⟨_,_,_,rfl,_⟩ := h; rfl
 ·obtain ⟨m,s,x,rfl,hx,hm,hs,hR⟩ := h
  obtain ⟨n,hn,hn1,hn2⟩ := size4 x
  refine Q0c (Q0J 3 (ev_lstM Q0e ?_) Q3u.nd)
  refine Q0c (Q4O (Q3p (ev_ixL (ev_lst (Q0b Q0f (Q0b Q0f (Q0b Q0f (Q0b Q0f Q0e))))) (by first | exact Or.inl rfl | exact Or.inr (Or.inl rfl) | exact Or.inr (Or.inr ⟨_,rfl,by first | assumption | rfl⟩)) (Q0j (Q0a 2) Q0f (Q2f (by first | decide | omega))) hn) T.b_range (by omega) (by omega)) (λ i ρ O' => ∃ (pv : List (Nat × Hv)) (y : Int) (v4 : Option D),ρ = [some (.int (m : Nat)),some (.int s),some (.int y),some (.ptr O.length),v4] /\ (∃ Y,O' = O ++ some (MO.lst (pv.map λ z => D.ptr z.1)) :: Y) /\ PvA0 ⟨CK1,CK5,CK3,CK2,CK4,CK0⟩ O' m s pv /\ pv.length = i /\ Lo y) ⟨[],x,_,rfl,⟨[],rfl⟩,(λ z hz => absurd hz List.not_mem_nil),rfl,hx⟩ ?_ ?_)
  ·rintro i z ρ O' hz ⟨pv,y,v4,rfl,⟨Y,rfl⟩,hP,hpl,hy⟩
   obtain ⟨hi,rfl⟩ := rangeD_at hz
   have hi : i < n := by omega
   refine ⟨_,Q0t 4 Q3u.nd,?_⟩
   have hy' : 0 <= y + (0 + ((i : Nat) : Int)) /\ y + (0 + ((i : Nat) : Int)) < 3000000000 := by have := hy.1; have := hy.2; omega
   refine Q0c (Q0J 2 (EvP.ev (Q0g F_l_next (hr.mono (by decide)) (Q0b (Q0j (Q0a 2) (Q0a 4) Q1P) Q0e) ⟨_,rfl,hy',rfl⟩) ?_) Q3u.nd)
   have hlo := nxt_lo (y + (0 + ((i : Nat) : Int)))
   generalize nxt (y + (0 + ((i : Nat) : Int))) = w at hlo
   refine Q0c (x_appendE (Q0a 3) (Q1R F_l_hand (hr.mono (by decide)) (Q0b (Q0a 0) (Q0b (Q0a 1) (Q0b (Q0a 2) Q0e))) ⟨m,s,w,rfl,hm,hs,λ v hv => ⟨Q3M st0,?_⟩⟩) st0 (by rw [sizeLine_eq,List.length_map]; omega))
   have hq : ∀ (l : List D) (q : Nat),q ≠ O.length -> ((O ++ some (MO.lst (pv.map λ z => D.ptr z.1)) :: Y ++ [some (Cs.o ⟨CK1,CK5,CK3,CK2,CK4,CK0⟩ (m : Nat) s v)]).set O.length (some (MO.lst l)))[q]? = (O ++ some (MO.lst (pv.map λ z => D.ptr z.1)) :: Y ++ [some (Cs.o ⟨CK1,CK5,CK3,CK2,CK4,CK0⟩ (m : Nat) s v)])[q]? := λ l q h => List.getElem?_set_ne (Ne.symm h)
   have hLq : (O ++ some (MO.lst (pv.map λ z => D.ptr z.1)) :: Y)[O.length]? = some (some (MO.lst (pv.map λ z => D.ptr z.1))) := st0
   refine Q0p ⟨pv ++ [((O ++ some (MO.lst (pv.map λ z => D.ptr z.1)) :: Y).length,v)],w,_,rfl,⟨Y ++ [some (Cs.o ⟨CK1,CK5,CK3,CK2,CK4,CK0⟩ (m : Nat) s v)],?_⟩,λ z hz => ?_,by rw [List.length_append,hpl]; rfl,hlo⟩
   ·rw [List.append_assoc,List.cons_append,ss0,List.map_append]; rfl
   ·rcases List.mem_append.mp hz with h | h
    ·have hz1 := hP z h
     have hne : z.1 ≠ O.length := λ e => by
      rw [e,hLq] at hz1
      have := Option.some.inj (Option.some.inj hz1.1)
      revert this
      cases z.2 <;> intro h <;> cases h
     rw [hq _ _ hne]
     exact ⟨Q3M hz1.1,hz1.2⟩
    ·rw [List.mem_singleton.mp h]
     rw [hq _ _ (by rw [List.length_append]; show O.length + (_ + 1) ≠ _; omega)]
     exact ⟨st0,hv⟩
  ·rintro ρ O' ⟨pv,y,v4,rfl,⟨Y,rfl⟩,hP,hpl,hy⟩
   rw [Q1A,Int.toNat_natCast] at hpl
   have q0 : (O ++ some (MO.lst (pv.map λ z => D.ptr z.1)) :: Y)[O.length]? = some (some (MO.lst (pv.map λ z => D.ptr z.1))) := st0
   refine Q0c (Q0y (EvP.ev (Q0K T.b_tuple (Q0b (Q0a 3) Q0e) (Q1G (by first | exact Or.inr rfl | exact Or.inl (Or.inl rfl) | exact Or.inl (Or.inr (Or.inl rfl)) | exact Or.inl (Or.inr (Or.inr ⟨_,rfl,by first | assumption | rfl⟩))))) ?_))
   exact hR _ pv ⟨_,rfl⟩ hP ⟨by omega,by omega⟩
theorem ok_l_power (Fn : Fun K "_law_power" "_law_power" Q2M f fd) (hm : mg "_law_power" = some (.ref f)) (hb : Q0C K fd ["_law_base","_law_exponent"] []) : Q0m P w K mg base 1 "_law_power" (Q0i spPow) := by
 refine okD (k := 0) Fn Q3t hm hb (λ ds O R h => ?_) (λ cdv A outer s H E ds O R hr h => ?_)
 ·obtain ⟨_,⟨_,_,rfl,_⟩,_⟩ := h; rfl
 ·obtain ⟨d,⟨b,n,rfl,hb,hn,rfl⟩,hR⟩ := h
  refine Q0c (Q0J 2 (EvP.ev Q0f ?_) Q3t.nd)
  refine Q0c (Q4O (Q3p (Q0a 1) T.b_range (by first | decide | omega) (by first | decide | omega)) (λ i ρ O' => ∃ u,ρ = [some (.int b),some (.int n),some (.int (b ^ i)),u] /\ O' = O) ⟨none,by rw [Int.pow_zero]; rfl,rfl⟩ ?_ ?_)
  ·rintro i x ρ O' hx ⟨u,rfl,rfl⟩
   refine ⟨_,Q0t 3 Q3t.nd,?_⟩
   refine Q0c (Q0J 2 (EvP.ev (Q0j (Q0a 2) (Q0a 0) (Q1O (by first | assumption | exact CMul.ok (Or.inl ⟨by omega,by omega⟩) | exact CMul.ok (Or.inr ⟨by omega,by omega⟩)))) ?_) Q3t.nd)
   exact Q0p ⟨_,by rw [Int.pow_succ]; rfl,rfl⟩
  ·rintro ρ O' ⟨u,rfl,rfl⟩
   rw [Q1A]
   exact Q0c (Q0y (EvP.ev (Q0a 2) hR))
theorem ok_l_bound (Fn : Fun K "_law_bound" "_law_bound" Q2O f fd) (hm : mg "_law_bound" = some (.ref f)) (hb : Q0C K fd ["_law_many_here","_law_top","_law_bottom","_law_paid","_law_erred_turns"] []) (F_l_power : Q0m P w K mg base 1 "_law_power" (Q0i spPow)) : Q0m P w K mg base 2 "_law_bound" (Q0i spBd) := by
 refine okD (k := 1) Fn sc_l_bound hm hb (λ ds O R h => ?_) (λ cdv A outer s H E ds O R hr h => ?_)
 ·obtain ⟨_,⟨_,_,_,_,_,rfl,_⟩,_⟩ := h; rfl
 ·obtain ⟨d,⟨m,t,b,c,e,rfl,hk,he,rfl⟩,hR⟩ := h
  have m1 := hk.m1; have m2 := hk.m2; have t0 := hk.t0; have tb := hk.tb; have b2 := hk.b2; have o2 := hk.o2
  have s1 := small (a := t) (by omega) (by omega) c
  have s2 := small (a := 2 * b) (by omega) (by omega) e
  have s3 := small (a := b + t) (by omega) (by omega) e
  have s4 := small (a := b) (by omega) (by omega) c
  have p5 := Q2s (a := 5) (show 0 <= m by omega) (show m < 2 ^ 5 by show m < 32; omega) s3.1 s3.2
  refine Q0c (Q0J 5 (EvP.ev (Q0j (Q0g F_l_power (hr.mono (by decide)) (Q0b (Q0a 1) (Q0b (Q0a 3) Q0e)) ⟨t,(c : Nat),rfl,⟨by omega,by omega⟩,⟨by omega,by omega⟩,rfl⟩) (Q0g F_l_power (hr.mono (by decide)) (Q0b (Q0j Q0f (Q0a 2) (Q1O (by first | assumption | exact CMul.ok (Or.inl ⟨by omega,by omega⟩) | exact CMul.ok (Or.inr ⟨by omega,by omega⟩)))) (Q0b (Q0a 4) Q0e)) ⟨2 * b,(e : Nat),rfl,⟨by omega,by omega⟩,⟨by omega,by omega⟩,rfl⟩) (Q1O (mulP s1.1 s1.2 s2.1 s2.2 (by omega)))) ?_) sc_l_bound.nd)
  refine Q0c (Q0y (EvP.ev (Q3a (Q0a 5) (Q0j (Q0j (Q0a 0) (Q0g F_l_power (hr.mono (by decide)) (Q0b (Q0j (Q0a 2) (Q0a 1) Q1P) (Q0b (Q0a 4) Q0e)) ⟨b + t,(e : Nat),rfl,⟨by omega,by omega⟩,⟨by omega,by omega⟩,rfl⟩) (Q1O (CMul.ok (Or.inl ⟨by omega,by omega⟩)))) (Q0g F_l_power (hr.mono (by decide)) (Q0b (Q0a 2) (Q0b (Q0a 3) Q0e)) ⟨b,(c : Nat),rfl,⟨by omega,by omega⟩,⟨by omega,by omega⟩,rfl⟩) (Q1O (mulP p5.1 p5.2 s4.1 s4.2 (by omega)))) cmp_le) ?_))
  exact hR
theorem ok_law (Fn : Fun K "law" "law" s_law f fd)  (F_l_cell_at : Q0m P w K mg base 1 "_law_cell_at" (Q0i spCell)) (F_l_seed : Q0m P w K mg base 2 "_law_seed" (Q0i spSeedS)) (F_l_many : Q0m P w K mg base 1 "_law_many" (relSp preX relMany)) (F_l_fraction : Q0m P w K mg base 1 "_law_fraction" (Q0i spFracP)) (F_l_turns : Q0m P w K mg base 3 "_law_turns" (Q0i spTurnsR)) (F_l_hands : Q0m P w K mg base 14 "_law_hands" (spHandsP ⟨CK1,CK5,CK3,CK2,CK4,CK0⟩)) (F_l_bound : Q0m P w K mg base 2 "_law_bound" (Q0i spBd)) (F_most_errors : Q0m P w K mg base 2 "most_errors" (relSp pre17 rel17)) (F_halvings : Q0m P w K mg base 1 "halvings" (Q0i spHalv)) (F_ran : Q0m P w K mg base 13 "ran" (spRanX ⟨CK1,CK5,CK3,CK2,CK4,CK0⟩)) (K_Tier : Q1C P w K mg base CK4 10 "Tier" (spInitT ⟨CK1,CK5,CK3,CK2,CK4,CK0⟩)) (K_Weigher : Q1C P w K mg base CK5 6 "Weigher" (Q2B CK5 CK3)) (M_Tier_hand_charges : Q0h P w K mg base CK4 1 "hand_charges" (spChT ⟨CK1,CK5,CK3,CK2,CK4,CK0⟩)) (M_Hand_hear : Q0h P w K mg base CK1 6 "hear" (Q3e CK1)) (M_Weigher_hear : Q0h P w K mg base CK5 8 "hear" (Q1q CK5 CK3 false)) (M_Shifter_hear : Q0h P w K mg base CK3 8 "hear" (Q1q CK5 CK3 true)) (M_Rounder_hear : Q0h P w K mg base CK2 6 "hear" (Q3d CK2)) (M_Tier_hear : Q0h P w K mg base CK4 10 "hear" (Q4u ⟨CK1,CK5,CK3,CK2,CK4,CK0⟩)) (M_Follower_hear : Q0h P w K mg base CK0 6 "hear" (Q3f CK0)) : FnOk P w K mg base CX0 19 f fd ["_law_script"] (toSp K spLaw) := by
 refine okF (k := 18) Fn Q2p (λ ds O R h => ?_) (λ cdv A outer s H E ds O R hr h => ?_)
 ·obtain ⟨_,rfl,_⟩ := h; rfl
 ·obtain ⟨ns,rfl,hl,hR⟩ := h
  refine xs_keep ?_
  refine Q0c (Q0J 1 (EvP.ev (Q0g F_l_seed (hr.mono (by decide)) (Q0b (Q0a 0) (Q0b Q0f Q0e)) ⟨_,_,rfl,⟨by decide,by decide⟩,rfl⟩) ?_) Q2p.nd)
  generalize Q2y (Q1a ns 0) 0 = x
  refine Q0c (x_asgE (Q1R F_l_many (hr.mono (by decide)) (Q0b (Q0a 1) Q0e) ⟨⟨_,rfl⟩,λ d hd => ?_⟩))
  obtain ⟨m,rfl,hm1,hm2⟩ := hd
  have hm : 1 <= m /\ m <= 24 := ⟨hm1,hm2⟩
  refine ⟨_,Q0t 2 Q2p.nd,?_⟩
  refine Q0c (Q0J 3 (EvP.ev (Q0g F_l_turns (hr.mono (by decide)) (Q0b (Q0a 0) (Q0b Q0f (Q0b (Q0a 2) (Q0b Q0f (Q0b (Q3a (Q0j (Q0j (Q0a 1) Q0f (Q3H ⟨(by first | decide | omega),(by first | decide | omega)⟩)) Q0f (Q2f (by first | decide | omega))) Q0f Q0M) Q0e))))) ⟨ns,3,m,1,_,rfl,hl,⟨by decide,by decide⟩,hm2,by decide,rfl⟩) ?_) Q2p.nd)
  have hts := turnsR_ok (ns := ns) (st := 3) (m := m) (s := 1) (sl := decide (x / 20000 % 3 = 1)) (by decide)
  have htl := turnsR_len24 ns 3 m 1 (decide (x / 20000 % 3 = 1))
  generalize turnsR ns 3 m 1 (decide (x / 20000 % 3 = 1)) = ts at hts htl
  have htl63 : ts.length <= 63 := by omega
  refine Q0c (x_asgE (Q1R F_l_hands (hr.mono (by decide)) (Q0b (Q0a 2) (Q0b Q0f (Q0b (Q0g F_l_seed (hr.mono (by decide)) (Q0b (Q0a 0) (Q0b Q0f Q0e)) ⟨_,_,rfl,⟨by decide,by decide⟩,rfl⟩) Q0e))) ⟨m,1,_,rfl,seed_lo _ _,hm,by decide,λ O1 pv hup hP hpl => ⟨_,Q0t 4 Q2p.nd,?_⟩⟩))
  refine Q0c (x_asgE (EvP.ev (Q0g F_l_fraction (hr.mono (by decide)) (Q0b (Q0g F_l_seed (hr.mono (by decide)) (Q0b (Q0a 0) (Q0b Q0f Q0e)) ⟨_,_,rfl,⟨by decide,by decide⟩,rfl⟩) Q0e) ⟨_,rfl,rfl⟩) ⟨_,Q2I (Q0w (Q0t 5 Q2p.nd) (Q0w (Q0t 6 Q2p.nd) Q1S)),?_⟩))
  have hfb := fbF_ok (Q2y (Q1a ns 2) 2)
  have hft := ftF_ok (Q2y (Q1a ns 2) 2)
  generalize ftF (Q2y (Q1a ns 2) 2) = t at hft
  generalize fbF (Q2y (Q1a ns 2) 2) = b at hft hfb
  have hf : Frac 1 t b := ⟨by decide,by decide,hft.1,hft.2,hfb.2⟩
  obtain ⟨n,hn⟩ : ∃ n,n = pv.length := ⟨_,rfl⟩
  have hnI : (1 : Int) <= (n : Nat) /\ ((n : Nat) : Int) <= 24 := ⟨by omega,by omega⟩
  obtain ⟨p,hpp⟩ : ∃ p : SP,p = ⟨(n : Nat),1,t,b,1,2⟩ := ⟨_,rfl⟩
  have hVp : VOk false p := by rw [hpp]; exact ⟨hf,hnI.1,hnI.2,λ z => by cases z⟩
  have hpm : p.m = (n : Nat) := by rw [hpp]
  have hpt : p.t = t := by rw [hpp]
  have hpb : p.b = b := by rw [hpp]
  have hps : p.sc = 1 := by rw [hpp]
  have okd : HvOk 0 n 1 (.v false p (List.replicate n 1) 1) := ⟨hVp,hpm,hps,Q4a n,List.length_replicate⟩
  refine Q0c (Q0J 7 (ev_makeA K_Tier (hr.mono (by decide)) (es_consA (EvP.ev (Q0a 4) (es_consA (Q2d K_Weigher (hr.mono (by decide)) (Q0b (Q0v T.b_len (Q0b (Q0a 4) Q0e) (Q3q (by first | exact Or.inr rfl | exact Or.inl (Or.inl rfl) | exact Or.inl (Or.inr (Or.inl rfl)) | exact Or.inl (Or.inr (Or.inr ⟨_,rfl,by first | assumption | rfl⟩))))) (Q0b Q0f (Q0b (Q0a 5) (Q0b (Q0a 6) Q0e)))) ⟨O1.length,false,p,by rw [hpp,List.length_map,hn],st0,hVp,rfl,?_⟩))))) Q2p.nd)
  rw [ss0]
  have hw : (O1 ++ [some (MO.ins (wsC CK5 CK3 false) (Q1B p.m p.sc p.t p.b (List.replicate p.m.toNat 1) 1))])[O1.length]? = some (some (Cs.o ⟨CK1,CK5,CK3,CK2,CK4,CK0⟩ (n : Nat) 1 (.v false p (List.replicate n 1) 1))) := by
   rw [st0,hpm,Int.toNat_natCast]
   show _ = some (some (MO.ins CK5 (Q1B p.m p.sc p.t p.b (List.replicate n 1) 1)))
   rw [hpm]; rfl
  have hP2 := hP.app (Y := [some (MO.ins (wsC CK5 CK3 false) (Q1B p.m p.sc p.t p.b (List.replicate p.m.toNat 1) 1))])
  have hup2 := up_app (Z := [some (MO.ins (wsC CK5 CK3 false) (Q1B p.m p.sc p.t p.b (List.replicate p.m.toNat 1) 1))]) hup
  have hlt : ∀ z ∈ pv,z.1 < O1.length := λ z hz => (List.getElem?_eq_some_iff.mp (hP z hz).1).1
  have hO2l : (O1 ++ [some (MO.ins (wsC CK5 CK3 false) (Q1B p.m p.sc p.t p.b (List.replicate p.m.toNat 1) 1))]).length = O1.length + 1 := by rw [List.length_append]; rfl
  generalize O1 ++ [some (MO.ins (wsC CK5 CK3 false) (Q1B p.m p.sc p.t p.b (List.replicate p.m.toNat 1) 1))] = O2 at hw hP2 hup2 hO2l
  refine EvPs.as Q0e ⟨O2.length,m,1,pv,O1.length,.v false p (List.replicate n 1) 1,O2,rfl,rfl,rfl,pv_in hP2,λ z hz => by rw [List.mem_singleton.mp hz,<- hn]; exact ⟨hw,0,okd⟩,hm,by decide,by omega,rfl,?_⟩
  have hhl : (pv.map (·.2)).length = n := by rw [List.length_map,hn]
  have hho : ∀ v ∈ pv.map (·.2),HvOk 0 m 1 v := λ v hv => by
   obtain ⟨z,hz,rfl⟩ := List.mem_map.mp hv
   exact (hP z hz).2
  have hT0 := newT_at (C := ⟨CK1,CK5,CK3,CK2,CK4,CK0⟩) (O := O2) (Y := []) (m := m) (s := 1) (hs := pv.map (·.2)) (hd := .v false p (List.replicate n 1) 1)
  rw [List.append_nil] at hT0
  obtain ⟨xx,hxx⟩ : ∃ xx : Hx,xx = .t (pv.map (·.2)) (.v false p (List.replicate n 1) 1) (List.replicate n 0) := ⟨_,rfl⟩
  have hxo : HOk 0 m 1 xx := by
   rw [hxx]
   exact show TOk 0 m 1 (pv.map (·.2)) (.v false p (List.replicate n 1) 1) (List.replicate n 0) from ⟨hho,by rw [hhl]; exact okd,by omega,by omega,by rw [List.length_replicate,hhl]⟩
  have hA : HAt ⟨CK1,CK5,CK3,CK2,CK4,CK0⟩ (O2 ++ newT ⟨CK1,CK5,CK3,CK2,CK4,CK0⟩ m 1 O2.length (pv.map (·.2)) (.v false p (List.replicate n 1) 1)) O2.length m 1 (Q4Y m xx) := by rw [hxx]; exact hT0
  have hup3 := up_app (Z := newT ⟨CK1,CK5,CK3,CK2,CK4,CK0⟩ m 1 O2.length (pv.map (·.2)) (.v false p (List.replicate n 1) 1)) hup2
  have hP3 := hP2.app (Y := newT ⟨CK1,CK5,CK3,CK2,CK4,CK0⟩ m 1 O2.length (pv.map (·.2)) (.v false p (List.replicate n 1) 1))
  generalize O2 ++ newT ⟨CK1,CK5,CK3,CK2,CK4,CK0⟩ m 1 O2.length (pv.map (·.2)) (.v false p (List.replicate n 1) 1) = O3 at hA hup3 hP3
  obtain ⟨Q,hQ⟩ : ∃ Q,Q = O2.length := ⟨_,rfl⟩
  rw [<- hQ] at hA ⊢
  have hltQ : ∀ z ∈ pv,z.1 < Q := λ z hz => by have := hlt z hz; omega
  have hOQ : O.length <= Q := by
   obtain ⟨Y,rfl⟩ := hup2
   rw [List.length_append] at hQ; omega
  -- what the head is bound by
  have hbd : ∀ (i : Nat) (z : Nat × Hv),pv[i]? = some z -> ∃ c e : Nat,Q2H (sayK m z.2 ts) ts = (c : Nat) /\ Q2H (Q2z m xx ts) ts = (e : Nat) /\ c <= 24 /\ e <= 24 /\ le17 (n : Nat) t b c e := λ i z hz => by
   obtain ⟨c,e,h1,h2,h3,h4,h5⟩ := head_bound (p := p) (ws := List.replicate n 1) (u := 1) (i := i) (v := z.2) (by rw [hpt,hpb]; exact hf) hps hho (by omega) (by omega) hm2 hts (by rw [List.getElem?_map,hz]; rfl)
   rw [hhl] at h2 h5
   rw [hpt,hpb] at h5
   refine ⟨c,e,h1,?_,by omega,by omega,h5⟩
   rw [<- h2]
   exact wrong_congr λ k hk => by rw [hxx,says_tier hk,hhl]
  obtain ⟨z0,hz0⟩ : ∃ z,pv[0]? = some z := ⟨_,List.getElem?_eq_getElem (by omega)⟩
  obtain ⟨_,e0,_,hW,_,he24,_⟩ := hbd 0 z0 hz0
  have esay : ((List.range ts.length).map (Q2z m (Q4Y m xx) ts)) = (List.range ts.length).map (Q2z m xx ts) := List.map_congr_left λ k _ => saysX_anew m xx ts k
  refine Q0c (Q0J 8 (EvP.ev (EvP.cast (Ev.evp (Q1R F_ran (hr.mono (by decide)) (Q0b (Q0a 7) (Q0b (Q0a 3) Q0e)) ⟨Q,0,m,1,Q4Y m xx,ts,rfl,hA,hxo.anew,hm,by decide,hts,htl63,rfl,rfl⟩)) (congrArg (λ l : List Int => D.tup (l.map D.int)) esay)) ?_) Q2p.nd)
  have hzl : ∀ f : Nat -> Int,(((List.range ts.length).map f).zip ts).length <= sizeLine := λ f => by rw [sizeLine_eq,List.length_zip]; omega
  refine Q0c (Q0J 9 (EvP.ev (EvP.cast (Q0v T.b_len (Q0b (Q5m (λ q : Int × Tn => if (!decide (q.1 = q.2.2)) = true then some (D.int 1) else none) ["_law_what","_law_turn_here"] [] [] (ei_Z (Q3o (Q0a 8) (Q0a 3) (by first | exact Or.inl rfl | exact Or.inr (Or.inl rfl) | exact Or.inr (Or.inr rfl) | assumption) (by first | exact Or.inl rfl | exact Or.inr (Or.inl rfl) | exact Or.inr (Or.inr rfl) | assumption) T.b_zip)) (hzl _) (by exact λ q hq s H fp => ⟨[some _,some _],rfl,(Q2I (Q0w (Q0t 0 (show List.Nodup (["_law_what","_law_turn_here"] : List Str) by decide +kernel)) (Q0w (Q0t 1 (show List.Nodup (["_law_what","_law_turn_here"] : List Str) by decide +kernel)) Q1S))),⟨_,(Q0A (Q0a 0) (Q2E (Q0a 1) Q0f rfl) Q3X),λ hbb => ⟨_,if_pos hbb,Q0f⟩,λ hbb => if_neg (λ hcc => Bool.false_ne_true (hbb.symm.trans hcc))⟩⟩)) Q0e) (Q3q (by first | exact Or.inr rfl | exact Or.inl (Or.inl rfl) | exact Or.inl (Or.inr (Or.inl rfl)) | exact Or.inl (Or.inr (Or.inr ⟨_,rfl,by first | assumption | rfl⟩))))) (congrArg D.int ((cnt_zip (Q2z m xx ts) ts).trans hW))) ?_) Q2p.nd)
  have hT : TAt ⟨CK1,CK5,CK3,CK2,CK4,CK0⟩ O3 Q m 1 ((pv.map (·.2)).map (Q1p m)) (Q1p (pv.map (·.2)).length (.v false p (List.replicate n 1) 1)) (List.replicate (pv.map (·.2)).length 0) := by rw [hxx] at hA; exact hA
  have hzr : (.tup (List.replicate ((pv.map λ z => D.ptr z.1).length : Int).toNat [D.int 0]).flatten : D) = .tup ((List.replicate (pv.map (·.2)).length (0 : Int)).map D.int) := by rw [zeros,List.length_map,List.length_map,Int.toNat_natCast]
  refine Q0c (x_if (EvT.cast (k' := false) (Q0A (Ev.evp (Q1Q M_Tier_hand_charges (hr.mono (by decide)) (Q0a 7) hT.o (tl_no _ _ _ _ _ (by decide +kernel)) ⟨Q,m,1,_,_,_,rfl,hT,rfl,rfl⟩)) (EvP.cast (Q0j (Q2D (Q0b Q0f Q0e)) (Q0v T.b_len (Q0b (Q0a 4) Q0e) (Q3q (by first | exact Or.inr rfl | exact Or.inl (Or.inl rfl) | exact Or.inl (Or.inr (Or.inl rfl)) | exact Or.inl (Or.inr (Or.inr ⟨_,rfl,by first | assumption | rfl⟩))))) (o_repT (by rw [List.length_map]; omega) (by rw [List.length_map]; omega) (by simp) (by rw [sizeLine_eq,List.length_map,Int.toNat_natCast]; show 1 * _ <= _; omega))) hzr) (cmp_neD hr (Or.inl rfl) (Or.inl rfl) (plT _) (plT _) (Nat.le_trans (Nat.min_le_left _ _) (dp_ints _)))) (by rw [eqD_selfI]; rfl)) (λ hk => by cases hk) (λ _ => Q0p ?_))
  have hev := evX_ok hxo hm2 hts
  have hsz := λ i hi => siz_ev (m := m) (x := xx) (ts := ts) i hi
  refine Q0c (Q4O (Q3I (Q0a 3) (by first | exact Or.inl rfl | exact Or.inr (Or.inl rfl) | exact Or.inr (Or.inr rfl) | assumption)) (λ i ρ O' => (∃ v10 v11 : Option D,ρ = [some (.scr (ns.map D.int)),some (.int x),some (.int (m : Nat)),some (.tup (ts.map tD)),some (.tup (pv.map λ z => D.ptr z.1)),some (.int t),some (.int b),some (.ptr Q),some (.tup (((List.range ts.length).map (Q2z m xx ts)).map D.int)),some (.int (e0 : Nat)),v10,v11,none,none,none]) /\ BlX Q (sizX xx) O3 O' /\ HAt ⟨CK1,CK5,CK3,CK2,CK4,CK0⟩ O' Q m 1 (evX m xx ts i)) ⟨⟨_,_,rfl⟩,BlX.refl _ _ _,hA⟩ ?_ ?_)
  ·rintro i z ρ O' hz ⟨⟨v10,v11,rfl⟩,hb,hA'⟩
   rw [List.getElem?_map] at hz
   obtain ⟨tn,hq,rfl⟩ := Option.map_eq_some_iff.mp hz
   have hi := (List.getElem?_eq_some_iff.mp hq).1
   have hok1 := hts tn (List.mem_of_getElem? hq)
   have he := hev i (by omega)
   have hz1 := hsz i (by omega)
   rw [Q4n hq]
   refine ⟨_,Q2I (Q0w (Q0t 10 Q2p.nd) (Q0w (Q0t 11 Q2p.nd) Q1S)),?_⟩
   refine Q0c (Q0D (ev_hearX (C := ⟨CK1,CK5,CK3,CK2,CK4,CK0⟩) M_Hand_hear M_Weigher_hear M_Shifter_hear M_Rounder_hear (hr.mono (by decide)) (hr.mono (by decide)) (hr.mono (by decide)) M_Follower_hear (hr.mono (by decide)) M_Tier_hear (hr.mono (by decide)) (Q0a 7) hA' he (by omega) hm (hok1.said hm2) hok1.2.2 (Q0b (Q0a 10) (Q0b (Q0a 11) Q0e)) λ O4 hb4 hA4 => ?_))
   rw [hz1] at hb4
   exact Q0p ⟨⟨_,_,rfl⟩,hb.trans hb4,hA4⟩
  rintro ρ O4 ⟨⟨v10,v11,rfl⟩,hb4,hA4⟩
  rw [List.length_map] at hA4
  have hev4 : evX m xx ts ts.length = .t ((pv.map (·.2)).map λ v => evH m v ts ts.length) (evH (pv.map (·.2)).length (.v false p (List.replicate n 1) 1) (tbT m (pv.map (·.2)) ts) ts.length) ((pv.map (·.2)).map λ v => Q3l m v ts ts.length) := by rw [hxx]; exact ev_tier _ (Nat.le_refl _)
  rw [hev4] at hA4
  have hT4 : TAt ⟨CK1,CK5,CK3,CK2,CK4,CK0⟩ O4 Q m 1 ((pv.map (·.2)).map λ v => evH m v ts ts.length) (evH (pv.map (·.2)).length (.v false p (List.replicate n 1) 1) (tbT m (pv.map (·.2)) ts) ts.length) ((pv.map (·.2)).map λ v => Q3l m v ts ts.length) := hA4
  have hP4 : PvA0 ⟨CK1,CK5,CK3,CK2,CK4,CK0⟩ O4 m 1 pv := λ z hz => ⟨by rw [hb4.o z.1 (.inl (hltQ z hz))]; exact (hP3 z hz).1,(hP z hz).2⟩
  have hup4 : ∃ Y,O4 = O ++ Y := by
   obtain ⟨Y,rfl⟩ := hup3
   refine ⟨O4.drop O.length,?_⟩
   have hlen := hb4.l
   rw [List.length_append] at hlen
   refine List.ext_getElem? λ j => ?_
   by_cases hj : j < O.length
   ·rw [hb4.o j (.inl (by omega)),List.getElem?_append_left hj,List.getElem?_append_left hj]
   ·rw [List.getElem?_append_right (by omega),List.getElem?_drop,show O.length + (j - O.length) = j by omega]
  have echs : ((pv.map (·.2)).map λ v => Q3l m v ts ts.length).zip pv = pv.map λ z => (Q3l m z.2 ts ts.length,z) := by
   rw [List.map_map]
   have : (pv.map ((λ v => Q3l m v ts ts.length) ∘ (·.2))).zip (pv.map id) = pv.map λ z => (Q3l m z.2 ts ts.length,z) := List.zip_map' ..
   rw [List.map_id] at this
   exact this
  clear hA hA4 hT hP3 hb4 hup3 hev hsz esay
  refine Q0c (Q4O (ei_Z (Q3o (Ev.evp (Q1Q M_Tier_hand_charges (hr.mono (by decide)) (Q0a 7) hT4.o (tl_no _ _ _ _ _ (by decide +kernel)) ⟨Q,m,1,_,_,_,rfl,hT4,rfl,rfl⟩)) (Q0a 4) (by first | exact Or.inl rfl | exact Or.inr (Or.inl rfl) | exact Or.inr (Or.inr rfl) | assumption) (by first | exact Or.inl rfl | exact Or.inr (Or.inl rfl) | exact Or.inr (Or.inr rfl) | assumption) T.b_zip)) (λ i ρ O' => O' = O4 /\ ∃ v10 v11 v12 v13 v14 : Option D,ρ = [some (.scr (ns.map D.int)),some (.int x),some (.int (m : Nat)),some (.tup (ts.map tD)),some (.tup (pv.map λ z => D.ptr z.1)),some (.int t),some (.int b),some (.ptr Q),some (.tup (((List.range ts.length).map (Q2z m xx ts)).map D.int)),some (.int (e0 : Nat)),v10,v11,v12,v13,v14]) ⟨rfl,_,_,_,_,_,rfl⟩ ?_ ?_)
  ·rintro i w ρ O' hw2 ⟨hO,v10,v11,v12,v13,v14,rfl⟩
   subst hO
   rw [echs,List.map_map,List.getElem?_map] at hw2
   obtain ⟨z,hz,rfl⟩ := Option.map_eq_some_iff.mp hw2
   obtain ⟨c,e,hc,he,hc24,he24',hle⟩ := hbd i z hz
   have hee : e = e0 := by rw [hW] at he; omega
   subst hee
   have hzm := List.mem_of_getElem? hz
   have hpd : Q3l m z.2 ts ts.length = (c : Nat) := by rw [paid_wrong (hP z hzm).2 hm2 hts]; exact hc
   show ∃ ρ1,Tg _ _ (D.tup [.int (Q3l m z.2 ts ts.length),.ptr z.1]) _ ρ1 /\ _
   rw [hpd]
   refine ⟨_,Q2I (Q0w (Q0t 12 Q2p.nd) (Q0w (Q0t 13 Q2p.nd) Q1S)),?_⟩
   have hxa : HAt ⟨CK1,CK5,CK3,CK2,CK4,CK0⟩ O' z.1 m 1 (.p z.2) := (hP4 z hzm).1
   have hxk : HOk 0 m 1 (.p z.2) := (hP z hzm).2
   have ecn : Q2H (Q2z m (.p z.2) ts) ts = (c : Nat) := by rw [wrong_congr λ k _ => says_plain m z.2 ts k]; exact hc
   refine Q0c (x_if (EvT.cast (k' := false) (Q0A (Q0a 12) (EvP.cast (Q0v T.b_len (Q0b (Q5m (λ q : Int × Tn => if (!decide (q.1 = q.2.2)) = true then some (D.int 1) else none) ["_law_what","_law_turn_here"] [] [] (ei_Z (Q3o (Ev.evp (Q1R F_ran (hr.mono (by decide)) (Q0b (Q0a 13) (Q0b (Q0a 3) Q0e)) ⟨z.1,0,m,1,.p z.2,ts,rfl,hxa,hxk,hm,by decide,hts,htl63,rfl,rfl⟩)) (Q0a 3) (by first | exact Or.inl rfl | exact Or.inr (Or.inl rfl) | exact Or.inr (Or.inr rfl) | assumption) (by first | exact Or.inl rfl | exact Or.inr (Or.inl rfl) | exact Or.inr (Or.inr rfl) | assumption) T.b_zip)) (hzl _) (by exact λ q hq s H fp => ⟨[some _,some _],rfl,(Q2I (Q0w (Q0t 0 (show List.Nodup (["_law_what","_law_turn_here"] : List Str) by decide +kernel)) (Q0w (Q0t 1 (show List.Nodup (["_law_what","_law_turn_here"] : List Str) by decide +kernel)) Q1S))),⟨_,(Q0A (Q0a 0) (Q2E (Q0a 1) Q0f rfl) Q3X),λ hbb => ⟨_,if_pos hbb,Q0f⟩,λ hbb => if_neg (λ hcc => Bool.false_ne_true (hbb.symm.trans hcc))⟩⟩)) Q0e) (Q3q (by first | exact Or.inr rfl | exact Or.inl (Or.inl rfl) | exact Or.inl (Or.inr (Or.inl rfl)) | exact Or.inl (Or.inr (Or.inr ⟨_,rfl,by first | assumption | rfl⟩))))) (congrArg D.int ((cnt_zip (Q2z m (.p z.2) ts) ts).trans ecn))) Q3X) (by rw [decide_eq_true rfl]; rfl)) (λ hk => by cases hk) (λ _ => Q0p ?_))
   have hOk : Ok17 (n : Nat) t b c := ⟨hnI.1,hnI.2,hft.1,hft.2,hfb.2,by omega⟩
   have hnl : (((pv.map λ z => D.ptr z.1).length : Nat) : Int) = (n : Nat) := by rw [List.length_map,hn]
   refine Q0c (x_if (EvT.cast (k' := false) (Q2u (Q3c (Q0g F_l_bound (hr.mono (by decide)) (Q0b (Q0v T.b_len (Q0b (Q0a 4) Q0e) (Q3q (by first | exact Or.inr rfl | exact Or.inl (Or.inl rfl) | exact Or.inl (Or.inr (Or.inl rfl)) | exact Or.inl (Or.inr (Or.inr ⟨_,rfl,by first | assumption | rfl⟩))))) (Q0b (Q0a 5) (Q0b (Q0a 6) (Q0b (Q0a 12) (Q0b (Q0a 9) Q0e))))) ⟨(n : Nat),t,b,c,e,by rw [hnl],hOk,by omega,rfl⟩))) (by rw [decide_eq_true hle]; rfl)) (λ hk => by cases hk) (λ _ => Q0p ?_))
   refine Q0c (x_asgE (Q1R F_most_errors (hr.mono (by decide)) (Q0b (Q0v T.b_len (Q0b (Q0a 4) Q0e) (Q3q (by first | exact Or.inr rfl | exact Or.inl (Or.inl rfl) | exact Or.inl (Or.inr (Or.inl rfl)) | exact Or.inl (Or.inr (Or.inr ⟨_,rfl,by first | assumption | rfl⟩))))) (Q0b (Q0a 5) (Q0b (Q0a 6) (Q0b (Q0a 12) Q0e)))) ⟨⟨(n : Nat),t,b,(c : Nat),by rw [hnl],by omega,by rw [Int.toNat_natCast]; exact hOk⟩,λ d hd => ?_⟩))
   obtain ⟨m1,t1,b1,o1,hds,hcs⟩ := hd
   rw [hnl] at hds
   injection hds with q1 hds; injection hds with q2 hds; injection hds with q3 hds; injection hds with q4 _
   injection q1 with q1; injection q2 with q2; injection q3 with q3; injection q4 with q4
   subst q1; subst q2; subst q3; subst q4
   have hn24 : 1 <= n /\ n <= 24 := by omega
   have hfin : (decide (((c : Nat) : Int) = 0) && (decide (t = 0) && decide (((hv n : Nat) : Int) < ((e : Nat) : Int)))) = false := by
    by_cases hc0 : ((c : Nat) : Int) = 0
    ·by_cases ht0 : t = 0
     ·have hc0 : c = 0 := by omega
      subst hc0; subst ht0
      have := zero_bound (by have := hft.2; omega) hn24.1 hn24.2 (by omega) hle
      rw [decide_eq_false (show ¬ ((hv n : Nat) : Int) < ((e : Nat) : Int) by omega),Bool.and_false,Bool.and_false]
     ·rw [decide_eq_false ht0]; simp
    ·rw [decide_eq_false hc0]; rfl
   refine ⟨_,Q0t 14 Q2p.nd,?_⟩
   refine xs_seq (λ ρ O2 => O2 = O' /\ ∃ v14 : Option D,ρ = [some (.scr (ns.map D.int)),some (.int x),some (.int (m : Nat)),some (.tup (ts.map tD)),some (.tup (pv.map λ z => D.ptr z.1)),some (.int t),some (.int b),some (.ptr Q),some (.tup (((List.range ts.length).map (Q2z m xx ts)).map D.int)),some (.int (e : Nat)),v10,v11,some (.int (c : Nat)),some (.ptr z.1),v14]) ?_ ?_
   ·rcases hcs with ⟨h1,h2,rfl⟩ | ⟨h1,e',h2,rfl,h3,h4⟩
    ·refine x_if (Q0A (Q0a 14) Q2Z Q4o) (λ _ => ?_) (λ hk => by cases hk)
     exact Q0c (x_if (EvT.cast (k' := false) (EvW.t (ew_or (Q0A (Q0a 5) Q0f Q3X) (λ hbb => (Q4M (Q0A (Q0a 12) Q0f Q0M))))) (by rw [decide_eq_true h1,decide_eq_false (show ¬ ((c : Nat) : Int) = 0 by omega)]; rfl)) (λ hk => by cases hk) (λ _ => Q0p (Q0p ⟨rfl,_,rfl⟩)))
    ·rw [Int.toNat_natCast] at h3 h4
     have hee : ¬ ((e' : Nat) : Int) < ((e : Nat) : Int) := λ z => by
      have hlt : e' < e := by omega
      have hz := le17_upto (m := (n : Nat)) (o := c) hft.1 hft.2 (e := e' + 1) (d := e - (e' + 1)) (by rw [show e' + 1 + (e - (e' + 1)) = e by omega]; exact hle)
      exact h4 hz
     refine x_if (Q0A (Q0a 14) Q2Z Q4o) (λ hk => by cases hk) (λ _ => ?_)
     exact Q0c (x_if (EvT.cast (k' := false) (EvW.t (ew_or (Q0A (Q0a 9) (Q0a 14) cmp_gt) (λ hbb => (Q4M (Q3c (Q0g F_l_bound (hr.mono (by decide)) (Q0b (Q0v T.b_len (Q0b (Q0a 4) Q0e) (Q3q (by first | exact Or.inr rfl | exact Or.inl (Or.inl rfl) | exact Or.inl (Or.inr (Or.inl rfl)) | exact Or.inl (Or.inr (Or.inr ⟨_,rfl,by first | assumption | rfl⟩))))) (Q0b (Q0a 5) (Q0b (Q0a 6) (Q0b (Q0a 12) (Q0b (Q0j (Q0a 14) Q0f Q1P) Q0e))))) ⟨(n : Nat),t,b,c,e' + 1,by rw [hnl]; rfl,hOk,by omega,rfl⟩)))))) (by rw [decide_eq_false hee,decide_eq_false h4]; rfl)) (λ hk => by cases hk) (λ _ => Q0p (Q0p ⟨rfl,_,rfl⟩)))
   rintro ρ O2 ⟨hO,v14,rfl⟩
   subst hO
   exact Q0c (x_if (EvT.cast (k' := false) (EvW.t (ew_and (Q0A (Q0a 12) Q0f Q0M) (λ hbb => (ew_and (Q0A (Q0a 5) Q0f Q0M) (λ hbb => (ew_and1 (Q0A (Q0a 9) (Q0g F_halvings (hr.mono (by decide)) (Q0b (Q0v T.b_len (Q0b (Q0a 4) Q0e) (Q3q (by first | exact Or.inr rfl | exact Or.inl (Or.inl rfl) | exact Or.inl (Or.inr (Or.inl rfl)) | exact Or.inl (Or.inr (Or.inr ⟨_,rfl,by first | assumption | rfl⟩))))) Q0e) ⟨n,by rw [hnl],hn24,rfl⟩) cmp_gt))))))) hfin) (λ hk => by cases hk) (λ _ => Q0p (Q0p ⟨rfl,_,_,_,_,_,rfl⟩)))
  ·rintro ρ O' ⟨hO,v10,v11,v12,v13,v14,rfl⟩
   subst hO
   exact Q0c (Q0y (EvP.ev ev_bl ⟨hup4,rfl,hR⟩))
end
theorem len1 {α : Type} {us : List α} (h : us.length = 1) : ∃ x0,us = [x0] := by
 match us,h with
 | [x0],_ => exact ⟨_,rfl⟩
theorem len2 {α : Type} {us : List α} (h : us.length = 2) : ∃ x0 x1,us = [x0,x1] := by
 match us,h with
 | [x0,x1],_ => exact ⟨_,_,rfl⟩
theorem len3 {α : Type} {us : List α} (h : us.length = 3) : ∃ x0 x1 x2,us = [x0,x1,x2] := by
 match us,h with
 | [x0,x1,x2],_ => exact ⟨_,_,_,rfl⟩
theorem len4 {α : Type} {us : List α} (h : us.length = 4) : ∃ x0 x1 x2 x3,us = [x0,x1,x2,x3] := by
 match us,h with
 | [x0,x1,x2,x3],_ => exact ⟨_,_,_,_,rfl⟩
theorem len5 {α : Type} {us : List α} (h : us.length = 5) : ∃ x0 x1 x2 x3 x4,us = [x0,x1,x2,x3,x4] := by
 match us,h with
 | [x0,x1,x2,x3,x4],_ => exact ⟨_,_,_,_,_,rfl⟩
theorem len7 {α : Type} {us : List α} (h : us.length = 7) : ∃ x0 x1 x2 x3 x4 x5 x6,us = [x0,x1,x2,x3,x4,x5,x6] := by
 match us,h with
 | [x0,x1,x2,x3,x4,x5,x6],_ => exact ⟨_,_,_,_,_,_,_,rfl⟩
theorem all_mk {l : PySem.W.OpenLaw} {w : World} {K : PySem.W.Frag} {h : Heap} {mg : Str -> Option Value} {fa : Addr} (X : K.In h) (G : h.Ns mainGlobals mg) (hfa : mg "law" = some (.ref fa)) {f0 f1 f2 f3 f4 f5 f6 f7 f8 f9 f10 f11 f12 f13 f14 f15 f16 f17 f18 f19 f20 f21 f22 f23 f24 f25 f26 f27 f28 f29 f30 f31 f32 f33 f34 f35 f36 f37 f38 f39 f40 f41 f42 f43 f44 f45 f46 f47 f48 f49 f50 f51 f52 f53 f54 f55 f56 f57 f58 f59 f60 f61 f62 f63 f64 f65 f66 f67 f68 f69 f70 : Addr} {od0 an0 od1 an1 od2 an2 od3 an3 od4 an4 od5 an5 od6 an6 od7 an7 od8 an8 od9 an9 od10 an10 od11 an11 od12 an12 od13 an13 od14 an14 od15 an15 od16 an16 od17 an17 od18 an18 od19 an19 od20 an20 od21 an21 od22 an22 od23 an23 od24 an24 od25 an25 od26 an26 od27 an27 od28 an28 od29 an29 od30 an30 od31 an31 od32 an32 od33 an33 od34 an34 od35 an35 od36 an36 od37 an37 od38 an38 od39 an39 od40 an40 od41 an41 od42 an42 od43 an43 od44 an44 od45 an45 od46 an46 od47 an47 od48 an48 od49 an49 od50 an50 od51 an51 od52 an52 od53 an53 od54 an54 od55 an55 od56 an56 od57 an57 od58 an58 od59 an59 od60 an60 od61 an61 od62 an62 od63 an63 od64 an64 od65 an65 od66 an66 od67 an67 od68 an68 od69 an69 od70 an70 : Option Addr} {sl0 sl1 sl2 sl3 sl4 sl5 sl6 sl7 sl8 sl9 sl10 sl11 sl12 sl13 sl14 sl15 sl16 sl17 sl18 sl19 sl20 sl21 sl22 sl23 sl24 sl25 sl26 sl27 sl28 sl29 sl30 sl31 sl32 sl33 sl34 sl35 sl36 sl37 sl38 sl39 sl40 sl41 sl42 sl43 sl44 sl45 sl46 sl47 sl48 sl49 sl50 sl51 sl52 sl53 sl54 sl55 sl56 sl57 sl58 sl59 sl60 sl61 sl62 sl63 sl64 sl65 sl66 sl67 sl68 sl69 sl70 : Array (Option Value)} {oc0 kV0 dc0 pm0 cd0 ct0 oc1 kV1 dc1 pm1 cd1 ct1 oc2 kV2 dc2 pm2 cd2 ct2 oc3 kV3 dc3 pm3 cd3 ct3 oc4 kV4 dc4 pm4 cd4 ct4 oc5 kV5 dc5 pm5 cd5 ct5 oc6 kV6 dc6 pm6 cd6 ct6 oc7 kV7 dc7 pm7 cd7 ct7 oc8 kV8 dc8 pm8 cd8 ct8 oc9 kV9 dc9 pm9 cd9 ct9 oc10 kV10 dc10 pm10 cd10 ct10 oc11 kV11 dc11 pm11 cd11 ct11 oc12 kV12 dc12 pm12 cd12 ct12 oc13 kV13 dc13 pm13 cd13 ct13 oc14 kV14 dc14 pm14 cd14 ct14 oc15 kV15 dc15 pm15 cd15 ct15 oc16 kV16 dc16 pm16 cd16 ct16 oc17 kV17 dc17 pm17 cd17 ct17 oc18 kV18 dc18 pm18 cd18 ct18 oc19 kV19 dc19 pm19 cd19 ct19 oc20 kV20 dc20 pm20 cd20 ct20 oc21 kV21 dc21 pm21 cd21 ct21 oc22 kV22 dc22 pm22 cd22 ct22 oc23 kV23 dc23 pm23 cd23 ct23 oc24 kV24 dc24 pm24 cd24 ct24 oc25 kV25 dc25 pm25 cd25 ct25 oc26 kV26 dc26 pm26 cd26 ct26 oc27 kV27 dc27 pm27 cd27 ct27 oc28 kV28 dc28 pm28 cd28 ct28 oc29 kV29 dc29 pm29 cd29 ct29 oc30 kV30 dc30 pm30 cd30 ct30 oc31 kV31 dc31 pm31 cd31 ct31 oc32 kV32 dc32 pm32 cd32 ct32 oc33 kV33 dc33 pm33 cd33 ct33 oc34 kV34 dc34 pm34 cd34 ct34 oc35 kV35 dc35 pm35 cd35 ct35 oc36 kV36 dc36 pm36 cd36 ct36 oc37 kV37 dc37 pm37 cd37 ct37 oc38 kV38 dc38 pm38 cd38 ct38 oc39 kV39 dc39 pm39 cd39 ct39 oc40 kV40 dc40 pm40 cd40 ct40 oc41 kV41 dc41 pm41 cd41 ct41 oc42 kV42 dc42 pm42 cd42 ct42 oc43 kV43 dc43 pm43 cd43 ct43 oc44 kV44 dc44 pm44 cd44 ct44 oc45 kV45 dc45 pm45 cd45 ct45 oc46 kV46 dc46 pm46 cd46 ct46 oc47 kV47 dc47 pm47 cd47 ct47 oc48 kV48 dc48 pm48 cd48 ct48 oc49 kV49 dc49 pm49 cd49 ct49 oc50 kV50 dc50 pm50 cd50 ct50 oc51 kV51 dc51 pm51 cd51 ct51 oc52 kV52 dc52 pm52 cd52 ct52 oc53 kV53 dc53 pm53 cd53 ct53 oc54 kV54 dc54 pm54 cd54 ct54 oc55 kV55 dc55 pm55 cd55 ct55 oc56 kV56 dc56 pm56 cd56 ct56 oc57 kV57 dc57 pm57 cd57 ct57 oc58 kV58 dc58 pm58 cd58 ct58 oc59 kV59 dc59 pm59 cd59 ct59 oc60 kV60 dc60 pm60 cd60 ct60 oc61 kV61 dc61 pm61 cd61 ct61 oc62 kV62 dc62 pm62 cd62 ct62 oc63 kV63 dc63 pm63 cd63 ct63 oc64 kV64 dc64 pm64 cd64 ct64 oc65 kV65 dc65 pm65 cd65 ct65 oc66 kV66 dc66 pm66 cd66 ct66 oc67 kV67 dc67 pm67 cd67 ct67 oc68 kV68 dc68 pm68 cd68 ct68 oc69 kV69 dc69 pm69 cd69 ct69 oc70 kV70 dc70 pm70 cd70 ct70 : Value} {CK1 CK5 CK3 CK2 CK0 CK4 : Addr} {tk0 : Tok} {tk1 : Tok} {tk2 : Tok} {tk3 : Tok} {tk4 : Tok} {T42 : Addr} {cT42 : Value} {dT42 : Option Addr} {nT42 : Nat} {sT42 : Array (Option Value)}
  (aC0 : PySem.W.nsIn K mainGlobals "Hand" = some (some (.ref CK1)))
  (aC1 : PySem.W.nsIn K mainGlobals "Weigher" = some (some (.ref CK5)))
  (aC2 : PySem.W.nsIn K mainGlobals "Shifter" = some (some (.ref CK3)))
  (aC3 : PySem.W.nsIn K mainGlobals "Rounder" = some (some (.ref CK2)))
  (aC4 : PySem.W.nsIn K mainGlobals "Follower" = some (some (.ref CK0)))
  (aC5 : PySem.W.nsIn K mainGlobals "Tier" = some (some (.ref CK4)))
  (a0 : PySem.W.nsIn K mainGlobals "is_whole" = some (some (.ref f0)))
  (l0 : K.lookup f0 = some ⟨oc0,od0,.func (PySem.W.fnOf "is_whole" "is_whole" (Q0l Q2g) (Q0k Q2g) (Q0d Q2g) .none kV0 dc0 pm0 an0 cd0 ct0),sl0⟩)
  (c0 : PySem.W.codeIn K cd0 "is_whole" = true)
  (k0 : PySem.W.keepIn K (.ref f0) = true)
  (a1 : PySem.W.nsIn K mainGlobals "counted" = some (some (.ref f1)))
  (l1 : K.lookup f1 = some ⟨oc1,od1,.func (PySem.W.fnOf "counted" "counted" (Q0l Q2S) (Q0k Q2S) (Q0d Q2S) .none kV1 dc1 pm1 an1 cd1 ct1),sl1⟩)
  (c1 : PySem.W.codeIn K cd1 "counted" = true)
  (k1 : PySem.W.keepIn K (.ref f1) = true)
  (a2 : PySem.W.nsIn K mainGlobals "middle" = some (some (.ref f2)))
  (l2 : K.lookup f2 = some ⟨oc2,od2,.func (PySem.W.fnOf "middle" "middle" (Q0l Q3v) (Q0k Q3v) (Q0d Q3v) .none kV2 dc2 pm2 an2 cd2 ct2),sl2⟩)
  (c2 : PySem.W.codeIn K cd2 "middle" = true)
  (k2 : PySem.W.keepIn K (.ref f2) = true)
  (a3 : PySem.W.nsIn K mainGlobals "check_within" = some (some (.ref f3)))
  (l3 : K.lookup f3 = some ⟨oc3,od3,.func (PySem.W.fnOf "check_within" "check_within" (Q0l Q1e) (Q0k Q1e) (Q0d Q1e) .none kV3 dc3 pm3 an3 cd3 ct3),sl3⟩)
  (c3 : PySem.W.codeIn K cd3 "check_within" = true)
  (k3 : PySem.W.keepIn K (.ref f3) = true)
  (a4 : PySem.W.nsIn K mainGlobals "check_scale" = some (some (.ref f4)))
  (l4 : K.lookup f4 = some ⟨oc4,od4,.func (PySem.W.fnOf "check_scale" "check_scale" (Q0l Q1y) (Q0k Q1y) (Q0d Q1y) .none kV4 dc4 pm4 an4 cd4 ct4),sl4⟩)
  (c4 : PySem.W.codeIn K cd4 "check_scale" = true)
  (k4 : PySem.W.keepIn K (.ref f4) = true)
  (a5 : PySem.W.nsIn K mainGlobals "check_making" = some (some (.ref f5)))
  (l5 : K.lookup f5 = some ⟨oc5,od5,.func (PySem.W.fnOf "check_making" "check_making" (Q0l Q1f) (Q0k Q1f) (Q0d Q1f) .none kV5 dc5 pm5 an5 cd5 ct5),sl5⟩)
  (c5 : PySem.W.codeIn K cd5 "check_making" = true)
  (k5 : PySem.W.keepIn K (.ref f5) = true)
  (a6 : PySem.W.nsIn K mainGlobals "check_fraction" = some (some (.ref f6)))
  (l6 : K.lookup f6 = some ⟨oc6,od6,.func (PySem.W.fnOf "check_fraction" "check_fraction" (Q0l Q0O) (Q0k Q0O) (Q0d Q0O) .none kV6 dc6 pm6 an6 cd6 ct6),sl6⟩)
  (c6 : PySem.W.codeIn K cd6 "check_fraction" = true)
  (k6 : PySem.W.keepIn K (.ref f6) = true)
  (a7 : PySem.W.nsIn K mainGlobals "check_share" = some (some (.ref f7)))
  (l7 : K.lookup f7 = some ⟨oc7,od7,.func (PySem.W.fnOf "check_share" "check_share" (Q0l Q1x) (Q0k Q1x) (Q0d Q1x) .none kV7 dc7 pm7 an7 cd7 ct7),sl7⟩)
  (c7 : PySem.W.codeIn K cd7 "check_share" = true)
  (k7 : PySem.W.keepIn K (.ref f7) = true)
  (a8 : PySem.W.nsIn K mainGlobals "is_on_scale" = some (some (.ref f8)))
  (l8 : K.lookup f8 = some ⟨oc8,od8,.func (PySem.W.fnOf "is_on_scale" "is_on_scale" (Q0l Q1u) (Q0k Q1u) (Q0d Q1u) .none kV8 dc8 pm8 an8 cd8 ct8),sl8⟩)
  (c8 : PySem.W.codeIn K cd8 "is_on_scale" = true)
  (k8 : PySem.W.keepIn K (.ref f8) = true)
  (a9 : PySem.W.nsIn K mainGlobals "is_said" = some (some (.ref f9)))
  (l9 : K.lookup f9 = some ⟨oc9,od9,.func (PySem.W.fnOf "is_said" "is_said" (Q0l Q2Q) (Q0k Q2Q) (Q0d Q2Q) .none kV9 dc9 pm9 an9 cd9 ct9),sl9⟩)
  (c9 : PySem.W.codeIn K cd9 "is_said" = true)
  (k9 : PySem.W.keepIn K (.ref f9) = true)
  (a10 : PySem.W.nsIn K mainGlobals "check_said" = some (some (.ref f10)))
  (l10 : K.lookup f10 = some ⟨oc10,od10,.func (PySem.W.fnOf "check_said" "check_said" (Q0l Q1L) (Q0k Q1L) (Q0d Q1L) .none kV10 dc10 pm10 an10 cd10 ct10),sl10⟩)
  (c10 : PySem.W.codeIn K cd10 "check_said" = true)
  (k10 : PySem.W.keepIn K (.ref f10) = true)
  (a11 : PySem.W.nsIn K mainGlobals "power" = some (some (.ref f11)))
  (l11 : K.lookup f11 = some ⟨oc11,od11,.func (PySem.W.fnOf "power" "power" (Q0l Q4A) (Q0k Q4A) (Q0d Q4A) .none kV11 dc11 pm11 an11 cd11 ct11),sl11⟩)
  (c11 : PySem.W.codeIn K cd11 "power" = true)
  (k11 : PySem.W.keepIn K (.ref f11) = true)
  (a12 : PySem.W.nsIn K mainGlobals "charge" = some (some (.ref f12)))
  (l12 : K.lookup f12 = some ⟨oc12,od12,.func (PySem.W.fnOf "charge" "charge" (Q0l Q3B) (Q0k Q3B) (Q0d Q3B) .none kV12 dc12 pm12 an12 cd12 ct12),sl12⟩)
  (c12 : PySem.W.codeIn K cd12 "charge" = true)
  (k12 : PySem.W.keepIn K (.ref f12) = true)
  (a13 : PySem.W.nsIn K mainGlobals "is_turn" = some (some (.ref f13)))
  (l13 : K.lookup f13 = some ⟨oc13,od13,.func (PySem.W.fnOf "is_turn" "is_turn" (Q0l Q2P) (Q0k Q2P) (Q0d Q2P) .none kV13 dc13 pm13 an13 cd13 ct13),sl13⟩)
  (c13 : PySem.W.codeIn K cd13 "is_turn" = true)
  (k13 : PySem.W.keepIn K (.ref f13) = true)
  (a14 : PySem.W.nsIn K mainGlobals "check_turn" = some (some (.ref f14)))
  (l14 : K.lookup f14 = some ⟨oc14,od14,.func (PySem.W.fnOf "check_turn" "check_turn" (Q0l Q1J) (Q0k Q1J) (Q0d Q1J) .none kV14 dc14 pm14 an14 cd14 ct14),sl14⟩)
  (c14 : PySem.W.codeIn K cd14 "check_turn" = true)
  (k14 : PySem.W.keepIn K (.ref f14) = true)
  (a15 : PySem.W.nsIn K mainGlobals "awake_in" = some (some (.ref f15)))
  (l15 : K.lookup f15 = some ⟨oc15,od15,.func (PySem.W.fnOf "awake_in" "awake_in" (Q0l Q2i) (Q0k Q2i) (Q0d Q2i) .none kV15 dc15 pm15 an15 cd15 ct15),sl15⟩)
  (c15 : PySem.W.codeIn K cd15 "awake_in" = true)
  (k15 : PySem.W.keepIn K (.ref f15) = true)
  (a16 : PySem.W.nsIn K mainGlobals "middle_awake" = some (some (.ref f16)))
  (l16 : K.lookup f16 = some ⟨oc16,od16,.func (PySem.W.fnOf "middle_awake" "middle_awake" (Q0l Q1c) (Q0k Q1c) (Q0d Q1c) .none kV16 dc16 pm16 an16 cd16 ct16),sl16⟩)
  (c16 : PySem.W.codeIn K cd16 "middle_awake" = true)
  (k16 : PySem.W.keepIn K (.ref f16) = true)
  (a17 : PySem.W.nsIn K mainGlobals "times_awake" = some (some (.ref f17)))
  (l17 : K.lookup f17 = some ⟨oc17,od17,.func (PySem.W.fnOf "times_awake" "times_awake" (Q0l Q1s) (Q0k Q1s) (Q0d Q1s) .none kV17 dc17 pm17 an17 cd17 ct17),sl17⟩)
  (c17 : PySem.W.codeIn K cd17 "times_awake" = true)
  (k17 : PySem.W.keepIn K (.ref f17) = true)
  (a18 : PySem.W.nsIn K mainGlobals "times_asleep" = some (some (.ref f18)))
  (l18 : K.lookup f18 = some ⟨oc18,od18,.func (PySem.W.fnOf "times_asleep" "times_asleep" (Q0l Q1b) (Q0k Q1b) (Q0d Q1b) .none kV18 dc18 pm18 an18 cd18 ct18),sl18⟩)
  (c18 : PySem.W.codeIn K cd18 "times_asleep" = true)
  (k18 : PySem.W.keepIn K (.ref f18) = true)
  (a19 : PySem.W.nsIn K mainGlobals "times" = some (some (.ref f19)))
  (l19 : K.lookup f19 = some ⟨oc19,od19,.func (PySem.W.fnOf "times" "times" (Q0l Q4z) (Q0k Q4z) (Q0d Q4z) .none kV19 dc19 pm19 an19 cd19 ct19),sl19⟩)
  (c19 : PySem.W.codeIn K cd19 "times" = true)
  (k19 : PySem.W.keepIn K (.ref f19) = true)
  (a20 : PySem.W.nsIn K mainGlobals "check_turns" = some (some (.ref f20)))
  (l20 : K.lookup f20 = some ⟨oc20,od20,.func (PySem.W.fnOf "check_turns" "check_turns" (Q0l Q1w) (Q0k Q1w) (Q0d Q1w) .none kV20 dc20 pm20 an20 cd20 ct20),sl20⟩)
  (c20 : PySem.W.codeIn K cd20 "check_turns" = true)
  (k20 : PySem.W.keepIn K (.ref f20) = true)
  (a21 : PySem.W.nsIn K mainGlobals "check_push" = some (some (.ref f21)))
  (l21 : K.lookup f21 = some ⟨oc21,od21,.func (PySem.W.fnOf "check_push" "check_push" (Q0l Q1M) (Q0k Q1M) (Q0d Q1M) .none kV21 dc21 pm21 an21 cd21 ct21),sl21⟩)
  (c21 : PySem.W.codeIn K cd21 "check_push" = true)
  (k21 : PySem.W.keepIn K (.ref f21) = true)
  (a22 : PySem.W.nsIn K mainGlobals "push_of" = some (some (.ref f22)))
  (l22 : K.lookup f22 = some ⟨oc22,od22,.func (PySem.W.fnOf "push_of" "push_of" (Q0l Q2K) (Q0k Q2K) (Q0d Q2K) .none kV22 dc22 pm22 an22 cd22 ct22),sl22⟩)
  (c22 : PySem.W.codeIn K cd22 "push_of" = true)
  (k22 : PySem.W.keepIn K (.ref f22) = true)
  (a23 : PySem.W.nsIn K mainGlobals "first_least" = some (some (.ref f23)))
  (l23 : K.lookup f23 = some ⟨oc23,od23,.func (PySem.W.fnOf "first_least" "first_least" (Q0l Q1v) (Q0k Q1v) (Q0d Q1v) .none kV23 dc23 pm23 an23 cd23 ct23),sl23⟩)
  (c23 : PySem.W.codeIn K cd23 "first_least" = true)
  (k23 : PySem.W.keepIn K (.ref f23) = true)
  (a24 : PySem.W.findIn K (.ref CK1) "__init__" = some (some (.ref f24)))
  (i24 : PySem.W.isFn K (.ref f24) = true)
  (l24 : K.lookup f24 = some ⟨oc24,od24,.func (PySem.W.fnOf "__init__" "Hand.__init__" (Q0l Q0V) (Q0k Q0V) (Q0d Q0V) .none kV24 dc24 pm24 an24 cd24 ct24),sl24⟩)
  (c24 : PySem.W.codeIn K cd24 "Hand.__init__" = true)
  (k24 : PySem.W.keepIn K (.ref f24) = true)
  (a25 : PySem.W.findIn K (.ref CK1) "heeded" = some (some (.ref f25)))
  (i25 : PySem.W.isFn K (.ref f25) = true)
  (l25 : K.lookup f25 = some ⟨oc25,od25,.func (PySem.W.fnOf "heeded" "Hand.heeded" (Q0l Q1z) (Q0k Q1z) (Q0d Q1z) .none kV25 dc25 pm25 an25 cd25 ct25),sl25⟩)
  (c25 : PySem.W.codeIn K cd25 "Hand.heeded" = true)
  (k25 : PySem.W.keepIn K (.ref f25) = true)
  (a26 : PySem.W.findIn K (.ref CK5) "heeded" = some (some (.ref f26)))
  (i26 : PySem.W.isFn K (.ref f26) = true)
  (l26 : K.lookup f26 = some ⟨oc26,od26,.func (PySem.W.fnOf "heeded" "Weigher.heeded" (Q0l Q0P) (Q0k Q0P) (Q0d Q0P) .none kV26 dc26 pm26 an26 cd26 ct26),sl26⟩)
  (c26 : PySem.W.codeIn K cd26 "Weigher.heeded" = true)
  (k26 : PySem.W.keepIn K (.ref f26) = true)
  (a27 : PySem.W.findIn K (.ref CK2) "heeded" = some (some (.ref f27)))
  (i27 : PySem.W.isFn K (.ref f27) = true)
  (l27 : K.lookup f27 = some ⟨oc27,od27,.func (PySem.W.fnOf "heeded" "Rounder.heeded" (Q0l Q0Q) (Q0k Q0Q) (Q0d Q0Q) .none kV27 dc27 pm27 an27 cd27 ct27),sl27⟩)
  (c27 : PySem.W.codeIn K cd27 "Rounder.heeded" = true)
  (k27 : PySem.W.keepIn K (.ref f27) = true)
  (a28 : PySem.W.findIn K (.ref CK1) "say" = some (some (.ref f28)))
  (i28 : PySem.W.isFn K (.ref f28) = true)
  (l28 : K.lookup f28 = some ⟨oc28,od28,.func (PySem.W.fnOf "say" "Hand.say" (Q0l Q2l) (Q0k Q2l) (Q0d Q2l) .none kV28 dc28 pm28 an28 cd28 ct28),sl28⟩)
  (c28 : PySem.W.codeIn K cd28 "Hand.say" = true)
  (k28 : PySem.W.keepIn K (.ref f28) = true)
  (a29 : PySem.W.findIn K (.ref CK1) "hear" = some (some (.ref f29)))
  (i29 : PySem.W.isFn K (.ref f29) = true)
  (l29 : K.lookup f29 = some ⟨oc29,od29,.func (PySem.W.fnOf "hear" "Hand.hear" (Q0l Q1X) (Q0k Q1X) (Q0d Q1X) .none kV29 dc29 pm29 an29 cd29 ct29),sl29⟩)
  (c29 : PySem.W.codeIn K cd29 "Hand.hear" = true)
  (k29 : PySem.W.keepIn K (.ref f29) = true)
  (a30 : PySem.W.findIn K (.ref CK1) "anew" = some (some (.ref f30)))
  (i30 : PySem.W.isFn K (.ref f30) = true)
  (l30 : K.lookup f30 = some ⟨oc30,od30,.func (PySem.W.fnOf "anew" "Hand.anew" (Q0l Q1Y) (Q0k Q1Y) (Q0d Q1Y) .none kV30 dc30 pm30 an30 cd30 ct30),sl30⟩)
  (c30 : PySem.W.codeIn K cd30 "Hand.anew" = true)
  (k30 : PySem.W.keepIn K (.ref f30) = true)
  (a31 : PySem.W.findIn K (.ref CK2) "__init__" = some (some (.ref f31)))
  (i31 : PySem.W.isFn K (.ref f31) = true)
  (l31 : K.lookup f31 = some ⟨oc31,od31,.func (PySem.W.fnOf "__init__" "Rounder.__init__" (Q0l Q0I) (Q0k Q0I) (Q0d Q0I) .none kV31 dc31 pm31 an31 cd31 ct31),sl31⟩)
  (c31 : PySem.W.codeIn K cd31 "Rounder.__init__" = true)
  (k31 : PySem.W.keepIn K (.ref f31) = true)
  (a32 : PySem.W.findIn K (.ref CK2) "hear" = some (some (.ref f32)))
  (i32 : PySem.W.isFn K (.ref f32) = true)
  (l32 : K.lookup f32 = some ⟨oc32,od32,.func (PySem.W.fnOf "hear" "Rounder.hear" (Q0l Q1l) (Q0k Q1l) (Q0d Q1l) .none kV32 dc32 pm32 an32 cd32 ct32),sl32⟩)
  (c32 : PySem.W.codeIn K cd32 "Rounder.hear" = true)
  (k32 : PySem.W.keepIn K (.ref f32) = true)
  (a33 : PySem.W.findIn K (.ref CK2) "anew" = some (some (.ref f33)))
  (i33 : PySem.W.isFn K (.ref f33) = true)
  (l33 : K.lookup f33 = some ⟨oc33,od33,.func (PySem.W.fnOf "anew" "Rounder.anew" (Q0l Q1m) (Q0k Q1m) (Q0d Q1m) .none kV33 dc33 pm33 an33 cd33 ct33),sl33⟩)
  (c33 : PySem.W.codeIn K cd33 "Rounder.anew" = true)
  (k33 : PySem.W.keepIn K (.ref f33) = true)
  (a34 : PySem.W.findIn K (.ref CK5) "__init__" = some (some (.ref f34)))
  (i34 : PySem.W.isFn K (.ref f34) = true)
  (l34 : K.lookup f34 = some ⟨oc34,od34,.func (PySem.W.fnOf "__init__" "Weigher.__init__" (Q0l Q0G) (Q0k Q0G) (Q0d Q0G) .none kV34 dc34 pm34 an34 cd34 ct34),sl34⟩)
  (c34 : PySem.W.codeIn K cd34 "Weigher.__init__" = true)
  (k34 : PySem.W.keepIn K (.ref f34) = true)
  (a35 : PySem.W.findIn K (.ref CK3) "__init__" = some (some (.ref f35)))
  (i35 : PySem.W.isFn K (.ref f35) = true)
  (l35 : K.lookup f35 = some ⟨oc35,od35,.func (PySem.W.fnOf "__init__" "Shifter.__init__" (Q0l Q0H) (Q0k Q0H) (Q0d Q0H) .none kV35 dc35 pm35 an35 cd35 ct35),sl35⟩)
  (c35 : PySem.W.codeIn K cd35 "Shifter.__init__" = true)
  (k35 : PySem.W.keepIn K (.ref f35) = true)
  (a36 : PySem.W.findIn K (.ref CK5) "weigh" = some (some (.ref f36)))
  (i36 : PySem.W.isFn K (.ref f36) = true)
  (l36 : K.lookup f36 = some ⟨oc36,od36,.func (PySem.W.fnOf "weigh" "Weigher.weigh" (Q0l Q0T) (Q0k Q0T) (Q0d Q0T) .none kV36 dc36 pm36 an36 cd36 ct36),sl36⟩)
  (c36 : PySem.W.codeIn K cd36 "Weigher.weigh" = true)
  (k36 : PySem.W.keepIn K (.ref f36) = true)
  (a37 : PySem.W.findIn K (.ref CK3) "deal" = some (some (.ref f37)))
  (i37 : PySem.W.isFn K (.ref f37) = true)
  (l37 : K.lookup f37 = some ⟨oc37,od37,.func (PySem.W.fnOf "deal" "Shifter.deal" (Q0l Q1j) (Q0k Q1j) (Q0d Q1j) .none kV37 dc37 pm37 an37 cd37 ct37),sl37⟩)
  (c37 : PySem.W.codeIn K cd37 "Shifter.deal" = true)
  (k37 : PySem.W.keepIn K (.ref f37) = true)
  (a38 : PySem.W.findIn K (.ref CK5) "hear" = some (some (.ref f38)))
  (i38 : PySem.W.isFn K (.ref f38) = true)
  (l38 : K.lookup f38 = some ⟨oc38,od38,.func (PySem.W.fnOf "hear" "Weigher.hear" (Q0l Q1g) (Q0k Q1g) (Q0d Q1g) .none kV38 dc38 pm38 an38 cd38 ct38),sl38⟩)
  (c38 : PySem.W.codeIn K cd38 "Weigher.hear" = true)
  (k38 : PySem.W.keepIn K (.ref f38) = true)
  (a39 : PySem.W.findIn K (.ref CK3) "hear" = some (some (.ref f39)))
  (i39 : PySem.W.isFn K (.ref f39) = true)
  (l39 : K.lookup f39 = some ⟨oc39,od39,.func (PySem.W.fnOf "hear" "Shifter.hear" (Q0l Q1i) (Q0k Q1i) (Q0d Q1i) .none kV39 dc39 pm39 an39 cd39 ct39),sl39⟩)
  (c39 : PySem.W.codeIn K cd39 "Shifter.hear" = true)
  (k39 : PySem.W.keepIn K (.ref f39) = true)
  (a40 : PySem.W.findIn K (.ref CK5) "anew" = some (some (.ref f40)))
  (i40 : PySem.W.isFn K (.ref f40) = true)
  (l40 : K.lookup f40 = some ⟨oc40,od40,.func (PySem.W.fnOf "anew" "Weigher.anew" (Q0l Q1h) (Q0k Q1h) (Q0d Q1h) .none kV40 dc40 pm40 an40 cd40 ct40),sl40⟩)
  (c40 : PySem.W.codeIn K cd40 "Weigher.anew" = true)
  (k40 : PySem.W.keepIn K (.ref f40) = true)
  (a41 : PySem.W.findIn K (.ref CK3) "anew" = some (some (.ref f41)))
  (i41 : PySem.W.isFn K (.ref f41) = true)
  (l41 : K.lookup f41 = some ⟨oc41,od41,.func (PySem.W.fnOf "anew" "Shifter.anew" (Q0l Q1k) (Q0k Q1k) (Q0d Q1k) .none kV41 dc41 pm41 an41 cd41 ct41),sl41⟩)
  (c41 : PySem.W.codeIn K cd41 "Shifter.anew" = true)
  (k41 : PySem.W.keepIn K (.ref f41) = true)
  (a42 : PySem.W.findIn K (.ref CK0) "__init__" = some (some (.ref f42)))
  (i42 : PySem.W.isFn K (.ref f42) = true)
  (l42 : K.lookup f42 = some ⟨oc42,od42,.func (PySem.W.fnOf "__init__" "Follower.__init__" (Q0l Q0F) (Q0k Q0F) (Q0d Q0F) (.ref T42) kV42 dc42 pm42 an42 cd42 ct42),sl42⟩)
  (t42 : K.lookup T42 = some ⟨cT42,dT42,.seq #[.none] nT42,sT42⟩)
  (c42 : PySem.W.codeIn K cd42 "Follower.__init__" = true)
  (k42 : PySem.W.keepIn K (.ref f42) = true)
  (a43 : PySem.W.findIn K (.ref CK0) "say" = some (some (.ref f43)))
  (i43 : PySem.W.isFn K (.ref f43) = true)
  (l43 : K.lookup f43 = some ⟨oc43,od43,.func (PySem.W.fnOf "say" "Follower.say" (Q0l Q1n) (Q0k Q1n) (Q0d Q1n) .none kV43 dc43 pm43 an43 cd43 ct43),sl43⟩)
  (c43 : PySem.W.codeIn K cd43 "Follower.say" = true)
  (k43 : PySem.W.keepIn K (.ref f43) = true)
  (a44 : PySem.W.findIn K (.ref CK0) "hear" = some (some (.ref f44)))
  (i44 : PySem.W.isFn K (.ref f44) = true)
  (l44 : K.lookup f44 = some ⟨oc44,od44,.func (PySem.W.fnOf "hear" "Follower.hear" (Q0l Q0W) (Q0k Q0W) (Q0d Q0W) .none kV44 dc44 pm44 an44 cd44 ct44),sl44⟩)
  (c44 : PySem.W.codeIn K cd44 "Follower.hear" = true)
  (k44 : PySem.W.keepIn K (.ref f44) = true)
  (a45 : PySem.W.findIn K (.ref CK0) "anew" = some (some (.ref f45)))
  (i45 : PySem.W.isFn K (.ref f45) = true)
  (l45 : K.lookup f45 = some ⟨oc45,od45,.func (PySem.W.fnOf "anew" "Follower.anew" (Q0l Q0X) (Q0k Q0X) (Q0d Q0X) .none kV45 dc45 pm45 an45 cd45 ct45),sl45⟩)
  (c45 : PySem.W.codeIn K cd45 "Follower.anew" = true)
  (k45 : PySem.W.keepIn K (.ref f45) = true)
  (a46 : PySem.W.nsIn K mainGlobals "are_alike" = some (some (.ref f46)))
  (l46 : K.lookup f46 = some ⟨oc46,od46,.func (PySem.W.fnOf "are_alike" "are_alike" (Q0l Q1U) (Q0k Q1U) (Q0d Q1U) .none kV46 dc46 pm46 an46 cd46 ct46),sl46⟩)
  (c46 : PySem.W.codeIn K cd46 "are_alike" = true)
  (k46 : PySem.W.keepIn K (.ref f46) = true)
  (a47 : PySem.W.nsIn K mainGlobals "is_head" = some (some (.ref f47)))
  (l47 : K.lookup f47 = some ⟨oc47,od47,.func (PySem.W.fnOf "is_head" "is_head" (Q0l Q2R) (Q0k Q2R) (Q0d Q2R) .none kV47 dc47 pm47 an47 cd47 ct47),sl47⟩)
  (c47 : PySem.W.codeIn K cd47 "is_head" = true)
  (k47 : PySem.W.keepIn K (.ref f47) = true)
  (a48 : PySem.W.nsIn K mainGlobals "check_tier" = some (some (.ref f48)))
  (l48 : K.lookup f48 = some ⟨oc48,od48,.func (PySem.W.fnOf "check_tier" "check_tier" (Q0l Q1K) (Q0k Q1K) (Q0d Q1K) .none kV48 dc48 pm48 an48 cd48 ct48),sl48⟩)
  (c48 : PySem.W.codeIn K cd48 "check_tier" = true)
  (k48 : PySem.W.keepIn K (.ref f48) = true)
  (a49 : PySem.W.findIn K (.ref CK4) "__init__" = some (some (.ref f49)))
  (i49 : PySem.W.isFn K (.ref f49) = true)
  (l49 : K.lookup f49 = some ⟨oc49,od49,.func (PySem.W.fnOf "__init__" "Tier.__init__" (Q0l Q0U) (Q0k Q0U) (Q0d Q0U) .none kV49 dc49 pm49 an49 cd49 ct49),sl49⟩)
  (c49 : PySem.W.codeIn K cd49 "Tier.__init__" = true)
  (k49 : PySem.W.keepIn K (.ref f49) = true)
  (a50 : PySem.W.findIn K (.ref CK4) "hand_charges" = some (some (.ref f50)))
  (i50 : PySem.W.isFn K (.ref f50) = true)
  (l50 : K.lookup f50 = some ⟨oc50,od50,.func (PySem.W.fnOf "hand_charges" "Tier.hand_charges" (Q0l Q0E) (Q0k Q0E) (Q0d Q0E) .none kV50 dc50 pm50 an50 cd50 ct50),sl50⟩)
  (c50 : PySem.W.codeIn K cd50 "Tier.hand_charges" = true)
  (k50 : PySem.W.keepIn K (.ref f50) = true)
  (a51 : PySem.W.findIn K (.ref CK4) "ask" = some (some (.ref f51)))
  (i51 : PySem.W.isFn K (.ref f51) = true)
  (l51 : K.lookup f51 = some ⟨oc51,od51,.func (PySem.W.fnOf "ask" "Tier.ask" (Q0l Q2k) (Q0k Q2k) (Q0d Q2k) .none kV51 dc51 pm51 an51 cd51 ct51),sl51⟩)
  (c51 : PySem.W.codeIn K cd51 "Tier.ask" = true)
  (k51 : PySem.W.keepIn K (.ref f51) = true)
  (a52 : PySem.W.findIn K (.ref CK4) "say" = some (some (.ref f52)))
  (i52 : PySem.W.isFn K (.ref f52) = true)
  (l52 : K.lookup f52 = some ⟨oc52,od52,.func (PySem.W.fnOf "say" "Tier.say" (Q0l Q2j) (Q0k Q2j) (Q0d Q2j) .none kV52 dc52 pm52 an52 cd52 ct52),sl52⟩)
  (c52 : PySem.W.codeIn K cd52 "Tier.say" = true)
  (k52 : PySem.W.keepIn K (.ref f52) = true)
  (a53 : PySem.W.findIn K (.ref CK4) "hear" = some (some (.ref f53)))
  (i53 : PySem.W.isFn K (.ref f53) = true)
  (l53 : K.lookup f53 = some ⟨oc53,od53,.func (PySem.W.fnOf "hear" "Tier.hear" (Q0l Q1V) (Q0k Q1V) (Q0d Q1V) .none kV53 dc53 pm53 an53 cd53 ct53),sl53⟩)
  (c53 : PySem.W.codeIn K cd53 "Tier.hear" = true)
  (k53 : PySem.W.keepIn K (.ref f53) = true)
  (a54 : PySem.W.findIn K (.ref CK4) "anew" = some (some (.ref f54)))
  (i54 : PySem.W.isFn K (.ref f54) = true)
  (l54 : K.lookup f54 = some ⟨oc54,od54,.func (PySem.W.fnOf "anew" "Tier.anew" (Q0l Q1W) (Q0k Q1W) (Q0d Q1W) .none kV54 dc54 pm54 an54 cd54 ct54),sl54⟩)
  (c54 : PySem.W.codeIn K cd54 "Tier.anew" = true)
  (k54 : PySem.W.keepIn K (.ref f54) = true)
  (a55 : PySem.W.nsIn K mainGlobals "has_greatest" = some (some (.ref f55)))
  (l55 : K.lookup f55 = some ⟨oc55,od55,.func (PySem.W.fnOf "has_greatest" "has_greatest" (Q0l Q1d) (Q0k Q1d) (Q0d Q1d) .none kV55 dc55 pm55 an55 cd55 ct55),sl55⟩)
  (c55 : PySem.W.codeIn K cd55 "has_greatest" = true)
  (k55 : PySem.W.keepIn K (.ref f55) = true)
  (a56 : PySem.W.nsIn K mainGlobals "most_errors" = some (some (.ref f56)))
  (l56 : K.lookup f56 = some ⟨oc56,od56,.func (PySem.W.fnOf "most_errors" "most_errors" (Q0l Q1t) (Q0k Q1t) (Q0d Q1t) .none kV56 dc56 pm56 an56 cd56 ct56),sl56⟩)
  (c56 : PySem.W.codeIn K cd56 "most_errors" = true)
  (k56 : PySem.W.keepIn K (.ref f56) = true)
  (a57 : PySem.W.nsIn K mainGlobals "halvings" = some (some (.ref f57)))
  (l57 : K.lookup f57 = some ⟨oc57,od57,.func (PySem.W.fnOf "halvings" "halvings" (Q0l Q2h) (Q0k Q2h) (Q0d Q2h) .none kV57 dc57 pm57 an57 cd57 ct57),sl57⟩)
  (c57 : PySem.W.codeIn K cd57 "halvings" = true)
  (k57 : PySem.W.keepIn K (.ref f57) = true)
  (a58 : PySem.W.nsIn K mainGlobals "ran" = some (some (.ref f58)))
  (l58 : K.lookup f58 = some ⟨oc58,od58,.func (PySem.W.fnOf "ran" "ran" (Q0l s_ran) (Q0k s_ran) (Q0d s_ran) .none kV58 dc58 pm58 an58 cd58 ct58),sl58⟩)
  (c58 : PySem.W.codeIn K cd58 "ran" = true)
  (k58 : PySem.W.keepIn K (.ref f58) = true)
  (a59 : PySem.W.nsIn K mainGlobals "_law_cell_at" = some (some (.ref f59)))
  (l59 : K.lookup f59 = some ⟨oc59,od59,.func (PySem.W.fnOf "_law_cell_at" "_law_cell_at" (Q0l Q1T) (Q0k Q1T) (Q0d Q1T) .none kV59 dc59 pm59 an59 cd59 ct59),sl59⟩)
  (c59 : PySem.W.codeIn K cd59 "_law_cell_at" = true)
  (k59 : PySem.W.keepIn K (.ref f59) = true)
  (a60 : PySem.W.nsIn K mainGlobals "_law_next" = some (some (.ref f60)))
  (l60 : K.lookup f60 = some ⟨oc60,od60,.func (PySem.W.fnOf "_law_next" "_law_next" (Q0l Q3y) (Q0k Q3y) (Q0d Q3y) .none kV60 dc60 pm60 an60 cd60 ct60),sl60⟩)
  (c60 : PySem.W.codeIn K cd60 "_law_next" = true)
  (k60 : PySem.W.keepIn K (.ref f60) = true)
  (a61 : PySem.W.nsIn K mainGlobals "_law_seed" = some (some (.ref f61)))
  (l61 : K.lookup f61 = some ⟨oc61,od61,.func (PySem.W.fnOf "_law_seed" "_law_seed" (Q0l Q3x) (Q0k Q3x) (Q0d Q3x) .none kV61 dc61 pm61 an61 cd61 ct61),sl61⟩)
  (c61 : PySem.W.codeIn K cd61 "_law_seed" = true)
  (k61 : PySem.W.keepIn K (.ref f61) = true)
  (a62 : PySem.W.nsIn K mainGlobals "_law_turn" = some (some (.ref f62)))
  (l62 : K.lookup f62 = some ⟨oc62,od62,.func (PySem.W.fnOf "_law_turn" "_law_turn" (Q0l Q3w) (Q0k Q3w) (Q0d Q3w) .none kV62 dc62 pm62 an62 cd62 ct62),sl62⟩)
  (c62 : PySem.W.codeIn K cd62 "_law_turn" = true)
  (k62 : PySem.W.keepIn K (.ref f62) = true)
  (a63 : PySem.W.nsIn K mainGlobals "_law_turns" = some (some (.ref f63)))
  (l63 : K.lookup f63 = some ⟨oc63,od63,.func (PySem.W.fnOf "_law_turns" "_law_turns" (Q0l Q2L) (Q0k Q2L) (Q0d Q2L) .none kV63 dc63 pm63 an63 cd63 ct63),sl63⟩)
  (c63 : PySem.W.codeIn K cd63 "_law_turns" = true)
  (k63 : PySem.W.keepIn K (.ref f63) = true)
  (a64 : PySem.W.nsIn K mainGlobals "_law_many" = some (some (.ref f64)))
  (l64 : K.lookup f64 = some ⟨oc64,od64,.func (PySem.W.fnOf "_law_many" "_law_many" (Q0l Q3z) (Q0k Q3z) (Q0d Q3z) .none kV64 dc64 pm64 an64 cd64 ct64),sl64⟩)
  (c64 : PySem.W.codeIn K cd64 "_law_many" = true)
  (k64 : PySem.W.keepIn K (.ref f64) = true)
  (a65 : PySem.W.nsIn K mainGlobals "_law_fraction" = some (some (.ref f65)))
  (l65 : K.lookup f65 = some ⟨oc65,od65,.func (PySem.W.fnOf "_law_fraction" "_law_fraction" (Q0l Q1I) (Q0k Q1I) (Q0d Q1I) .none kV65 dc65 pm65 an65 cd65 ct65),sl65⟩)
  (c65 : PySem.W.codeIn K cd65 "_law_fraction" = true)
  (k65 : PySem.W.keepIn K (.ref f65) = true)
  (a66 : PySem.W.nsIn K mainGlobals "_law_hand" = some (some (.ref f66)))
  (l66 : K.lookup f66 = some ⟨oc66,od66,.func (PySem.W.fnOf "_law_hand" "_law_hand" (Q0l Q3A) (Q0k Q3A) (Q0d Q3A) .none kV66 dc66 pm66 an66 cd66 ct66),sl66⟩)
  (c66 : PySem.W.codeIn K cd66 "_law_hand" = true)
  (k66 : PySem.W.keepIn K (.ref f66) = true)
  (a67 : PySem.W.nsIn K mainGlobals "_law_hands" = some (some (.ref f67)))
  (l67 : K.lookup f67 = some ⟨oc67,od67,.func (PySem.W.fnOf "_law_hands" "_law_hands" (Q0l Q2N) (Q0k Q2N) (Q0d Q2N) .none kV67 dc67 pm67 an67 cd67 ct67),sl67⟩)
  (c67 : PySem.W.codeIn K cd67 "_law_hands" = true)
  (k67 : PySem.W.keepIn K (.ref f67) = true)
  (a68 : PySem.W.nsIn K mainGlobals "_law_power" = some (some (.ref f68)))
  (l68 : K.lookup f68 = some ⟨oc68,od68,.func (PySem.W.fnOf "_law_power" "_law_power" (Q0l Q2M) (Q0k Q2M) (Q0d Q2M) .none kV68 dc68 pm68 an68 cd68 ct68),sl68⟩)
  (c68 : PySem.W.codeIn K cd68 "_law_power" = true)
  (k68 : PySem.W.keepIn K (.ref f68) = true)
  (a69 : PySem.W.nsIn K mainGlobals "_law_bound" = some (some (.ref f69)))
  (l69 : K.lookup f69 = some ⟨oc69,od69,.func (PySem.W.fnOf "_law_bound" "_law_bound" (Q0l Q2O) (Q0k Q2O) (Q0d Q2O) .none kV69 dc69 pm69 an69 cd69 ct69),sl69⟩)
  (c69 : PySem.W.codeIn K cd69 "_law_bound" = true)
  (k69 : PySem.W.keepIn K (.ref f69) = true)
  (a70 : PySem.W.nsIn K mainGlobals "law" = some (some (.ref f70)))
  (l70 : K.lookup f70 = some ⟨oc70,od70,.func (PySem.W.fnOf "law" "law" (Q0l s_law) (Q0k s_law) (Q0d s_law) .none kV70 dc70 pm70 an70 cd70 ct70),sl70⟩)
  (c70 : PySem.W.codeIn K cd70 "law" = true)
  (k70 : PySem.W.keepIn K (.ref f70) = true)
  (pg0 : PySem.W.plainGet K CK1 Str.empty = true)
  (hd0 : PySem.W.hasDictIn K CK1 = true)
  (po0 : PySem.W.plainOver K CK1 = true)
  (sa0 : PySem.W.findIn K (.ref CK1) "__setattr__" = some (some (.builtin "object.__setattr__")))
  (ca0 : PySem.W.findIn K (.ref CK1) "__class__" = some (some (.builtin "object.__class__")))
  (cm0 : PySem.W.mroIn K CK1 (.type "object") = some true)
  (n0_many : PySem.W.findIn K (.ref CK1) "many" = some none)
  (n0_scale : PySem.W.findIn K (.ref CK1) "scale" = some none)
  (q0_Hand : PySem.W.kitOne K (.ref CK1) (.ref CK1) = some true)
  (mk0 : PySem.W.makesIn K CK1 = true)
  (kc0 : PySem.W.keepIn K (.ref CK1) = true)
  (so0___init__ : PySem.W.specialIn K (.ref CK1) "__getattribute__" = some (some (.builtin "type.__getattribute__")))
  (rd0___init__ : PySem.W.readsIn K CK1 (.type "type") = true)
  (fc0___init__ : PySem.W.findCls K (.ref CK1) (.type "type") "__init__" = some (.val (.ref f24)))
  (pg1 : PySem.W.plainGet K CK5 Str.empty = true)
  (hd1 : PySem.W.hasDictIn K CK5 = true)
  (po1 : PySem.W.plainOver K CK5 = true)
  (sa1 : PySem.W.findIn K (.ref CK5) "__setattr__" = some (some (.builtin "object.__setattr__")))
  (ca1 : PySem.W.findIn K (.ref CK5) "__class__" = some (some (.builtin "object.__class__")))
  (cm1 : PySem.W.mroIn K CK5 (.type "object") = some true)
  (n1_many : PySem.W.findIn K (.ref CK5) "many" = some none)
  (n1_scale : PySem.W.findIn K (.ref CK5) "scale" = some none)
  (n1_top : PySem.W.findIn K (.ref CK5) "top" = some none)
  (n1_bottom : PySem.W.findIn K (.ref CK5) "bottom" = some none)
  (n1_tops : PySem.W.findIn K (.ref CK5) "tops" = some none)
  (n1_under : PySem.W.findIn K (.ref CK5) "under" = some none)
  (q1_Hand : PySem.W.kitOne K (.ref CK5) (.ref CK1) = some true)
  (mk1 : PySem.W.makesIn K CK5 = true)
  (kc1 : PySem.W.keepIn K (.ref CK5) = true)
  (e1_say : PySem.W.findIn K (.ref CK5) "say" = some (some (.ref f28)))
  (so1___init__ : PySem.W.specialIn K (.ref CK5) "__getattribute__" = some (some (.builtin "type.__getattribute__")))
  (rd1___init__ : PySem.W.readsIn K CK5 (.type "type") = true)
  (fc1___init__ : PySem.W.findCls K (.ref CK5) (.type "type") "__init__" = some (.val (.ref f34)))
  (pg2 : PySem.W.plainGet K CK3 Str.empty = true)
  (hd2 : PySem.W.hasDictIn K CK3 = true)
  (po2 : PySem.W.plainOver K CK3 = true)
  (sa2 : PySem.W.findIn K (.ref CK3) "__setattr__" = some (some (.builtin "object.__setattr__")))
  (ca2 : PySem.W.findIn K (.ref CK3) "__class__" = some (some (.builtin "object.__class__")))
  (cm2 : PySem.W.mroIn K CK3 (.type "object") = some true)
  (n2_many : PySem.W.findIn K (.ref CK3) "many" = some none)
  (n2_scale : PySem.W.findIn K (.ref CK3) "scale" = some none)
  (n2_top : PySem.W.findIn K (.ref CK3) "top" = some none)
  (n2_bottom : PySem.W.findIn K (.ref CK3) "bottom" = some none)
  (n2_tops : PySem.W.findIn K (.ref CK3) "tops" = some none)
  (n2_under : PySem.W.findIn K (.ref CK3) "under" = some none)
  (n2_share : PySem.W.findIn K (.ref CK3) "share" = some none)
  (n2_parts : PySem.W.findIn K (.ref CK3) "parts" = some none)
  (q2_Hand : PySem.W.kitOne K (.ref CK3) (.ref CK1) = some true)
  (mk2 : PySem.W.makesIn K CK3 = true)
  (kc2 : PySem.W.keepIn K (.ref CK3) = true)
  (e2_heeded : PySem.W.findIn K (.ref CK3) "heeded" = some (some (.ref f26)))
  (e2_say : PySem.W.findIn K (.ref CK3) "say" = some (some (.ref f28)))
  (e2_weigh : PySem.W.findIn K (.ref CK3) "weigh" = some (some (.ref f36)))
  (pg3 : PySem.W.plainGet K CK2 Str.empty = true)
  (hd3 : PySem.W.hasDictIn K CK2 = true)
  (po3 : PySem.W.plainOver K CK2 = true)
  (sa3 : PySem.W.findIn K (.ref CK2) "__setattr__" = some (some (.builtin "object.__setattr__")))
  (ca3 : PySem.W.findIn K (.ref CK2) "__class__" = some (some (.builtin "object.__class__")))
  (cm3 : PySem.W.mroIn K CK2 (.type "object") = some true)
  (n3_many : PySem.W.findIn K (.ref CK2) "many" = some none)
  (n3_scale : PySem.W.findIn K (.ref CK2) "scale" = some none)
  (n3_inside : PySem.W.findIn K (.ref CK2) "inside" = some none)
  (n3_over : PySem.W.findIn K (.ref CK2) "over" = some none)
  (q3_Hand : PySem.W.kitOne K (.ref CK2) (.ref CK1) = some true)
  (mk3 : PySem.W.makesIn K CK2 = true)
  (kc3 : PySem.W.keepIn K (.ref CK2) = true)
  (e3_say : PySem.W.findIn K (.ref CK2) "say" = some (some (.ref f28)))
  (pg4 : PySem.W.plainGet K CK0 Str.empty = true)
  (hd4 : PySem.W.hasDictIn K CK0 = true)
  (po4 : PySem.W.plainOver K CK0 = true)
  (sa4 : PySem.W.findIn K (.ref CK0) "__setattr__" = some (some (.builtin "object.__setattr__")))
  (ca4 : PySem.W.findIn K (.ref CK0) "__class__" = some (some (.builtin "object.__class__")))
  (cm4 : PySem.W.mroIn K CK0 (.type "object") = some true)
  (n4_many : PySem.W.findIn K (.ref CK0) "many" = some none)
  (n4_scale : PySem.W.findIn K (.ref CK0) "scale" = some none)
  (n4_push : PySem.W.findIn K (.ref CK0) "push" = some none)
  (n4_reached : PySem.W.findIn K (.ref CK0) "reached" = some none)
  (q4_Hand : PySem.W.kitOne K (.ref CK0) (.ref CK1) = some true)
  (mk4 : PySem.W.makesIn K CK0 = true)
  (kc4 : PySem.W.keepIn K (.ref CK0) = true)
  (pg5 : PySem.W.plainGet K CK4 Str.empty = true)
  (hd5 : PySem.W.hasDictIn K CK4 = true)
  (po5 : PySem.W.plainOver K CK4 = true)
  (sa5 : PySem.W.findIn K (.ref CK4) "__setattr__" = some (some (.builtin "object.__setattr__")))
  (ca5 : PySem.W.findIn K (.ref CK4) "__class__" = some (some (.builtin "object.__class__")))
  (cm5 : PySem.W.mroIn K CK4 (.type "object") = some true)
  (n5_many : PySem.W.findIn K (.ref CK4) "many" = some none)
  (n5_scale : PySem.W.findIn K (.ref CK4) "scale" = some none)
  (n5_hands : PySem.W.findIn K (.ref CK4) "hands" = some none)
  (n5_head : PySem.W.findIn K (.ref CK4) "head" = some none)
  (n5_charged : PySem.W.findIn K (.ref CK4) "charged" = some none)
  (q5_Hand : PySem.W.kitOne K (.ref CK4) (.ref CK1) = some true)
  (mk5 : PySem.W.makesIn K CK4 = true)
  (kc5 : PySem.W.keepIn K (.ref CK4) = true)
  (gn : PySem.W.specialIn K (.builtin "object.__class__") "__get__" = some (some (.builtin "getset_descriptor.__get__")))
  (gt : PySem.W.takesIn K (.builtin "object.__class__") = some true)
  (z0 : PySem.W.nsIn K mainGlobals "len" = some none)
  (z1 : PySem.W.nsIn K mainGlobals "tuple" = some none)
  (z2 : PySem.W.nsIn K mainGlobals "list" = some none)
  (z3 : PySem.W.nsIn K mainGlobals "sum" = some none)
  (z4 : PySem.W.nsIn K mainGlobals "zip" = some none)
  (z5 : PySem.W.nsIn K mainGlobals "sorted" = some none)
  (z6 : PySem.W.nsIn K mainGlobals "range" = some none)
  (z7 : PySem.W.nsIn K mainGlobals "isinstance" = some none)
  (z8 : PySem.W.nsIn K mainGlobals "int" = some none)
  (z9 : PySem.W.nsIn K mainGlobals "bool" = some none)
  (z10 : PySem.W.nsIn K mainGlobals "all" = some none)
  (z11 : PySem.W.nsIn K mainGlobals "any" = some none)
  (z12 : PySem.W.nsIn K mainGlobals "enumerate" = some none)
  (z13 : PySem.W.nsIn K mainGlobals "abs" = some none)
  (z14 : PySem.W.nsIn K mainGlobals "min" = some none)
  (z15 : PySem.W.nsIn K mainGlobals "max" = some none)
  (y0 : PySem.W.nsIn K mainGlobals "MOST_ADVISERS" = some (some (.int 24 tk0)))
  (y1 : PySem.W.nsIn K mainGlobals "MOST_SCALE" = some (some (.int 10 tk1)))
  (y2 : PySem.W.nsIn K mainGlobals "MOST_BOTTOM" = some (some (.int 100 tk2)))
  (y3 : PySem.W.nsIn K mainGlobals "MOST_PARTS" = some (some (.int 100 tk3)))
  (y4 : PySem.W.nsIn K mainGlobals "MOST_FIGURES" = some (some (.int 60 tk4))) :
  ∃ fd : FuncData,(∀ (s : Shared) (v : Value),BindsTo s fd ⟨[v],[]⟩ [("_law_script",v)]) /\ ∀ base : Heap,K.In base -> base.Ns mainGlobals mg -> FnOk l.prog w K mg base CX0 19 fa fd ["_law_script"] (toSp K spLaw) := by
 have e := hfa.symm.trans (PySem.W.mg_of X G a70)
 cases e
 have T : Txt K mg CK1 CK5 CK3 CK2 CK0 CK4 := ⟨PySem.W.mg_none_of X G z0,PySem.W.mg_none_of X G z1,PySem.W.mg_none_of X G z2,PySem.W.mg_none_of X G z3,PySem.W.mg_none_of X G z4,PySem.W.mg_none_of X G z5,PySem.W.mg_none_of X G z6,PySem.W.mg_none_of X G z7,PySem.W.mg_none_of X G z8,PySem.W.mg_none_of X G z9,PySem.W.mg_none_of X G z10,PySem.W.mg_none_of X G z11,PySem.W.mg_none_of X G z12,PySem.W.mg_none_of X G z13,PySem.W.mg_none_of X G z14,PySem.W.mg_none_of X G z15,⟨_,PySem.W.mg_of X G y0⟩,⟨_,PySem.W.mg_of X G y1⟩,⟨_,PySem.W.mg_of X G y2⟩,⟨_,PySem.W.mg_of X G y3⟩,⟨_,PySem.W.mg_of X G y4⟩,⟨⟨pg0,hd0,po0,sa0⟩,ca0,gn,gt,cm0⟩,PySem.W.mg_of X G aC0,n0_many,n0_scale,q0_Hand,⟨⟨pg1,hd1,po1,sa1⟩,ca1,gn,gt,cm1⟩,PySem.W.mg_of X G aC1,n1_many,n1_scale,n1_top,n1_bottom,n1_tops,n1_under,q1_Hand,⟨⟨pg2,hd2,po2,sa2⟩,ca2,gn,gt,cm2⟩,PySem.W.mg_of X G aC2,n2_many,n2_scale,n2_top,n2_bottom,n2_tops,n2_under,n2_share,n2_parts,q2_Hand,⟨⟨pg3,hd3,po3,sa3⟩,ca3,gn,gt,cm3⟩,PySem.W.mg_of X G aC3,n3_many,n3_scale,n3_inside,n3_over,q3_Hand,⟨⟨pg4,hd4,po4,sa4⟩,ca4,gn,gt,cm4⟩,PySem.W.mg_of X G aC4,n4_many,n4_scale,n4_push,n4_reached,q4_Hand,⟨⟨pg5,hd5,po5,sa5⟩,ca5,gn,gt,cm5⟩,PySem.W.mg_of X G aC5,n5_many,n5_scale,n5_hands,n5_head,n5_charged,q5_Hand⟩
 have E0 := Q0r (st := Q2g) l0 c0 k0
 have b0 := E0.binds (ps := ["value"]) λ _ _ _ _ _ _ us hl => by obtain ⟨_,rfl⟩ := len1 hl; rfl
 have E1 := Q0r (st := Q2S) l1 c1 k1
 have b1 := E1.binds (ps := ["weights"]) λ _ _ _ _ _ _ us hl => by obtain ⟨_,rfl⟩ := len1 hl; rfl
 have E2 := Q0r (st := Q3v) l2 c2 k2
 have b2 := E2.binds (ps := ["numbers","weights"]) λ _ _ _ _ _ _ us hl => by obtain ⟨_,_,rfl⟩ := len2 hl; rfl
 have E3 := Q0r (st := Q1e) l3 c3 k3
 have b3 := E3.binds (ps := ["what","value","least","most"]) λ _ _ _ _ _ _ us hl => by obtain ⟨_,_,_,_,rfl⟩ := len4 hl; rfl
 have E4 := Q0r (st := Q1y) l4 c4 k4
 have b4 := E4.binds (ps := ["scale"]) λ _ _ _ _ _ _ us hl => by obtain ⟨_,rfl⟩ := len1 hl; rfl
 have E5 := Q0r (st := Q1f) l5 c5 k5
 have b5 := E5.binds (ps := ["many","scale"]) λ _ _ _ _ _ _ us hl => by obtain ⟨_,_,rfl⟩ := len2 hl; rfl
 have E6 := Q0r (st := Q0O) l6 c6 k6
 have b6 := E6.binds (ps := ["top","bottom"]) λ _ _ _ _ _ _ us hl => by obtain ⟨_,_,rfl⟩ := len2 hl; rfl
 have E7 := Q0r (st := Q1x) l7 c7 k7
 have b7 := E7.binds (ps := ["share","parts"]) λ _ _ _ _ _ _ us hl => by obtain ⟨_,_,rfl⟩ := len2 hl; rfl
 have E8 := Q0r (st := Q1u) l8 c8 k8
 have b8 := E8.binds (ps := ["scale","value"]) λ _ _ _ _ _ _ us hl => by obtain ⟨_,_,rfl⟩ := len2 hl; rfl
 have E9 := Q0r (st := Q2Q) l9 c9 k9
 have b9 := E9.binds (ps := ["many","scale","said"]) λ _ _ _ _ _ _ us hl => by obtain ⟨_,_,_,rfl⟩ := len3 hl; rfl
 have E10 := Q0r (st := Q1L) l10 c10 k10
 have b10 := E10.binds (ps := ["many","scale","said"]) λ _ _ _ _ _ _ us hl => by obtain ⟨_,_,_,rfl⟩ := len3 hl; rfl
 have E11 := Q0r (st := Q4A) l11 c11 k11
 have b11 := E11.binds (ps := ["base","exponent"]) λ _ _ _ _ _ _ us hl => by obtain ⟨_,_,rfl⟩ := len2 hl; rfl
 have E12 := Q0r (st := Q3B) l12 c12 k12
 have b12 := E12.binds (ps := ["what","so"]) λ _ _ _ _ _ _ us hl => by obtain ⟨_,_,rfl⟩ := len2 hl; rfl
 have E13 := Q0r (st := Q2P) l13 c13 k13
 have b13 := E13.binds (ps := ["many","scale","turn"]) λ _ _ _ _ _ _ us hl => by obtain ⟨_,_,_,rfl⟩ := len3 hl; rfl
 have E14 := Q0r (st := Q1J) l14 c14 k14
 have b14 := E14.binds (ps := ["many","scale","said","so"]) λ _ _ _ _ _ _ us hl => by obtain ⟨_,_,_,_,rfl⟩ := len4 hl; rfl
 have E15 := Q0r (st := Q2i) l15 c15 k15
 have b15 := E15.binds (ps := ["said"]) λ _ _ _ _ _ _ us hl => by obtain ⟨_,rfl⟩ := len1 hl; rfl
 have E16 := Q0r (st := Q1c) l16 c16 k16
 have b16 := E16.binds (ps := ["said","weights"]) λ _ _ _ _ _ _ us hl => by obtain ⟨_,_,rfl⟩ := len2 hl; rfl
 have E17 := Q0r (st := Q1s) l17 c17 k17
 have b17 := E17.binds (ps := ["keeper","own","off"]) λ _ _ _ _ _ _ us hl => by obtain ⟨_,_,_,rfl⟩ := len3 hl; rfl
 have E18 := Q0r (st := Q1b) l18 c18 k18
 have b18 := E18.binds (ps := ["keeper","own"]) λ _ _ _ _ _ _ us hl => by obtain ⟨_,_,rfl⟩ := len2 hl; rfl
 have E19 := Q0r (st := Q4z) l19 c19 k19
 have b19 := E19.binds (ps := ["keeper","own","what","so"]) λ _ _ _ _ _ _ us hl => by obtain ⟨_,_,_,_,rfl⟩ := len4 hl; rfl
 have E20 := Q0r (st := Q1w) l20 c20 k20
 have b20 := E20.binds (ps := ["many","scale","turns"]) λ _ _ _ _ _ _ us hl => by obtain ⟨_,_,_,rfl⟩ := len3 hl; rfl
 have E21 := Q0r (st := Q1M) l21 c21 k21
 have b21 := E21.binds (ps := ["many","push"]) λ _ _ _ _ _ _ us hl => by obtain ⟨_,_,rfl⟩ := len2 hl; rfl
 have E22 := Q0r (st := Q2K) l22 c22 k22
 have b22 := E22.binds (ps := ["many","push"]) λ _ _ _ _ _ _ us hl => by obtain ⟨_,_,rfl⟩ := len2 hl; rfl
 have E23 := Q0r (st := Q1v) l23 c23 k23
 have b23 := E23.binds (ps := ["scores","advisers"]) λ _ _ _ _ _ _ us hl => by obtain ⟨_,_,rfl⟩ := len2 hl; rfl
 have E24 := Q0r (st := Q0V) l24 c24 k24
 have b24 := E24.binds (ps := ["self","many","scale"]) λ _ _ _ _ _ _ us hl => by obtain ⟨_,_,_,rfl⟩ := len3 hl; rfl
 have E25 := Q0r (st := Q1z) l25 c25 k25
 have b25 := E25.binds (ps := ["self"]) λ _ _ _ _ _ _ us hl => by obtain ⟨_,rfl⟩ := len1 hl; rfl
 have E26 := Q0r (st := Q0P) l26 c26 k26
 have b26 := E26.binds (ps := ["self"]) λ _ _ _ _ _ _ us hl => by obtain ⟨_,rfl⟩ := len1 hl; rfl
 have E27 := Q0r (st := Q0Q) l27 c27 k27
 have b27 := E27.binds (ps := ["self"]) λ _ _ _ _ _ _ us hl => by obtain ⟨_,rfl⟩ := len1 hl; rfl
 have E28 := Q0r (st := Q2l) l28 c28 k28
 have b28 := E28.binds (ps := ["self","said"]) λ _ _ _ _ _ _ us hl => by obtain ⟨_,_,rfl⟩ := len2 hl; rfl
 have E29 := Q0r (st := Q1X) l29 c29 k29
 have b29 := E29.binds (ps := ["self","said","so"]) λ _ _ _ _ _ _ us hl => by obtain ⟨_,_,_,rfl⟩ := len3 hl; rfl
 have E30 := Q0r (st := Q1Y) l30 c30 k30
 have b30 := E30.binds (ps := ["self"]) λ _ _ _ _ _ _ us hl => by obtain ⟨_,rfl⟩ := len1 hl; rfl
 have E31 := Q0r (st := Q0I) l31 c31 k31
 have b31 := E31.binds (ps := ["self","many","scale"]) λ _ _ _ _ _ _ us hl => by obtain ⟨_,_,_,rfl⟩ := len3 hl; rfl
 have E32 := Q0r (st := Q1l) l32 c32 k32
 have b32 := E32.binds (ps := ["self","said","so"]) λ _ _ _ _ _ _ us hl => by obtain ⟨_,_,_,rfl⟩ := len3 hl; rfl
 have E33 := Q0r (st := Q1m) l33 c33 k33
 have b33 := E33.binds (ps := ["self"]) λ _ _ _ _ _ _ us hl => by obtain ⟨_,rfl⟩ := len1 hl; rfl
 have E34 := Q0r (st := Q0G) l34 c34 k34
 have b34 := E34.binds (ps := ["self","many","scale","top","bottom"]) λ _ _ _ _ _ _ us hl => by obtain ⟨_,_,_,_,_,rfl⟩ := len5 hl; rfl
 have E35 := Q0r (st := Q0H) l35 c35 k35
 have b35 := E35.binds (ps := ["self","many","scale","top","bottom","share","parts"]) λ _ _ _ _ _ _ us hl => by obtain ⟨_,_,_,_,_,_,_,rfl⟩ := len7 hl; rfl
 have E36 := Q0r (st := Q0T) l36 c36 k36
 have b36 := E36.binds (ps := ["self","said","so"]) λ _ _ _ _ _ _ us hl => by obtain ⟨_,_,_,rfl⟩ := len3 hl; rfl
 have E37 := Q0r (st := Q1j) l37 c37 k37
 have b37 := E37.binds (ps := ["self"]) λ _ _ _ _ _ _ us hl => by obtain ⟨_,rfl⟩ := len1 hl; rfl
 have E38 := Q0r (st := Q1g) l38 c38 k38
 have b38 := E38.binds (ps := ["self","said","so"]) λ _ _ _ _ _ _ us hl => by obtain ⟨_,_,_,rfl⟩ := len3 hl; rfl
 have E39 := Q0r (st := Q1i) l39 c39 k39
 have b39 := E39.binds (ps := ["self","said","so"]) λ _ _ _ _ _ _ us hl => by obtain ⟨_,_,_,rfl⟩ := len3 hl; rfl
 have E40 := Q0r (st := Q1h) l40 c40 k40
 have b40 := E40.binds (ps := ["self"]) λ _ _ _ _ _ _ us hl => by obtain ⟨_,rfl⟩ := len1 hl; rfl
 have E41 := Q0r (st := Q1k) l41 c41 k41
 have b41 := E41.binds (ps := ["self"]) λ _ _ _ _ _ _ us hl => by obtain ⟨_,rfl⟩ := len1 hl; rfl
 have E42 := funD_mk (st := Q0F) (dv := [.none]) l42 t42 c42 k42
 have b42 := E42.binds (rest := []) (ps := ["self","many","scale","push"]) λ _ _ _ _ _ _ _ us hl => by rw [List.append_nil] at hl; obtain ⟨_,_,_,_,rfl⟩ := len4 hl; exact ⟨_,rfl,rfl⟩
 have E43 := Q0r (st := Q1n) l43 c43 k43
 have b43 := E43.binds (ps := ["self","said"]) λ _ _ _ _ _ _ us hl => by obtain ⟨_,_,rfl⟩ := len2 hl; rfl
 have E44 := Q0r (st := Q0W) l44 c44 k44
 have b44 := E44.binds (ps := ["self","said","so"]) λ _ _ _ _ _ _ us hl => by obtain ⟨_,_,_,rfl⟩ := len3 hl; rfl
 have E45 := Q0r (st := Q0X) l45 c45 k45
 have b45 := E45.binds (ps := ["self"]) λ _ _ _ _ _ _ us hl => by obtain ⟨_,rfl⟩ := len1 hl; rfl
 have E46 := Q0r (st := Q1U) l46 c46 k46
 have b46 := E46.binds (ps := ["hands"]) λ _ _ _ _ _ _ us hl => by obtain ⟨_,rfl⟩ := len1 hl; rfl
 have E47 := Q0r (st := Q2R) l47 c47 k47
 have b47 := E47.binds (ps := ["hands","head"]) λ _ _ _ _ _ _ us hl => by obtain ⟨_,_,rfl⟩ := len2 hl; rfl
 have E48 := Q0r (st := Q1K) l48 c48 k48
 have b48 := E48.binds (ps := ["hands","head"]) λ _ _ _ _ _ _ us hl => by obtain ⟨_,_,rfl⟩ := len2 hl; rfl
 have E49 := Q0r (st := Q0U) l49 c49 k49
 have b49 := E49.binds (ps := ["self","hands","head"]) λ _ _ _ _ _ _ us hl => by obtain ⟨_,_,_,rfl⟩ := len3 hl; rfl
 have E50 := Q0r (st := Q0E) l50 c50 k50
 have b50 := E50.binds (ps := ["self"]) λ _ _ _ _ _ _ us hl => by obtain ⟨_,rfl⟩ := len1 hl; rfl
 have E51 := Q0r (st := Q2k) l51 c51 k51
 have b51 := E51.binds (ps := ["self","said"]) λ _ _ _ _ _ _ us hl => by obtain ⟨_,_,rfl⟩ := len2 hl; rfl
 have E52 := Q0r (st := Q2j) l52 c52 k52
 have b52 := E52.binds (ps := ["self","said"]) λ _ _ _ _ _ _ us hl => by obtain ⟨_,_,rfl⟩ := len2 hl; rfl
 have E53 := Q0r (st := Q1V) l53 c53 k53
 have b53 := E53.binds (ps := ["self","said","so"]) λ _ _ _ _ _ _ us hl => by obtain ⟨_,_,_,rfl⟩ := len3 hl; rfl
 have E54 := Q0r (st := Q1W) l54 c54 k54
 have b54 := E54.binds (ps := ["self"]) λ _ _ _ _ _ _ us hl => by obtain ⟨_,rfl⟩ := len1 hl; rfl
 have E55 := Q0r (st := Q1d) l55 c55 k55
 have b55 := E55.binds (ps := ["top","bottom","own"]) λ _ _ _ _ _ _ us hl => by obtain ⟨_,_,_,rfl⟩ := len3 hl; rfl
 have E56 := Q0r (st := Q1t) l56 c56 k56
 have b56 := E56.binds (ps := ["many","top","bottom","own"]) λ _ _ _ _ _ _ us hl => by obtain ⟨_,_,_,_,rfl⟩ := len4 hl; rfl
 have E57 := Q0r (st := Q2h) l57 c57 k57
 have b57 := E57.binds (ps := ["count"]) λ _ _ _ _ _ _ us hl => by obtain ⟨_,rfl⟩ := len1 hl; rfl
 have E58 := Q0r (st := s_ran) l58 c58 k58
 have b58 := E58.binds (ps := ["hand","turns"]) λ _ _ _ _ _ _ us hl => by obtain ⟨_,_,rfl⟩ := len2 hl; rfl
 have E59 := Q0r (st := Q1T) l59 c59 k59
 have b59 := E59.binds (ps := ["_law_script","_law_k"]) λ _ _ _ _ _ _ us hl => by obtain ⟨_,_,rfl⟩ := len2 hl; rfl
 have E60 := Q0r (st := Q3y) l60 c60 k60
 have b60 := E60.binds (ps := ["_law_x"]) λ _ _ _ _ _ _ us hl => by obtain ⟨_,rfl⟩ := len1 hl; rfl
 have E61 := Q0r (st := Q3x) l61 c61 k61
 have b61 := E61.binds (ps := ["_law_script","_law_k"]) λ _ _ _ _ _ _ us hl => by obtain ⟨_,_,rfl⟩ := len2 hl; rfl
 have E62 := Q0r (st := Q3w) l62 c62 k62
 have b62 := E62.binds (ps := ["_law_x","_law_many_here","_law_scale","_law_sleeps"]) λ _ _ _ _ _ _ us hl => by obtain ⟨_,_,_,_,rfl⟩ := len4 hl; rfl
 have E63 := Q0r (st := Q2L) l63 c63 k63
 have b63 := E63.binds (ps := ["_law_script","_law_start","_law_many_here","_law_scale","_law_sleeps"]) λ _ _ _ _ _ _ us hl => by obtain ⟨_,_,_,_,_,rfl⟩ := len5 hl; rfl
 have E64 := Q0r (st := Q3z) l64 c64 k64
 have b64 := E64.binds (ps := ["_law_x"]) λ _ _ _ _ _ _ us hl => by obtain ⟨_,rfl⟩ := len1 hl; rfl
 have E65 := Q0r (st := Q1I) l65 c65 k65
 have b65 := E65.binds (ps := ["_law_x"]) λ _ _ _ _ _ _ us hl => by obtain ⟨_,rfl⟩ := len1 hl; rfl
 have E66 := Q0r (st := Q3A) l66 c66 k66
 have b66 := E66.binds (ps := ["_law_many_here","_law_scale","_law_x"]) λ _ _ _ _ _ _ us hl => by obtain ⟨_,_,_,rfl⟩ := len3 hl; rfl
 have E67 := Q0r (st := Q2N) l67 c67 k67
 have b67 := E67.binds (ps := ["_law_many_here","_law_scale","_law_x"]) λ _ _ _ _ _ _ us hl => by obtain ⟨_,_,_,rfl⟩ := len3 hl; rfl
 have E68 := Q0r (st := Q2M) l68 c68 k68
 have b68 := E68.binds (ps := ["_law_base","_law_exponent"]) λ _ _ _ _ _ _ us hl => by obtain ⟨_,_,rfl⟩ := len2 hl; rfl
 have E69 := Q0r (st := Q2O) l69 c69 k69
 have b69 := E69.binds (ps := ["_law_many_here","_law_top","_law_bottom","_law_paid","_law_erred_turns"]) λ _ _ _ _ _ _ us hl => by obtain ⟨_,_,_,_,_,rfl⟩ := len5 hl; rfl
 have E70 := Q0r (st := s_law) l70 c70 k70
 have b70 := E70.binds (ps := ["_law_script"]) λ _ _ _ _ _ _ us hl => by obtain ⟨_,rfl⟩ := len1 hl; rfl
 refine ⟨PySem.W.fnOf "law" "law" (Q0l s_law) (Q0k s_law) (Q0d s_law) .none kV70 dc70 pm70 an70 cd70 ct70,λ s v => .of_eq rfl,λ base _ _ => ?_⟩
 have F_is_whole : Q0m l.prog w K mg base 1 "is_whole" (Q0i Q4c) := ok_is_whole T E0 (PySem.W.mg_of X G a0) b0
 have F_counted : Q0m l.prog w K mg base 1 "counted" (Q0i spCounted) := ok_counted T E1 (PySem.W.mg_of X G a1) b1
 have F_middle : Q0m l.prog w K mg base 2 "middle" (Q0i spMiddle) := ok_middle T E2 (PySem.W.mg_of X G a2) b2 F_counted
 have F_check_within : Q0m l.prog w K mg base 2 "check_within" (Q0i Q2U) := ok_check_within T E3 (PySem.W.mg_of X G a3) b3 F_is_whole
 have F_check_scale : Q0m l.prog w K mg base 3 "check_scale" (Q0i spScale) := ok_check_scale T E4 (PySem.W.mg_of X G a4) b4 F_check_within
 have F_check_making : Q0m l.prog w K mg base 4 "check_making" (Q0i spMaking) := ok_check_making T E5 (PySem.W.mg_of X G a5) b5 F_check_within F_check_scale
 have F_check_fraction : Q0m l.prog w K mg base 3 "check_fraction" (Q0i Q4v) := Q4D T E6 (PySem.W.mg_of X G a6) b6 F_check_within
 have F_check_share : Q0m l.prog w K mg base 3 "check_share" (Q0i spShare) := ok_check_share T E7 (PySem.W.mg_of X G a7) b7 F_check_within
 have F_is_on_scale : Q0m l.prog w K mg base 2 "is_on_scale" (Q0i spOnS) := ok_is_on_scale T E8 (PySem.W.mg_of X G a8) b8 F_is_whole
 have F_is_said : Q0m l.prog w K mg base 3 "is_said" (Q0i Q5g) := ok_is_said T E9 (PySem.W.mg_of X G a9) b9 F_is_on_scale
 have F_check_said : Q0m l.prog w K mg base 4 "check_said" (Q0i Q2n) := ok_check_said T E10 (PySem.W.mg_of X G a10) b10 F_is_said
 have F_power : Q0m l.prog w K mg base 1 "power" (Q0i spPow) := ok_power T E11 (PySem.W.mg_of X G a11) b11
 have F_charge : Q0m l.prog w K mg base 1 "charge" (Q0i Q2V) := ok_charge T E12 (PySem.W.mg_of X G a12) b12
 have F_is_turn : Q0m l.prog w K mg base 4 "is_turn" (Q0i Q5f) := ok_is_turn T E13 (PySem.W.mg_of X G a13) b13 F_is_said F_is_on_scale
 have F_check_turn : Q0m l.prog w K mg base 5 "check_turn" (Q0i Q1r) := ok_check_turn T E14 (PySem.W.mg_of X G a14) b14 F_is_turn
 have F_awake_in : Q0m l.prog w K mg base 1 "awake_in" (Q0i spAwake) := ok_awake_in T E15 (PySem.W.mg_of X G a15) b15
 have F_middle_awake : Q0m l.prog w K mg base 4 "middle_awake" (Q0i spMA) := ok_middle_awake T E16 (PySem.W.mg_of X G a16) b16 F_middle F_awake_in
 have F_times_awake : Q0m l.prog w K mg base 2 "times_awake" (spTAV CK5 CK3) := ok_times_awake T E17 (PySem.W.mg_of X G a17) b17 F_power
 have F_times_asleep : Q0m l.prog w K mg base 2 "times_asleep" (spTSV CK5 CK3) := ok_times_asleep T E18 (PySem.W.mg_of X G a18) b18 F_power
 have F_times : Q0m l.prog w K mg base 3 "times" (spTFV CK5 CK3) := ok_times T E19 (PySem.W.mg_of X G a19) b19 F_charge F_times_asleep F_times_awake
 have F_check_turns : Q0m l.prog w K mg base 5 "check_turns" (Q0i Q3g) := ok_check_turns T E20 (PySem.W.mg_of X G a20) b20 F_is_turn
 have F_check_push : Q0m l.prog w K mg base 3 "check_push" (Q0i spPush) := ok_check_push T E21 (PySem.W.mg_of X G a21) b21 F_check_within F_power
 have F_push_of : Q0m l.prog w K mg base 4 "push_of" (Q0i spPushOf) := ok_push_of T E22 (PySem.W.mg_of X G a22) b22 F_check_push
 have F_first_least : Q0m l.prog w K mg base 1 "first_least" (Q0i spFirst) := ok_first_least T E23 (PySem.W.mg_of X G a23) b23
 have W_Hand___init__ : FnOk l.prog w K mg base CX0 5 f24 _ ["self","many","scale"] (toSp K (Q2a (λ C => C = CK1 \/ C = CK5 \/ C = CK3 \/ C = CK2 \/ C = CK4 \/ C = CK0))) := Q4V T E24 F_check_making
 have W_Hand_heeded : FnOk l.prog w K mg base CX0 1 f25 _ ["self"] (toSp K (spHeedH CK1)) := ok_Hand_heeded T E25
 have W_Weigher_heeded : FnOk l.prog w K mg base CX0 1 f26 _ ["self"] (toSp K (Q4t CK5 CK3)) := Q4E T E26
 have W_Rounder_heeded : FnOk l.prog w K mg base CX0 1 f27 _ ["self"] (toSp K (spHeedR CK2)) := Q4F T E27
 have M_Hand_heeded : Q0h l.prog w K mg base CK1 1 "heeded" (spHeedH CK1) := ⟨⟨_,_,_,W_Hand_heeded,⟨a25,i25,k25⟩,b25⟩,T.c_Hand.cls⟩
 have M_Weigher_heeded : Q0h l.prog w K mg base CK5 1 "heeded" (Q4t CK5 CK3) := ⟨⟨_,_,_,W_Weigher_heeded,⟨a26,i26,k26⟩,b26⟩,T.c_Weigher.cls⟩
 have M_Shifter_heeded : Q0h l.prog w K mg base CK3 1 "heeded" (Q4t CK5 CK3) := ⟨⟨_,_,_,W_Weigher_heeded,⟨e2_heeded,i26,k26⟩,b26⟩,T.c_Shifter.cls⟩
 have M_Rounder_heeded : Q0h l.prog w K mg base CK2 1 "heeded" (spHeedR CK2) := ⟨⟨_,_,_,W_Rounder_heeded,⟨a27,i27,k27⟩,b27⟩,T.c_Rounder.cls⟩
 have W_Hand_say : FnOk l.prog w K mg base CX0 6 f28 _ ["self","said"] (toSp K (Q0S CK1 CK5 CK3 CK2)) := ok_Hand_say T E28 F_check_said F_middle_awake M_Hand_heeded M_Weigher_heeded M_Shifter_heeded M_Rounder_heeded
 have W_Hand_hear : FnOk l.prog w K mg base CX0 6 f29 _ ["self","said","so"] (toSp K (Q3e CK1)) := ok_Hand_hear T E29 F_check_turn
 have K_Hand : Q1C l.prog w K mg base CK1 5 "Hand" (Q2a (λ C => C = CK1 \/ C = CK5 \/ C = CK3 \/ C = CK2 \/ C = CK4 \/ C = CK0)) := ⟨⟨_,_,_,W_Hand___init__,⟨mk0,a24,i24,kc0⟩,b24⟩,T.m_Hand⟩
 have W_Hand_anew : FnOk l.prog w K mg base CX0 7 f30 _ ["self"] (toSp K (Q3O CK1)) := ok_Hand_anew T E30 K_Hand
 have O_Hand___init__ : OfCls l.prog w K mg base "Hand" 5 "__init__" (Q2a (λ C => C = CK1 \/ C = CK5 \/ C = CK3 \/ C = CK2 \/ C = CK4 \/ C = CK0)) := ⟨_,_,_,_,_,T.m_Hand,so0___init__,rd0___init__,fc0___init__,rfl,W_Hand___init__,k24,b24⟩
 have W_Rounder___init__ : FnOk l.prog w K mg base CX0 6 f31 _ ["self","many","scale"] (toSp K (spInitR CK2)) := Q3V T E31 O_Hand___init__
 have W_Rounder_hear : FnOk l.prog w K mg base CX0 6 f32 _ ["self","said","so"] (toSp K (Q3d CK2)) := ok_Rounder_hear T E32 F_check_turn F_charge
 have K_Rounder : Q1C l.prog w K mg base CK2 6 "Rounder" (spInitR CK2) := ⟨⟨_,_,_,W_Rounder___init__,⟨mk3,a31,i31,kc3⟩,b31⟩,T.m_Rounder⟩
 have W_Rounder_anew : FnOk l.prog w K mg base CX0 8 f33 _ ["self"] (toSp K (Q3N CK2)) := ok_Rounder_anew T E33 K_Rounder
 have W_Weigher___init__ : FnOk l.prog w K mg base CX0 6 f34 _ ["self","many","scale","top","bottom"] (toSp K (Q2B CK5 CK3)) := Q3T T E34 F_check_fraction O_Hand___init__
 have O_Weigher___init__ : OfCls l.prog w K mg base "Weigher" 6 "__init__" (Q2B CK5 CK3) := ⟨_,_,_,_,_,T.m_Weigher,so1___init__,rd1___init__,fc1___init__,rfl,W_Weigher___init__,k34,b34⟩
 have W_Shifter___init__ : FnOk l.prog w K mg base CX0 7 f35 _ ["self","many","scale","top","bottom","share","parts"] (toSp K (spInitS CK3)) := Q3U T E35 F_check_share O_Weigher___init__
 have M_Weigher_say : Q0h l.prog w K mg base CK5 6 "say" (Q0S CK1 CK5 CK3 CK2) := ⟨⟨_,_,_,W_Hand_say,⟨e1_say,i28,k28⟩,b28⟩,T.c_Weigher.cls⟩
 have M_Shifter_say : Q0h l.prog w K mg base CK3 6 "say" (Q0S CK1 CK5 CK3 CK2) := ⟨⟨_,_,_,W_Hand_say,⟨e2_say,i28,k28⟩,b28⟩,T.c_Shifter.cls⟩
 have W_Weigher_weigh : FnOk l.prog w K mg base CX0 7 f36 _ ["self","said","so"] (toSp K (Q3s CK5 CK3)) := Q4T T E36 F_charge M_Weigher_say M_Shifter_say F_times F_times_asleep
 have W_Shifter_deal : FnOk l.prog w K mg base CX0 1 f37 _ ["self"] (toSp K (spDealS CK3)) := ok_Shifter_deal T E37
 have M_Weigher_weigh : Q0h l.prog w K mg base CK5 7 "weigh" (Q3s CK5 CK3) := ⟨⟨_,_,_,W_Weigher_weigh,⟨a36,i36,k36⟩,b36⟩,T.c_Weigher.cls⟩
 have W_Weigher_hear : FnOk l.prog w K mg base CX0 8 f38 _ ["self","said","so"] (toSp K (Q1q CK5 CK3 false)) := ok_Weigher_hear T E38 F_check_turn M_Weigher_weigh
 have M_Shifter_weigh : Q0h l.prog w K mg base CK3 7 "weigh" (Q3s CK5 CK3) := ⟨⟨_,_,_,W_Weigher_weigh,⟨e2_weigh,i36,k36⟩,b36⟩,T.c_Shifter.cls⟩
 have M_Shifter_deal : Q0h l.prog w K mg base CK3 1 "deal" (spDealS CK3) := ⟨⟨_,_,_,W_Shifter_deal,⟨a37,i37,k37⟩,b37⟩,T.c_Shifter.cls⟩
 have W_Shifter_hear : FnOk l.prog w K mg base CX0 8 f39 _ ["self","said","so"] (toSp K (Q1q CK5 CK3 true)) := ok_Shifter_hear T E39 F_check_turn M_Shifter_weigh M_Shifter_deal
 have K_Weigher : Q1C l.prog w K mg base CK5 6 "Weigher" (Q2B CK5 CK3) := ⟨⟨_,_,_,W_Weigher___init__,⟨mk1,a34,i34,kc1⟩,b34⟩,T.m_Weigher⟩
 have W_Weigher_anew : FnOk l.prog w K mg base CX0 9 f40 _ ["self"] (toSp K (Q1E CK5 CK3 false)) := ok_Weigher_anew T E40 K_Weigher
 have K_Shifter : Q1C l.prog w K mg base CK3 7 "Shifter" (spInitS CK3) := ⟨⟨_,_,_,W_Shifter___init__,⟨mk2,a35,i35,kc2⟩,b35⟩,T.m_Shifter⟩
 have W_Shifter_anew : FnOk l.prog w K mg base CX0 9 f41 _ ["self"] (toSp K (Q1E CK5 CK3 true)) := ok_Shifter_anew T E41 K_Shifter
 have W_Follower___init__ : FnOk l.prog w K mg base CX0 6 f42 _ ["self","many","scale","push"] (toSp K (spInitF CK0)) := Q3G T E42 F_push_of O_Hand___init__
 have W_Follower_say : FnOk l.prog w K mg base CX0 5 f43 _ ["self","said"] (toSp K (Q4J CK0)) := ok_Follower_say T E43 F_check_said F_awake_in F_first_least
 have W_Follower_hear : FnOk l.prog w K mg base CX0 6 f44 _ ["self","said","so"] (toSp K (Q3f CK0)) := Q4W T E44 F_check_turn F_charge
 have K_Follower : Q1C l.prog w K mg base CK0 6 "Follower" (spInitF CK0) := ⟨⟨_,_,_,W_Follower___init__,⟨mk4,a42,i42,kc4⟩,b42⟩,T.m_Follower⟩
 have W_Follower_anew : FnOk l.prog w K mg base CX0 8 f45 _ ["self"] (toSp K (Q3P CK0)) := Q4X T E45 K_Follower
 have F_are_alike : Q0m l.prog w K mg base 1 "are_alike" (spAlikeT ⟨CK1,CK5,CK3,CK2,CK4,CK0⟩) := ok_are_alike T E46 (PySem.W.mg_of X G a46) b46
 have F_is_head : Q0m l.prog w K mg base 1 "is_head" (spIsHeadT ⟨CK1,CK5,CK3,CK2,CK4,CK0⟩) := ok_is_head T E47 (PySem.W.mg_of X G a47) b47
 have F_check_tier : Q0m l.prog w K mg base 2 "check_tier" (spTier ⟨CK1,CK5,CK3,CK2,CK4,CK0⟩) := ok_check_tier T E48 (PySem.W.mg_of X G a48) b48 F_are_alike F_is_head
 have M_Hand_anew : Q0h l.prog w K mg base CK1 7 "anew" (Q3O CK1) := ⟨⟨_,_,_,W_Hand_anew,⟨a30,i30,k30⟩,b30⟩,T.c_Hand.cls⟩
 have M_Weigher_anew : Q0h l.prog w K mg base CK5 9 "anew" (Q1E CK5 CK3 false) := ⟨⟨_,_,_,W_Weigher_anew,⟨a40,i40,k40⟩,b40⟩,T.c_Weigher.cls⟩
 have M_Shifter_anew : Q0h l.prog w K mg base CK3 9 "anew" (Q1E CK5 CK3 true) := ⟨⟨_,_,_,W_Shifter_anew,⟨a41,i41,k41⟩,b41⟩,T.c_Shifter.cls⟩
 have M_Rounder_anew : Q0h l.prog w K mg base CK2 8 "anew" (Q3N CK2) := ⟨⟨_,_,_,W_Rounder_anew,⟨a33,i33,k33⟩,b33⟩,T.c_Rounder.cls⟩
 have M_Follower_anew : Q0h l.prog w K mg base CK0 8 "anew" (Q3P CK0) := ⟨⟨_,_,_,W_Follower_anew,⟨a45,i45,k45⟩,b45⟩,T.c_Follower.cls⟩
 have W_Tier___init__ : FnOk l.prog w K mg base CX0 10 f49 _ ["self","hands","head"] (toSp K (spInitT ⟨CK1,CK5,CK3,CK2,CK4,CK0⟩)) := Q4U T E49 F_check_tier O_Hand___init__ M_Hand_anew M_Weigher_anew M_Shifter_anew M_Rounder_anew M_Follower_anew
 have W_Tier_hand_charges : FnOk l.prog w K mg base CX0 1 f50 _ ["self"] (toSp K (spChT ⟨CK1,CK5,CK3,CK2,CK4,CK0⟩)) := Q3F T E50
 have M_Hand_say : Q0h l.prog w K mg base CK1 6 "say" (Q0S CK1 CK5 CK3 CK2) := ⟨⟨_,_,_,W_Hand_say,⟨a28,i28,k28⟩,b28⟩,T.c_Hand.cls⟩
 have M_Rounder_say : Q0h l.prog w K mg base CK2 6 "say" (Q0S CK1 CK5 CK3 CK2) := ⟨⟨_,_,_,W_Hand_say,⟨e3_say,i28,k28⟩,b28⟩,T.c_Rounder.cls⟩
 have M_Follower_say : Q0h l.prog w K mg base CK0 5 "say" (Q4J CK0) := ⟨⟨_,_,_,W_Follower_say,⟨a43,i43,k43⟩,b43⟩,T.c_Follower.cls⟩
 have W_Tier_ask : FnOk l.prog w K mg base CX0 7 f51 _ ["self","said"] (toSp K (spAskT ⟨CK1,CK5,CK3,CK2,CK4,CK0⟩)) := ok_Tier_ask T E51 M_Hand_say M_Weigher_say M_Shifter_say M_Rounder_say M_Follower_say
 have M_Tier_ask : Q0h l.prog w K mg base CK4 7 "ask" (spAskT ⟨CK1,CK5,CK3,CK2,CK4,CK0⟩) := ⟨⟨_,_,_,W_Tier_ask,⟨a51,i51,k51⟩,b51⟩,T.c_Tier.cls⟩
 have W_Tier_say : FnOk l.prog w K mg base CX0 9 f52 _ ["self","said"] (toSp K (spSayT ⟨CK1,CK5,CK3,CK2,CK4,CK0⟩)) := ok_Tier_say T E52 F_check_said M_Tier_ask M_Hand_say M_Weigher_say M_Shifter_say M_Rounder_say M_Follower_say
 have M_Hand_hear : Q0h l.prog w K mg base CK1 6 "hear" (Q3e CK1) := ⟨⟨_,_,_,W_Hand_hear,⟨a29,i29,k29⟩,b29⟩,T.c_Hand.cls⟩
 have M_Weigher_hear : Q0h l.prog w K mg base CK5 8 "hear" (Q1q CK5 CK3 false) := ⟨⟨_,_,_,W_Weigher_hear,⟨a38,i38,k38⟩,b38⟩,T.c_Weigher.cls⟩
 have M_Shifter_hear : Q0h l.prog w K mg base CK3 8 "hear" (Q1q CK5 CK3 true) := ⟨⟨_,_,_,W_Shifter_hear,⟨a39,i39,k39⟩,b39⟩,T.c_Shifter.cls⟩
 have M_Rounder_hear : Q0h l.prog w K mg base CK2 6 "hear" (Q3d CK2) := ⟨⟨_,_,_,W_Rounder_hear,⟨a32,i32,k32⟩,b32⟩,T.c_Rounder.cls⟩
 have M_Follower_hear : Q0h l.prog w K mg base CK0 6 "hear" (Q3f CK0) := ⟨⟨_,_,_,W_Follower_hear,⟨a44,i44,k44⟩,b44⟩,T.c_Follower.cls⟩
 have W_Tier_hear : FnOk l.prog w K mg base CX0 10 f53 _ ["self","said","so"] (toSp K (Q4u ⟨CK1,CK5,CK3,CK2,CK4,CK0⟩)) := ok_Tier_hear T E53 F_check_turn F_charge M_Tier_ask M_Hand_hear M_Weigher_hear M_Shifter_hear M_Rounder_hear M_Follower_hear
 have K_Tier : Q1C l.prog w K mg base CK4 10 "Tier" (spInitT ⟨CK1,CK5,CK3,CK2,CK4,CK0⟩) := ⟨⟨_,_,_,W_Tier___init__,⟨mk5,a49,i49,kc5⟩,b49⟩,T.m_Tier⟩
 have W_Tier_anew : FnOk l.prog w K mg base CX0 12 f54 _ ["self"] (toSp K (spAnewT ⟨CK1,CK5,CK3,CK2,CK4,CK0⟩)) := ok_Tier_anew T E54 K_Tier
 have F_has_greatest : Q0m l.prog w K mg base 1 "has_greatest" (Q0i spHas) := ok_has_greatest T E55 (PySem.W.mg_of X G a55) b55
 have F_most_errors : Q0m l.prog w K mg base 2 "most_errors" (relSp pre17 rel17) := ok_most_errors T E56 (PySem.W.mg_of X G a56) b56 F_power F_has_greatest
 have F_halvings : Q0m l.prog w K mg base 1 "halvings" (Q0i spHalv) := ok_halvings T E57 (PySem.W.mg_of X G a57) b57
 have M_Tier_anew : Q0h l.prog w K mg base CK4 12 "anew" (spAnewT ⟨CK1,CK5,CK3,CK2,CK4,CK0⟩) := ⟨⟨_,_,_,W_Tier_anew,⟨a54,i54,k54⟩,b54⟩,T.c_Tier.cls⟩
 have M_Tier_say : Q0h l.prog w K mg base CK4 9 "say" (spSayT ⟨CK1,CK5,CK3,CK2,CK4,CK0⟩) := ⟨⟨_,_,_,W_Tier_say,⟨a52,i52,k52⟩,b52⟩,T.c_Tier.cls⟩
 have M_Tier_hear : Q0h l.prog w K mg base CK4 10 "hear" (Q4u ⟨CK1,CK5,CK3,CK2,CK4,CK0⟩) := ⟨⟨_,_,_,W_Tier_hear,⟨a53,i53,k53⟩,b53⟩,T.c_Tier.cls⟩
 have F_ran : Q0m l.prog w K mg base 13 "ran" (spRanX ⟨CK1,CK5,CK3,CK2,CK4,CK0⟩) := ok_ran T E58 (PySem.W.mg_of X G a58) b58 F_check_turns M_Hand_anew M_Hand_say M_Hand_hear M_Weigher_anew M_Weigher_say M_Weigher_hear M_Shifter_anew M_Shifter_say M_Shifter_hear M_Rounder_anew M_Rounder_say M_Rounder_hear M_Tier_anew M_Tier_say M_Tier_hear M_Follower_anew M_Follower_say M_Follower_hear
 have F_l_cell_at : Q0m l.prog w K mg base 1 "_law_cell_at" (Q0i spCell) := ok_l_cell_at T E59 (PySem.W.mg_of X G a59) b59
 have F_l_next : Q0m l.prog w K mg base 1 "_law_next" (Q0i spNext) := ok_l_next T E60 (PySem.W.mg_of X G a60) b60
 have F_l_seed : Q0m l.prog w K mg base 2 "_law_seed" (Q0i spSeedS) := ok_l_seed T E61 (PySem.W.mg_of X G a61) b61 F_l_cell_at F_l_next
 have F_l_turn : Q0m l.prog w K mg base 2 "_law_turn" (Q0i spTurnR) := ok_l_turn T E62 (PySem.W.mg_of X G a62) b62 F_l_next
 have F_l_turns : Q0m l.prog w K mg base 3 "_law_turns" (Q0i spTurnsR) := ok_l_turns T E63 (PySem.W.mg_of X G a63) b63 F_l_seed F_l_turn
 have F_l_many : Q0m l.prog w K mg base 1 "_law_many" (relSp preX relMany) := ok_l_many T E64 (PySem.W.mg_of X G a64) b64
 have F_l_fraction : Q0m l.prog w K mg base 1 "_law_fraction" (Q0i spFracP) := ok_l_fraction T E65 (PySem.W.mg_of X G a65) b65
 have F_l_hand : Q0m l.prog w K mg base 13 "_law_hand" (spHandP1 ⟨CK1,CK5,CK3,CK2,CK4,CK0⟩) := ok_l_hand T E66 (PySem.W.mg_of X G a66) b66 K_Hand K_Weigher K_Shifter K_Rounder K_Follower
 have F_l_hands : Q0m l.prog w K mg base 14 "_law_hands" (spHandsP ⟨CK1,CK5,CK3,CK2,CK4,CK0⟩) := ok_l_hands T E67 (PySem.W.mg_of X G a67) b67 F_l_next F_l_hand
 have F_l_power : Q0m l.prog w K mg base 1 "_law_power" (Q0i spPow) := ok_l_power T E68 (PySem.W.mg_of X G a68) b68
 have F_l_bound : Q0m l.prog w K mg base 2 "_law_bound" (Q0i spBd) := ok_l_bound T E69 (PySem.W.mg_of X G a69) b69 F_l_power
 have M_Tier_hand_charges : Q0h l.prog w K mg base CK4 1 "hand_charges" (spChT ⟨CK1,CK5,CK3,CK2,CK4,CK0⟩) := ⟨⟨_,_,_,W_Tier_hand_charges,⟨a50,i50,k50⟩,b50⟩,T.c_Tier.cls⟩
 exact ok_law T E70 F_l_cell_at F_l_seed F_l_many F_l_fraction F_l_turns F_l_hands F_l_bound F_most_errors F_halvings F_ran K_Tier K_Weigher M_Tier_hand_charges M_Hand_hear M_Weigher_hear M_Shifter_hear M_Rounder_hear M_Tier_hear M_Follower_hear
theorem walk {l : PySem.W.OpenLaw} {q : Program} {loose : List Str} {XP : (Str -> Option Value) -> Heap -> Prop} {YP : World -> Heap -> Prop} {d : DefRec} {K : Params -> PySem.W.Frag} (hn : l.most = some 63) (hdf : d.params.defaults = [])
  (hY : ∀ (w : World) (h : Heap),YP w h -> (K w.params).In h)
  (F : ∀ (w : World) (mg : Str -> Option Value) (fa : Addr) (h : Heap),(K w.params).In h -> h.Ns mainGlobals mg -> mg d.name = some (.ref fa) ->
   ∃ fd : FuncData,(∀ (s : Shared) (u : Value),BindsTo s fd ⟨[u],[]⟩ [("_law_script",u)]) /\ ∀ base : Heap,(K w.params).In base -> base.Ns mainGlobals mg -> FnOk l.prog w (K w.params) mg base CX0 19 fa fd ["_law_script"] (toSp (K w.params) spLaw)) :
  PySem.W.WalkO q loose XP YP l.row.toRowW d [] (λ f vs => PySem.call f vs) :=
 L2.walk_of (n := 63) (k := 19) (x := "_law_script") (CX := λ _ => CX0) (sp := λ w => toSp (K w.params) spLaw) hn (by decide) hdf ⟨rfl,by decide,by decide⟩ hY F (λ _ _ a ns hl _ hS => law_start hl hS) λ _ _ _ _ _ z => z
end My
open PySem PySem.W PyProof.Rows
theorem My.walkZ {q : Program} {loose : List Str} {XP : (Str -> Option Value) -> Heap -> Prop} {K : Params -> PySem.W.Frag} {as : List Addr} {n t : Nat} {r : RowW} {d : DefRec} {kwd : List (Str × Expr)} {run : Value -> List Value -> Sem Value} (e : ∀ P,as = (K P).map (·.1))
  (h : WalkO q loose XP (λ w h => (K w.params).In h) r d kwd run) : WalkX q loose XP (X.obsZ as) (X.valZ K n t) r d kwd run := λ w s₀ s₁ mg mb G y a o pm cd doc dV kV ho hd hcd hD hmg hg args vals as' L hpre hlay hrd hwl hlo =>
 h w s₀ s₁ mg mb G (λ b o' e' => L.keeps _ _ ((X.z_facts e y).2.1 b o' e')) a o pm cd doc dV kV ho hd hcd hD hmg hg args vals as' hpre hlay hrd hwl hlo
def PySem.W.Fast.tw3762607885564144094 : Nat := 0
def PySem.W.Fast.tw11880089950055526225 : Nat := 0
def PySem.W.Fast.tw10682891511960794037 : Nat := 0
def PySem.W.Fast.tw10058609894521253408 : Nat := 0
def PySem.W.Fast.tw15810265205409333034 : Nat := 0
def PySem.W.Fast.tw10075480027266616494 : Nat := 0
def PySem.W.Fast.tw16341447263006491434 : Nat := 0
def PySem.W.Fast.tw14610065431822625911 : Nat := 0
def PySem.W.Fast.tw6753954823008993540 : Nat := 0
def PySem.W.Fast.tw2923233303529260843 : Nat := 0
def PySem.W.Fast.tw11090329229279797362 : Nat := 0
def PySem.W.Fast.tw16393188236010017931 : Nat := 0
def PySem.W.Fast.tw16521088617410064685 : Nat := 0
def PySem.W.Fast.tw15045469148779319044 : Nat := 0
def PySem.W.Fast.tw5671755557686703719 : Nat := 0
def PySem.W.Fast.tw9032436637722706087 : Nat := 0
def PySem.W.Fast.tw12376626018777817571 : Nat := 0
open PySem PySem.W PyProof.Rows
set_option maxRecDepth 100000 in
set_option maxHeartbeats 0 in
theorem PySem.Challenge.cw_heedwise_k72_the_head_is_bound_holds : PySem.Challenge.rw_heedwise_k72_the_head_is_bound.Holds := by
 w_on; o_law; z_head; (case hw => w_witness2)
 k_fill
 refine My.walkZ (λ P => rfl) ?_
 refine My.walk (l := PySem.Challenge.rw_heedwise_k72_the_head_is_bound) rfl rfl (λ w h Y => Y) ?F
 case F =>
  intro w mg fa h KX G hmg
  refine' My.all_mk KX G hmg ?aC0 ?aC1 ?aC2 ?aC3 ?aC4 ?aC5 ?a0 ?l0 ?c0 ?k0 ?a1 ?l1 ?c1 ?k1 ?a2 ?l2 ?c2 ?k2 ?a3 ?l3 ?c3 ?k3 ?a4 ?l4 ?c4 ?k4 ?a5 ?l5 ?c5 ?k5 ?a6 ?l6 ?c6 ?k6 ?a7 ?l7 ?c7 ?k7 ?a8 ?l8 ?c8 ?k8 ?a9 ?l9 ?c9 ?k9 ?a10 ?l10 ?c10 ?k10 ?a11 ?l11 ?c11 ?k11 ?a12 ?l12 ?c12 ?k12 ?a13 ?l13 ?c13 ?k13 ?a14 ?l14 ?c14 ?k14 ?a15 ?l15 ?c15 ?k15 ?a16 ?l16 ?c16 ?k16 ?a17 ?l17 ?c17 ?k17 ?a18 ?l18 ?c18 ?k18 ?a19 ?l19 ?c19 ?k19 ?a20 ?l20 ?c20 ?k20 ?a21 ?l21 ?c21 ?k21 ?a22 ?l22 ?c22 ?k22 ?a23 ?l23 ?c23 ?k23 ?a24 ?i24 ?l24 ?c24 ?k24 ?a25 ?i25 ?l25 ?c25 ?k25 ?a26 ?i26 ?l26 ?c26 ?k26 ?a27 ?i27 ?l27 ?c27 ?k27 ?a28 ?i28 ?l28 ?c28 ?k28 ?a29 ?i29 ?l29 ?c29 ?k29 ?a30 ?i30 ?l30 ?c30 ?k30 ?a31 ?i31 ?l31 ?c31 ?k31 ?a32 ?i32 ?l32 ?c32 ?k32 ?a33 ?i33 ?l33 ?c33 ?k33 ?a34 ?i34 ?l34 ?c34 ?k34 ?a35 ?i35 ?l35 ?c35 ?k35 ?a36 ?i36 ?l36 ?c36 ?k36 ?a37 ?i37 ?l37 ?c37 ?k37 ?a38 ?i38 ?l38 ?c38 ?k38 ?a39 ?i39 ?l39 ?c39 ?k39 ?a40 ?i40 ?l40 ?c40 ?k40 ?a41 ?i41 ?l41 ?c41 ?k41 ?a42 ?i42 ?l42 ?t42 ?c42 ?k42 ?a43 ?i43 ?l43 ?c43 ?k43 ?a44 ?i44 ?l44 ?c44 ?k44 ?a45 ?i45 ?l45 ?c45 ?k45 ?a46 ?l46 ?c46 ?k46 ?a47 ?l47 ?c47 ?k47 ?a48 ?l48 ?c48 ?k48 ?a49 ?i49 ?l49 ?c49 ?k49 ?a50 ?i50 ?l50 ?c50 ?k50 ?a51 ?i51 ?l51 ?c51 ?k51 ?a52 ?i52 ?l52 ?c52 ?k52 ?a53 ?i53 ?l53 ?c53 ?k53 ?a54 ?i54 ?l54 ?c54 ?k54 ?a55 ?l55 ?c55 ?k55 ?a56 ?l56 ?c56 ?k56 ?a57 ?l57 ?c57 ?k57 ?a58 ?l58 ?c58 ?k58 ?a59 ?l59 ?c59 ?k59 ?a60 ?l60 ?c60 ?k60 ?a61 ?l61 ?c61 ?k61 ?a62 ?l62 ?c62 ?k62 ?a63 ?l63 ?c63 ?k63 ?a64 ?l64 ?c64 ?k64 ?a65 ?l65 ?c65 ?k65 ?a66 ?l66 ?c66 ?k66 ?a67 ?l67 ?c67 ?k67 ?a68 ?l68 ?c68 ?k68 ?a69 ?l69 ?c69 ?k69 ?a70 ?l70 ?c70 ?k70 ?pg0 ?hd0 ?po0 ?sa0 ?ca0 ?cm0 ?n0_many ?n0_scale ?q0_Hand ?mk0 ?kc0 ?so0___init__ ?rd0___init__ ?fc0___init__ ?pg1 ?hd1 ?po1 ?sa1 ?ca1 ?cm1 ?n1_many ?n1_scale ?n1_top ?n1_bottom ?n1_tops ?n1_under ?q1_Hand ?mk1 ?kc1 ?e1_say ?so1___init__ ?rd1___init__ ?fc1___init__ ?pg2 ?hd2 ?po2 ?sa2 ?ca2 ?cm2 ?n2_many ?n2_scale ?n2_top ?n2_bottom ?n2_tops ?n2_under ?n2_share ?n2_parts ?q2_Hand ?mk2 ?kc2 ?e2_heeded ?e2_say ?e2_weigh ?pg3 ?hd3 ?po3 ?sa3 ?ca3 ?cm3 ?n3_many ?n3_scale ?n3_inside ?n3_over ?q3_Hand ?mk3 ?kc3 ?e3_say ?pg4 ?hd4 ?po4 ?sa4 ?ca4 ?cm4 ?n4_many ?n4_scale ?n4_push ?n4_reached ?q4_Hand ?mk4 ?kc4 ?pg5 ?hd5 ?po5 ?sa5 ?ca5 ?cm5 ?n5_many ?n5_scale ?n5_hands ?n5_head ?n5_charged ?q5_Hand ?mk5 ?kc5 ?gn ?gt ?z0 ?z1 ?z2 ?z3 ?z4 ?z5 ?z6 ?z7 ?z8 ?z9 ?z10 ?z11 ?z12 ?z13 ?z14 ?z15 ?y0 ?y1 ?y2 ?y3 ?y4
  (case aC0 => k_is)
  (case aC1 => k_is)
  (case aC2 => k_is)
  (case aC3 => k_is)
  (case aC4 => k_is)
  (case aC5 => k_is)
  (case a0 => k_is)
  (case l0 => k_is)
  (case c0 => k_is)
  (case k0 => k_is)
  (case a1 => k_is)
  (case l1 => k_is)
  (case c1 => k_is)
  (case k1 => k_is)
  (case a2 => k_is)
  (case l2 => k_is)
  (case c2 => k_is)
  (case k2 => k_is)
  (case a3 => k_is)
  (case l3 => k_is)
  (case c3 => k_is)
  (case k3 => k_is)
  (case a4 => k_is)
  (case l4 => k_is)
  (case c4 => k_is)
  (case k4 => k_is)
  (case a5 => k_is)
  (case l5 => k_is)
  (case c5 => k_is)
  (case k5 => k_is)
  (case a6 => k_is)
  (case l6 => k_is)
  (case c6 => k_is)
  (case k6 => k_is)
  (case a7 => k_is)
  (case l7 => k_is)
  (case c7 => k_is)
  (case k7 => k_is)
  (case a8 => k_is)
  (case l8 => k_is)
  (case c8 => k_is)
  (case k8 => k_is)
  (case a9 => k_is)
  (case l9 => k_is)
  (case c9 => k_is)
  (case k9 => k_is)
  (case a10 => k_is)
  (case l10 => k_is)
  (case c10 => k_is)
  (case k10 => k_is)
  (case a11 => k_is)
  (case l11 => k_is)
  (case c11 => k_is)
  (case k11 => k_is)
  (case a12 => k_is)
  (case l12 => k_is)
  (case c12 => k_is)
  (case k12 => k_is)
  (case a13 => k_is)
  (case l13 => k_is)
  (case c13 => k_is)
  (case k13 => k_is)
  (case a14 => k_is)
  (case l14 => k_is)
  (case c14 => k_is)
  (case k14 => k_is)
  (case a15 => k_is)
  (case l15 => k_is)
  (case c15 => k_is)
  (case k15 => k_is)
  (case a16 => k_is)
  (case l16 => k_is)
  (case c16 => k_is)
  (case k16 => k_is)
  (case a17 => k_is)
  (case l17 => k_is)
  (case c17 => k_is)
  (case k17 => k_is)
  (case a18 => k_is)
  (case l18 => k_is)
  (case c18 => k_is)
  (case k18 => k_is)
  (case a19 => k_is)
  (case l19 => k_is)
  (case c19 => k_is)
  (case k19 => k_is)
  (case a20 => k_is)
  (case l20 => k_is)
  (case c20 => k_is)
  (case k20 => k_is)
  (case a21 => k_is)
  (case l21 => k_is)
  (case c21 => k_is)
  (case k21 => k_is)
  (case a22 => k_is)
  (case l22 => k_is)
  (case c22 => k_is)
  (case k22 => k_is)
  (case a23 => k_is)
  (case l23 => k_is)
  (case c23 => k_is)
  (case k23 => k_is)
  (case a24 => k_is)
  (case i24 => k_is)
  (case l24 => k_is)
  (case c24 => k_is)
  (case k24 => k_is)
  (case a25 => k_is)
  (case i25 => k_is)
  (case l25 => k_is)
  (case c25 => k_is)
  (case k25 => k_is)
  (case a26 => k_is)
  (case i26 => k_is)
  (case l26 => k_is)
  (case c26 => k_is)
  (case k26 => k_is)
  (case a27 => k_is)
  (case i27 => k_is)
  (case l27 => k_is)
  (case c27 => k_is)
  (case k27 => k_is)
  (case a28 => k_is)
  (case i28 => k_is)
  (case l28 => k_is)
  (case c28 => k_is)
  (case k28 => k_is)
  (case a29 => k_is)
  (case i29 => k_is)
  (case l29 => k_is)
  (case c29 => k_is)
  (case k29 => k_is)
  (case a30 => k_is)
  (case i30 => k_is)
  (case l30 => k_is)
  (case c30 => k_is)
  (case k30 => k_is)
  (case a31 => k_is)
  (case i31 => k_is)
  (case l31 => k_is)
  (case c31 => k_is)
  (case k31 => k_is)
  (case a32 => k_is)
  (case i32 => k_is)
  (case l32 => k_is)
  (case c32 => k_is)
  (case k32 => k_is)
  (case a33 => k_is)
  (case i33 => k_is)
  (case l33 => k_is)
  (case c33 => k_is)
  (case k33 => k_is)
  (case a34 => k_is)
  (case i34 => k_is)
  (case l34 => k_is)
  (case c34 => k_is)
  (case k34 => k_is)
  (case a35 => k_is)
  (case i35 => k_is)
  (case l35 => k_is)
  (case c35 => k_is)
  (case k35 => k_is)
  (case a36 => k_is)
  (case i36 => k_is)
  (case l36 => k_is)
  (case c36 => k_is)
  (case k36 => k_is)
  (case a37 => k_is)
  (case i37 => k_is)
  (case l37 => k_is)
  (case c37 => k_is)
  (case k37 => k_is)
  (case a38 => k_is)
  (case i38 => k_is)
  (case l38 => k_is)
  (case c38 => k_is)
  (case k38 => k_is)
  (case a39 => k_is)
  (case i39 => k_is)
  (case l39 => k_is)
  (case c39 => k_is)
  (case k39 => k_is)
  (case a40 => k_is)
  (case i40 => k_is)
  (case l40 => k_is)
  (case c40 => k_is)
  (case k40 => k_is)
  (case a41 => k_is)
  (case i41 => k_is)
  (case l41 => k_is)
  (case c41 => k_is)
  (case k41 => k_is)
  (case a42 => k_is)
  (case i42 => k_is)
  (case l42 => k_is)
  (case t42 => k_is)
  (case c42 => k_is)
  (case k42 => k_is)
  (case a43 => k_is)
  (case i43 => k_is)
  (case l43 => k_is)
  (case c43 => k_is)
  (case k43 => k_is)
  (case a44 => k_is)
  (case i44 => k_is)
  (case l44 => k_is)
  (case c44 => k_is)
  (case k44 => k_is)
  (case a45 => k_is)
  (case i45 => k_is)
  (case l45 => k_is)
  (case c45 => k_is)
  (case k45 => k_is)
  (case a46 => k_is)
  (case l46 => k_is)
  (case c46 => k_is)
  (case k46 => k_is)
  (case a47 => k_is)
  (case l47 => k_is)
  (case c47 => k_is)
  (case k47 => k_is)
  (case a48 => k_is)
  (case l48 => k_is)
  (case c48 => k_is)
  (case k48 => k_is)
  (case a49 => k_is)
  (case i49 => k_is)
  (case l49 => k_is)
  (case c49 => k_is)
  (case k49 => k_is)
  (case a50 => k_is)
  (case i50 => k_is)
  (case l50 => k_is)
  (case c50 => k_is)
  (case k50 => k_is)
  (case a51 => k_is)
  (case i51 => k_is)
  (case l51 => k_is)
  (case c51 => k_is)
  (case k51 => k_is)
  (case a52 => k_is)
  (case i52 => k_is)
  (case l52 => k_is)
  (case c52 => k_is)
  (case k52 => k_is)
  (case a53 => k_is)
  (case i53 => k_is)
  (case l53 => k_is)
  (case c53 => k_is)
  (case k53 => k_is)
  (case a54 => k_is)
  (case i54 => k_is)
  (case l54 => k_is)
  (case c54 => k_is)
  (case k54 => k_is)
  (case a55 => k_is)
  (case l55 => k_is)
  (case c55 => k_is)
  (case k55 => k_is)
  (case a56 => k_is)
  (case l56 => k_is)
  (case c56 => k_is)
  (case k56 => k_is)
  (case a57 => k_is)
  (case l57 => k_is)
  (case c57 => k_is)
  (case k57 => k_is)
  (case a58 => k_is)
  (case l58 => k_is)
  (case c58 => k_is)
  (case k58 => k_is)
  (case a59 => k_is)
  (case l59 => k_is)
  (case c59 => k_is)
  (case k59 => k_is)
  (case a60 => k_is)
  (case l60 => k_is)
  (case c60 => k_is)
  (case k60 => k_is)
  (case a61 => k_is)
  (case l61 => k_is)
  (case c61 => k_is)
  (case k61 => k_is)
  (case a62 => k_is)
  (case l62 => k_is)
  (case c62 => k_is)
  (case k62 => k_is)
  (case a63 => k_is)
  (case l63 => k_is)
  (case c63 => k_is)
  (case k63 => k_is)
  (case a64 => k_is)
  (case l64 => k_is)
  (case c64 => k_is)
  (case k64 => k_is)
  (case a65 => k_is)
  (case l65 => k_is)
  (case c65 => k_is)
  (case k65 => k_is)
  (case a66 => k_is)
  (case l66 => k_is)
  (case c66 => k_is)
  (case k66 => k_is)
  (case a67 => k_is)
  (case l67 => k_is)
  (case c67 => k_is)
  (case k67 => k_is)
  (case a68 => k_is)
  (case l68 => k_is)
  (case c68 => k_is)
  (case k68 => k_is)
  (case a69 => k_is)
  (case l69 => k_is)
  (case c69 => k_is)
  (case k69 => k_is)
  (case a70 => k_is)
  (case l70 => k_is)
  (case c70 => k_is)
  (case k70 => k_is)
  (case pg0 => k_is)
  (case hd0 => k_is)
  (case po0 => k_is)
  (case sa0 => k_is)
  (case ca0 => k_is)
  (case cm0 => k_is)
  (case n0_many => k_is)
  (case n0_scale => k_is)
  (case q0_Hand => kit_is)
  (case mk0 => k_is)
  (case kc0 => k_is)
  (case so0___init__ => k_is)
  (case rd0___init__ => k_is)
  (case fc0___init__ => k_is)
  (case pg1 => k_is)
  (case hd1 => k_is)
  (case po1 => k_is)
  (case sa1 => k_is)
  (case ca1 => k_is)
  (case cm1 => k_is)
  (case n1_many => k_is)
  (case n1_scale => k_is)
  (case n1_top => k_is)
  (case n1_bottom => k_is)
  (case n1_tops => k_is)
  (case n1_under => k_is)
  (case q1_Hand => kit_is)
  (case mk1 => k_is)
  (case kc1 => k_is)
  (case e1_say => k_is)
  (case so1___init__ => k_is)
  (case rd1___init__ => k_is)
  (case fc1___init__ => k_is)
  (case pg2 => k_is)
  (case hd2 => k_is)
  (case po2 => k_is)
  (case sa2 => k_is)
  (case ca2 => k_is)
  (case cm2 => k_is)
  (case n2_many => k_is)
  (case n2_scale => k_is)
  (case n2_top => k_is)
  (case n2_bottom => k_is)
  (case n2_tops => k_is)
  (case n2_under => k_is)
  (case n2_share => k_is)
  (case n2_parts => k_is)
  (case q2_Hand => kit_is)
  (case mk2 => k_is)
  (case kc2 => k_is)
  (case e2_heeded => k_is)
  (case e2_say => k_is)
  (case e2_weigh => k_is)
  (case pg3 => k_is)
  (case hd3 => k_is)
  (case po3 => k_is)
  (case sa3 => k_is)
  (case ca3 => k_is)
  (case cm3 => k_is)
  (case n3_many => k_is)
  (case n3_scale => k_is)
  (case n3_inside => k_is)
  (case n3_over => k_is)
  (case q3_Hand => kit_is)
  (case mk3 => k_is)
  (case kc3 => k_is)
  (case e3_say => k_is)
  (case pg4 => k_is)
  (case hd4 => k_is)
  (case po4 => k_is)
  (case sa4 => k_is)
  (case ca4 => k_is)
  (case cm4 => k_is)
  (case n4_many => k_is)
  (case n4_scale => k_is)
  (case n4_push => k_is)
  (case n4_reached => k_is)
  (case q4_Hand => kit_is)
  (case mk4 => k_is)
  (case kc4 => k_is)
  (case pg5 => k_is)
  (case hd5 => k_is)
  (case po5 => k_is)
  (case sa5 => k_is)
  (case ca5 => k_is)
  (case cm5 => k_is)
  (case n5_many => k_is)
  (case n5_scale => k_is)
  (case n5_hands => k_is)
  (case n5_head => k_is)
  (case n5_charged => k_is)
  (case q5_Hand => kit_is)
  (case mk5 => k_is)
  (case kc5 => k_is)
  (case gn => k_is)
  (case gt => k_is)
  (case z0 => k_is)
  (case z1 => k_is)
  (case z2 => k_is)
  (case z3 => k_is)
  (case z4 => k_is)
  (case z5 => k_is)
  (case z6 => k_is)
  (case z7 => k_is)
  (case z8 => k_is)
  (case z9 => k_is)
  (case z10 => k_is)
  (case z11 => k_is)
  (case z12 => k_is)
  (case z13 => k_is)
  (case z14 => k_is)
  (case z15 => k_is)
  (case y0 => k_is)
  (case y1 => k_is)
  (case y2 => k_is)
  (case y3 => k_is)
  (case y4 => k_is)
