import PyProof.Rows.All
import Wide.All
import OpenK.AllK
import Wide.FinOn
import Lean
import PyProof.EqAt
import PyProof.EqKinds
import PyProof.TupleCall
import PyProof.NeData
import PyProof.WalkInts
import PyProof.ListRange
import KE.KIntText
import PyProof.DictWalks
import PyProof.DictItems
import KE.KDictList
import PyProof.Rows.SortKeyStr
import PyProof.NeKinds
import PySem.Challenge.RW_heedwise_k90_whole_from_a_text
theorem wB {p : Prop} (h : p := by first | exact Or.inl rfl | exact Or.inr (Or.inl rfl) | exact Or.inr (Or.inr rfl) | assumption) : p := h
theorem wC {p : Prop} (h : p := by first | decide | omega) : p := h
theorem wD {p : Prop} (h : p := by decide +kernel) : p := h
theorem wE {p : Prop} (h : p := by decide) : p := h
theorem wF {p : Prop} (h : p := by omega) : p := h
set_option Elab.async false
set_option linter.all false
set_option maxRecDepth 100000
namespace L2
open PySem PySem.Spec PyProof.Rows
abbrev AY:=Sum Int Str
def QG:AY->Value->Bool
 | .inl k,v=>Value.isInt k v
 | .inr x,v=>Value.isStrOf x v
def Y6 (w:World):AY->Int
 | .inl k=>hashInt k
 | .inr x=>hashStr w x
theorem EA:∀ {k:AY} {v:Value},QG k v=true->(∃ i t,k=Sum.inl i/\v=Value.int i t)\/(∃ x t,k=Sum.inr x/\v=Value.str x t)
 | .inl i,v,h=>by
  obtain ⟨t,e⟩:=Value.isInt_shape (k:=i) (v:=v) h
  exact .inl ⟨i,t,rfl,e⟩
 | .inr x,v,h=>by
  obtain ⟨t,e⟩:=Value.isStrOf_shape (x:=x) (v:=v) h
  exact .inr ⟨x,t,rfl,e⟩
theorem Y5 (a b:Int):decide ((Sum.inl a:AY)=Sum.inl b)=(a==b):=by
 by_cases e:a=b
 ·subst e; simp
 ·have h:¬ (Sum.inl a:AY)=Sum.inl b:=λq=>e (Sum.inl.inj q)
  rw [decide_eq_false h]
  exact (beq_eq_false_iff_ne.mpr e).symm
theorem Y2 (a b:Str):decide ((Sum.inr a:AY)=Sum.inr b)=decide (a=b):=by
 by_cases e:a=b
 ·subst e; simp
 ·have h:¬ (Sum.inr a:AY)=Sum.inr b:=λq=>e (Sum.inr.inj q)
  rw [decide_eq_false h,decide_eq_false e]
theorem Y4 (a:Int) (b:Str):decide ((Sum.inl a:AY)=Sum.inr b)=false:=decide_eq_false (λq=>nomatch q)
theorem Y3 (a:Str) (b:Int):decide ((Sum.inr a:AY)=Sum.inl b)=false:=decide_eq_false (λq=>nomatch q)
def Mm (prog:Program) (w:World):PySem.KeyKind prog w AY where
 is:=QG
 hash:=Y6 w
 inj:=λv a b ha hb=>by
  rcases EA ha with ⟨i,t,rfl,rfl⟩ | ⟨x,t,rfl,rfl⟩
  ·rcases EA hb with ⟨j,u,rfl,e⟩ | ⟨y,u,rfl,e⟩
   ·injection e with e1 _; rw [e1]
   ·exact nomatch e
  ·rcases EA hb with ⟨j,u,rfl,e⟩ | ⟨y,u,rfl,e⟩
   ·exact nomatch e
   ·injection e with e1 _; rw [e1]
 byValue:=λk v h=>by
  rcases EA h with ⟨i,t,rfl,rfl⟩ | ⟨x,t,rfl,rfl⟩ <;> rfl
 pyHash:=λhv h=>by
  rcases EA hv with ⟨i,t,rfl,rfl⟩ | ⟨x,t,rfl,rfl⟩
  ·exact wpAny_pyHash_int h
  ·exact wpAny_pyHash_str h
 eqBool:=λhu hv h=>by
  rcases EA hu with ⟨i,t,rfl,rfl⟩ | ⟨x,t,rfl,rfl⟩
  ·rcases EA hv with ⟨j,u,rfl,rfl⟩ | ⟨y,u,rfl,rfl⟩
   ·rw [Y5] at h; exact wpAny_eqBool_int h
   ·rw [Y4] at h; exact SeqAt.EqAt.int_str i t y u _ _ _ _ h
  ·rcases EA hv with ⟨j,u,rfl,rfl⟩ | ⟨y,u,rfl,rfl⟩
   ·rw [Y3] at h; exact SeqAt.EqAt.str_int x t j u _ _ _ _ h
   ·rw [Y2] at h; exact wpAny_eqBool_str h
 «strs»:=λk x t v h=>by
  rcases EA h with ⟨i,u,rfl,e⟩ | ⟨y,u,rfl,e⟩
  ·exact nomatch e
  ·injection e with e1 _
   subst e1
   cases v <;> rfl
end L2
namespace L2
open PySem PySem.Spec PyProof.Rows
inductive V where
 | non | bl (b:Bool) | int (i:Int) | str (x:Str) | byt (b:Array UInt8) | flt (b:UInt64) | ref (a:Addr) | ty (n:String)
 deriving DecidableEq
def AR:V->Value->Prop
 | .non,u=>u=Value.none
 | .bl b,u=>u=Value.bool b
 | .int i,u=>∃ t,u=Value.int i t
 | .str x,u=>∃ t,u=Value.str x t
 | .byt b,u=>∃ t,u=Value.bytes b t
 | .flt b,u=>∃ t,u=Value.float b t
 | .ref a,u=>u=Value.ref a
 | .ty n,u=>u=Value.type n
abbrev AD:List V->List Value->Prop:=Paired AR
theorem AD.length {xs:List V} {us:List Value} (r:AD xs us):xs.length=us.length:=Paired.length r
theorem AD.get:∀ {xs:List V} {us:List Value} {i:Nat} {x:V},AD xs us->xs[i]?=some x->∃ u,us[i]?=some u/\AR x u
 | _,_,_,_,.nil,e=>by simp at e
 | _,_,0,_,.cons r _,e=>by simp at e; subst e; exact ⟨_,rfl,r⟩
 | _,_,i+1,x,.cons _ t,e=>by
  obtain ⟨u,h1,h2⟩:=AD.get (i:=i) (x:=x) t (by simpa using e)
  exact ⟨u,by simpa using h1,h2⟩
theorem AD.append:∀ {xs ys:List V} {us ws:List Value},AD xs us->AD ys ws->AD (xs++ys) (us++ws)
 | _,_,_,_,.nil,s=>s
 | _,_,_,_,.cons r t,s=>.cons r (AD.append t s)
theorem AD.take:∀ {xs:List V} {us:List Value} (n:Nat),AD xs us->AD (xs.take n) (us.take n)
 | _,_,0,_=>.nil
 | _,_,_+1,.nil=>.nil
 | _,_,n+1,.cons r t=>.cons r (AD.take n t)
theorem AD.drop:∀ {xs:List V} {us:List Value} (n:Nat),AD xs us->AD (xs.drop n) (us.drop n)
 | _,_,0,r=>r
 | _,_,_+1,.nil=>.nil
 | _,_,n+1,.cons _ t=>AD.drop n t
def Eg:Option V->Option Value->Prop
 | some v,some u=>AR v u
 | none,none=>True
 | _,_=>False
def KV {κ:Type}:List (κ×V)->List (κ×Value)->Prop:=Paired λ(p:κ×V) (q:κ×Value)=>p.1=q.1/\AR p.2 q.2
def kV:AY->V
 | .inl i=>.int i
 | .inr x=>.str x
inductive HO where
 | lst (xs:List V)
 | tup (xs:List V)
 | dK (kvs:List (AY×V)) | dT (kvs:List (List AY×V))
 | set (S:Int->Bool) (n:Nat)
 | ins (C dx:Addr) (fs:List (Str×V))
 | own (x:Addr)
 | xd (fs:List (Str×V))
 | met (f x:Addr)
 | rng (lo hi:Int)
 | frz (o:Obj) (u:HO)
 | tbl (ps:Array Value)
 | ext (φ:Heap->Prop)
abbrev Hp:=Addr->Option HO
def AI (H:Hp) (a:Addr) (o:HO):Hp:=λb=>if b=a then some o else H b
theorem BF {H:Hp} {a:Addr} {o:HO}:AI H a o a=some o:=by unfold AI; rw [if_pos rfl]
theorem A4 {H:Hp} {a b:Addr} {o:HO} (h:b≠a):AI H a o b=H b:=by unfold AI; rw [if_neg h]
theorem D6 {H:Hp} {a b:Addr} {o:HO} (h:H a=some o) (h':H b=none):a≠b:=by
 intro e; subst e; rw [h] at h'; cases h'
def EM (h:Heap) (a:Addr) (items:Array Value):Prop:=∃ o,h.get? a=some o/\o.dict=none/\o.cls=.type "tuple" /\ ∃ n,o.data=.seq items n
theorem EM.t {h:Heap} {a:Addr} {items:Array Value} (x:EM h a items):IsTup h a items:=let ⟨o,e,_,r⟩:=x; ⟨o,e,r⟩
theorem EM.new (h:Heap) (items:Array Value):EM (h.push { cls:=.type "tuple",data:=.seq items }) h.objs.size items:=⟨_,Heap.get?_push_size _ rfl,rfl,rfl,_,rfl⟩
section
variable (P:Program) (w:World)
def B7 (H:Hp) (h:Heap) (a:Addr):HO->Prop
 | .lst xs=>xs.length<=sizeLine/\∃ (its:List Value) (n:Nat),AD xs its/\h.get? a=some { cls:=.type "list",data:=.seq its.toArray n }
 | .tup xs=>xs.length<=sizeLine/\∃ its:List Value,AD xs its/\EM h a its.toArray
 | .dK kvs=>kvs.length<=sizeLine/\(a==sysModules)=false/\∃ vs,KV kvs vs/\h.DictOf (Mm P w) a vs
 | .dT kvs=>kvs.length<=sizeLine/\(a==sysModules)=false/\∃ xs:List (List AY×Addr×Value),
   Paired (λ(p:List AY×V) (q:List AY×Addr×Value)=>p.1=q.1/\H q.2.1=some (.tup (p.1.map kV))/\AR p.2 q.2.2) kvs xs /\
   ∃ o es ep,h.get? a=some o/\o.ExactDict/\o.data=.dict es ep/\es.toList=xs.map (entryOfKey (tupleKind (Mm P w)))/\(xs.map (·.1)).Nodup
 | .set S n=>h.SetOf (intKind P w) a S n
 | .ins C dx fs=>H dx=some (.own a)/\fs.length<=1000/\dx≠a/\h.get? a=some (PySem.W.instObj C dx) /\
   ∃ mA,h.Ns1 dx mA/\(∀ f,Eg (fs.lookup f) (mA f))/\PySem.Within mA (fs.map (·.1))
 | .own _=>∃ o,h.get? a=some o
 | .xd fs=>∃ mA,h.Ns1 a mA/\∀ f,Eg (fs.lookup f) (mA f)
 | .rng lo hi=>∃ t u v,h.get? a=some { cls:=.type "range",data:=.fields #[.int lo t,.int hi u,.int 1 v] }
 | .frz o u=>h.get? a=some o/\B7 H h a u
 | .tbl ps=>h.get? a=some { cls:=.none,data:=.fields ps }
 | .met f x=>h.get? a=some (PySem.W.methodObj (.ref f) (.ref x))
 | .ext φ=>φ h/\(∃ o,h.get? a=some o)/\∀ h1 h2:Heap,φ h1->(∀ o,h1.get? a=some o->h2.get? a=some o)->φ h2
def A3 (H:Hp) (h:Heap):Prop:=∀ a o,H a=some o->B7 P w H h a o
end
section
variable {P:Program} {w:World} {H H':Hp} {h h':Heap} {a:Addr} {o:HO}
theorem B7.lt (x:B7 P w H h a o):a<h.objs.size:=by
 cases o with
 | lst xs=>obtain ⟨_,_,_,_,e⟩:=x; exact Heap.lt_size e
 | tup xs=>obtain ⟨_,_,_,p⟩:=x; exact p.t.lt
 | dK kvs=>obtain ⟨_,_,_,_,o,_,_,e,_⟩:=x; exact Heap.lt_size e
 | dT kvs=>obtain ⟨_,_,_,_,o,_,_,e,_⟩:=x; exact Heap.lt_size e
 | set S n=>obtain ⟨o,_,_,_,e,_⟩:=x; exact Heap.lt_size e
 | ins C dx fs=>obtain ⟨_,_,_,e,_⟩:=x; exact Heap.lt_size e
 | own y=>obtain ⟨_,e⟩:=x; exact Heap.lt_size e
 | xd fs=>obtain ⟨_,⟨_,_,_,e,_⟩,_⟩:=x; exact Heap.lt_size e
 | rng lo hi=>obtain ⟨_,_,_,e⟩:=x; exact Heap.lt_size e
 | frz ob u=>obtain ⟨e,_⟩:=x; exact Heap.lt_size e
 | tbl ps=>exact Heap.lt_size (show h.get? a=some _ from x)
 | met f y=>exact Heap.lt_size (show h.get? a=some _ from x)
 | ext φ=>obtain ⟨_,⟨_,e⟩,_⟩:=x; exact Heap.lt_size e
theorem Paired.mapP {α β:Type} {F G:α->β->Prop}:∀ {l₁:List α} {l₂:List β},Paired F l₁ l₂->(∀ a b,F a b->G a b)->Paired G l₁ l₂
 | _,_,.nil,_=>.nil
 | _,_,.cons r t,f=>.cons (f _ _ r) (Paired.mapP t f)
theorem B7.stay (x:B7 P w H h a o) (k:∀ b u,(b=a\/H b=some (.own a))->h.get? b=some u->h'.get? b=some u)
  (ho:∀ b,H b=some (.own a)->H' b=some (.own a)) (ht:∀ b xs,H b=some (.tup xs)->H' b=some (.tup xs)):B7 P w H' h' a o:=by
 induction o with
 | lst xs=>obtain ⟨z,its,n,r,e⟩:=x; exact ⟨z,its,n,r,k _ _ (.inl rfl) e⟩
 | tup xs=>obtain ⟨z,its,r,ob,e,c⟩:=x; exact ⟨z,its,r,ob,k _ _ (.inl rfl) e,c⟩
 | dK kvs=>obtain ⟨z,y,vs,r,ob,es,ep,e,c⟩:=x; exact ⟨z,y,vs,r,ob,es,ep,k _ _ (.inl rfl) e,c⟩
 | dT kvs=>
  obtain ⟨z,y,xs,r,ob,es,ep,e,c⟩:=x
  exact ⟨z,y,xs,Paired.mapP r λp q z=>⟨z.1,ht _ _ z.2.1,z.2.2⟩,ob,es,ep,k _ _ (.inl rfl) e,c⟩
 | set S n=>obtain ⟨ob,es,ep,t,e,c⟩:=x; exact ⟨ob,es,ep,t,k _ _ (.inl rfl) e,c⟩
 | ins C dx fs=>
  obtain ⟨d,z,ne,e,mA,⟨od,es,ep,e2,c⟩,r⟩:=x
  exact ⟨ho _ d,z,ne,k _ _ (.inl rfl) e,mA,⟨od,es,ep,k _ _ (.inr d) e2,c⟩,r⟩
 | own y=>obtain ⟨ob,e⟩:=x; exact ⟨ob,k _ _ (.inl rfl) e⟩
 | xd fs=>obtain ⟨mA,⟨od,es,ep,e,c⟩,r⟩:=x; exact ⟨mA,⟨od,es,ep,k _ _ (.inl rfl) e,c⟩,r⟩
 | rng lo hi=>obtain ⟨t,u,v,e⟩:=x; exact ⟨t,u,v,k _ _ (.inl rfl) e⟩
 | frz ob u ih=>obtain ⟨e,q⟩:=x; exact ⟨k _ _ (.inl rfl) e,ih q⟩
 | tbl ps=>
  have e:h.get? a=some { cls:=.none,data:=.fields ps }:=x
  show h'.get? a=some { cls:=.none,data:=.fields ps }
  exact k a _ (.inl rfl) e
 | met f y=>
  have e:h.get? a=some (PySem.W.methodObj (.ref f) (.ref y)):=x
  show h'.get? a=some (PySem.W.methodObj (.ref f) (.ref y))
  exact k a _ (.inl rfl) e
 | ext φ=>obtain ⟨p,⟨o,e⟩,st⟩:=x; exact ⟨st _ _ p λo q=>k _ _ (.inl rfl) q,⟨o,k _ _ (.inl rfl) e⟩,st⟩
theorem A3.lt (x:A3 P w H h) (e:H a=some o):a<h.objs.size:=(x a o e).lt
theorem A3.fresh (x:A3 P w H h) (e:h.objs.size<=a):H a=none:=by
 cases q:H a with
 | none=>rfl
 | some u=>exact absurd (Nat.lt_of_lt_of_le (x.lt q) e) (Nat.lt_irrefl _)
theorem A3.kept (x:A3 P w H h) (k:∀ b u,h.get? b=some u->h'.get? b=some u):A3 P w H h':=λa o e=>
 (x a o e).stay (λb u _ q=>k b u q) (λ_ q=>q) λ_ _ q=>q
theorem A3.laid (x:A3 P w H h) (k:∀ b u,h.get? b=some u->h'.get? b=some u) (hp:h.objs.size<=a) (new:B7 P w (AI H a o) h' a o):A3 P w (AI H a o) h':=λb u e=>by
 have hn:=x.fresh hp
 by_cases hb:b=a
 ·subst hb; rw [BF] at e; cases e; exact new
 ·rw [A4 hb] at e
  exact (x b u e).stay (λc v _ q=>k c v q) (λc q=>by rw [A4 (D6 q hn)]; exact q) λc xs q=>by rw [A4 (D6 q hn)]; exact q
end
def Rd (H:Hp) (a:Addr) (u:HO):Prop:=H a=some u\/∃ o,H a=some (.frz o u)
theorem Rd.ok {P:Program} {w:World} {H:Hp} {h:Heap} {a:Addr} {u:HO} (r:Rd H a u) (x:A3 P w H h):B7 P w H h a u:=by
 rcases r with r | ⟨o,r⟩
 ·exact x a u r
 ·obtain ⟨_,q⟩:=x a _ r
  exact q
def JD:Option HO->Prop
 | some (.lst _)=>True
 | some (.dK _)=>True
 | some (.dT _)=>True
 | some (.set _ _)=>True
 | some (.ins _ _ _)=>True
 | some (.ext _)=>True
 | _=>False
section
variable {P:Program} {w:World} {H:Hp} {h h':Heap} {x e:Addr} {o':HO}
theorem A3.write (ok:A3 P w H h) (mu:JD (H x)) (he:e=x\/H e=some (.own x)) (k:∀ b u,b≠e->h.get? b=some u->h'.get? b=some u) (heo:∃ u,h'.get? e=some u)
  (new:B7 P w (AI H x o') h' x o'):A3 P w (AI H x o') h':=λb u q=>by
 have nown:∀ c y,H c=some (.own y)->c≠x:=λc y r z=>by subst z; rw [r] at mu; exact mu
 have ntup:∀ c xs,H c=some (.tup xs)->c≠x:=λc xs r z=>by subst z; rw [r] at mu; exact mu
 by_cases hb:b=x
 ·subst hb; rw [BF] at q; cases q; exact new
 ·rw [A4 hb] at q
  by_cases hbe:b=e
  ·have q':H b=some (.own x):=by
    rcases he with z | z
    ·exact absurd (hbe.trans z) hb
    ·rw [hbe]; exact z
   rw [q] at q'; cases q'
   obtain ⟨v,hv⟩:=heo
   exact ⟨v,by rw [hbe]; exact hv⟩
  ·refine (ok b u q).stay (λc v hc r=>k c v ?_ r) (λc r=>by rw [A4 (nown c b r)]; exact r) λc xs r=>by rw [A4 (ntup c xs r)]; exact r
   rcases hc with rfl | hc
   ·exact hbe
   ·rintro rfl
    rcases he with z | z
    ·exact nown c b hc z
    ·rw [hc] at z; cases z; exact hb rfl
end
structure Un (fs ex:List Addr) (H H':Hp) (h h':Heap):Prop where
 keep:∀ b o,h.get? b=some o->H b=none->b∉fs->b∉ex->h'.get? b=some o
 slot:∀ b o,h.get? b=some o->H b=none->b∈fs->b∉ex->∃ sl,h'.get? b=some { o with slots:=sl }
 free:∀ b o,h.get? b=some o->H b=none->b∉ex->H' b=none
 there:∀ b o,h.get? b=some o->b∉ex->∃ o',h'.get? b=some o'
 tups:∀ b xs,H b=some (.tup xs)->H' b=some (.tup xs)
 frzs:∀ b o u,H b=some (.frz o u)->H' b=some (.frz o u)
 tbls:∀ b ps,H b=some (.tbl ps)->∃ more,H' b=some (.tbl (ps++more))
section
variable {fs fs' ex ex':List Addr} {H H1 H2:Hp} {h h1 h2 h':Heap} {a x e:Addr} {o:HO}
theorem Un.any (u:Un fs ex H H1 h h1) {b:Addr} {ob:Obj} (q:h.get? b=some ob) (n:H b=none) (hx:b∉ex):∃ sl,h1.get? b=some { ob with slots:=sl }:=by
 by_cases hb:b∈fs
 ·exact u.slot b ob q n hb hx
 ·exact ⟨ob.slots,u.keep b ob q n hb hx⟩
theorem Un.kept (k:∀ b u,h.get? b=some u->h'.get? b=some u):Un fs ex H H h h':=
 ⟨λb ob q _ _ _=>k b ob q,λb ob q _ _ _=>⟨ob.slots,k b ob q⟩,λ_ _ _ n _=>n,λb ob q _=>⟨ob,k b ob q⟩,λ_ _ q=>q,λ_ _ _ q=>q,λ_ ps q=>⟨#[],by rw [q]; simp⟩⟩
theorem Un.refl:Un fs ex H H h h:=Un.kept λ_ _ q=>q
theorem Un.laid (k:∀ b u,h.get? b=some u->h'.get? b=some u) (hp:h.objs.size<=a) (hn:H a=none):Un fs ex H (AI H a o) h h' where
 keep:=λb u q _ _ _=>k b u q
 slot:=λb u q _ _ _=>⟨u.slots,k b u q⟩
 free:=λb u q n _=>by rw [A4 (Nat.ne_of_lt (Nat.lt_of_lt_of_le (Heap.lt_size q) hp))]; exact n
 there:=λb u q _=>⟨u,k b u q⟩
 tups:=λb xs q=>by rw [A4 (D6 q hn)]; exact q
 frzs:=λb u xs q=>by rw [A4 (D6 q hn)]; exact q
 tbls:=λb ps q=>⟨#[],by rw [A4 (D6 q hn),q]; simp⟩
theorem Un.write (mu:JD (H x)) (he:e=x\/H e=some (.own x)) (k:∀ b u,b≠e->h.get? b=some u->h'.get? b=some u) (heo:∃ u,h'.get? e=some u):Un fs ex H (AI H x o) h h':=by
 have hx:∀ b,H b=none->b≠x:=λb n z=>by subst z; rw [n] at mu; exact mu
 have hb:∀ b,H b=none->b≠e:=λb n z=>by
  subst z
  rcases he with r | r
  ·exact hx b n r
  ·rw [n] at r; cases r
 have hm:∀ b u,H b=some u->¬ JD (some u)->b≠x:=λb u q nm z=>by subst z; rw [q] at mu; exact nm mu
 refine ⟨λb u q n _ _=>k b u (hb b n) q,λb u q n _ _=>⟨u.slots,k b u (hb b n) q⟩,λb u q n _=>by rw [A4 (hx b n)]; exact n,λb u q _=>?_,
  λb xs q=>by rw [A4 (hm b _ q λz=>z)]; exact q,λb u xs q=>by rw [A4 (hm b _ q λz=>z)]; exact q,λb ps q=>⟨#[],by rw [A4 (hm b _ q λz=>z),q]; simp⟩⟩
 by_cases hbe:b=e
 ·subst hbe; exact heo
 ·exact ⟨u,k b u hbe q⟩
end
def Ig (h:Heap) (H:Hp):List Addr:=(List.range h.objs.size).filter λa=>(H a).isSome
def EB (h:Heap) (H:Hp):Heap:=PySem.W.hideAll h (Ig h H)
theorem Zz (h:Heap) (H:Hp):(EB h H).objs.size=h.objs.size:=PySem.W.hideAll_size _ _
theorem ZA {h:Heap} {H:Hp} {b:Addr} {o:Obj} (e:h.get? b=some o) (n:H b=none):(EB h H).get? b=some o:=
 PySem.W.hideAll_get _ e λhm=>by
  have q:(H b).isSome=true:=(List.mem_filter.mp hm).2
  rw [n] at q; simp at q
theorem X9 {h:Heap} {H:Hp} {b:Addr} {o:Obj} (e:(EB h H).get? b=some o):h.get? b=some o/\H b=none:=by
 have e':h.get? b=some o:=PySem.W.of_hideAll (Ig h H) e
 refine ⟨e',?_⟩
 cases q:H b with
 | none=>rfl
 | some x=>
  have hm:b∈Ig h H:=List.mem_filter.mpr ⟨List.mem_range.mpr (Heap.lt_size e'),by simp [q]⟩
  have z:(EB h H).get? b=none:=PySem.W.hideAll_none (Ig h H) hm
  rw [z] at e; cases e
def Q1Z (g h:Heap) (L:Addr):List (Addr×Obj):=(List.range h.objs.size).filterMap λa=>if a=L\/(g.get? a).isSome=true then none else (h.get? a).map λo=>(a,o)
def rest (g h:Heap) (L d:Addr):List (Addr×Obj):=(Q1Z g h L).filter λp=>decide (p.1≠d)
end L2
namespace L2
open PySem PySem.Spec PyProof.Rows
structure Mod (K:PySem.W.Frag) (mg:Str->Option Value) (base:Heap):Prop where
 kin:K.In base
 glob:base.Ns mainGlobals mg
 blt:∃ mb,base.Ns builtinsNs mb/\∀ x:Str,x ≠ "__name__" -> mb x=bootBuiltins x
 nolimit:base.NoLimit
structure Cx where
 prog:Program
 w:World
 K:PySem.W.Frag
 mg:Str->Option Value
 base:Heap
 A:Around
 N:List Str
 s₀:Shared
 H₀:Hp
 env:Env
 outer:List Env
 stack:List Env
 ex:List Addr
 fn:Str->Bool
 calm:Bool
 pn:List (Addr×Obj)
 xe:Value->Shared->Prop
def Dj (l:List Env):List Addr:=l.filterMap (·.frame)
abbrev Cx.fs (X:Cx):List Addr:=Dj X.outer
def EK (sc:Scope) (x:Str):Prop:=sc.names.lookup x=some .local\/sc.names.lookup x=some .cell\/sc.names.lookup x=some .free
def EN (sc:Scope) (x:Str):Prop:=sc.names.lookup x=some .local\/sc.names.lookup x=some .cell
def Look (env:Env) (h:Heap) (m:Str->Option Value) (x:Str) (u:Value):Prop:=
 (env.kindOf x=some .local/\m x=some u)\/((env.kindOf x=some .cell\/env.kindOf x=some .free)/\∃ c,env.cells.lookup x=some c/\h.IsCell c (some u))
structure Cx.Ok (X:Cx):Prop where
 mod:Mod X.K X.mg X.base
 kind:X.env.scope.kind=.function
 glob:X.env.globals=mainGlobals
 blt:X.env.builtins=builtinsNs
 above:X.s₀.heap.objs.size<=X.env.locals
 inj:∀ x y c,X.env.cells.lookup x=some c->X.env.cells.lookup y=some c->x=y
 has:∀ x,(X.env.kindOf x=some .cell\/X.env.kindOf x=some .free)->∃ c,X.env.cells.lookup x=some c
 cab:∀ x c,X.fn x=true->X.env.cells.lookup x=some c->X.s₀.heap.objs.size<=c
 hd:X.calm=true->X.A.handled=none
 frames:X.A.frames=some X.stack
 stk:X.stack=X.outer\/(X.stack=X.env::X.outer/\X.env.frame=some X.env.locals)
 exf:∀ b∈X.ex,b≠X.env.locals/\∀ x c,X.env.cells.lookup x=some c->c≠b
 bs:∀ b o,X.base.get? b=some o->X.s₀.heap.get? b=some o/\X.H₀ b=none
 bsz:X.base.objs.size<=X.s₀.heap.objs.size
 noex:∀ b o,X.base.get? b=some o->b∉X.ex
 exfs:∀ b∈X.ex,b∉X.fs
 funs:X.s₀.heap.FunFrames X.base X.outer
 frf:∀ b∈X.fs,X.H₀ b=none
structure Inv (X:Cx) (pins:List (Addr×Obj)) (σ:List (Option V)) (H:Hp) (s:Shared):Prop where
 ok:X.Ok
 os:s.os=X.s₀.os
 bare:AllBare s.gens
 base:Un X.fs X.ex X.H₀ H X.s₀.heap s.heap
 loc:∃ m,s.heap.Ns X.env.locals m/\∀ (i:Nat) (x:Str) (v:V),X.N[i]?=some x->σ[i]?=some (some v)->EK X.env.scope x->∃ u,AR v u/\Look X.env s.heap m x u
 cell:∀ x c,X.env.cells.lookup x=some c->∃ v,s.heap.IsCell c v
 free:H X.env.locals=none
 freeC:∀ x c,X.env.cells.lookup x=some c->H c=none
 pin:∀ p∈X.pn++pins,s.heap.get? p.1=some p.2/\H p.1=none/\p.1≠X.env.locals/\p.1∉X.fs/\∀ v,p.2.data≠.cell v
 hok:A3 X.prog X.w H s.heap
 len:σ.length=X.N.length
section
variable {X:Cx} {pins:List (Addr×Obj)} {σ:List (Option V)} {H H':Hp} {s:Shared} {h':Heap}
theorem Cx.Ok.nofr (ok:X.Ok) {b:Addr} {o:Obj} (e:X.base.get? b=some o):b∉X.fs:=λhb=>by
 have:=(ok.funs.mem hb).1
 rw [e] at this; cases this
theorem Inv.bs (I:Inv X pins σ H s):∀ b o,X.base.get? b=some o->s.heap.get? b=some o/\H b=none:=λb o e=>
 ⟨I.base.keep b o (I.ok.bs b o e).1 (I.ok.bs b o e).2 (I.ok.nofr e) (I.ok.noex b o e),I.base.free b o (I.ok.bs b o e).1 (I.ok.bs b o e).2 (I.ok.noex b o e)⟩
theorem Inv.bk (I:Inv X pins σ H s):∀ b o,X.base.get? b=some o->s.heap.get? b=some o:=λb o e=>(I.bs b o e).1
theorem Inv.mod (I:Inv X pins σ H s):Mod X.K X.mg X.base:=I.ok.mod
theorem Inv.kIn (I:Inv X pins σ H s):X.K.In s.heap:=I.ok.mod.kin.keeps I.bk
theorem Inv.lt (I:Inv X pins σ H s):X.env.locals<s.heap.objs.size:=let ⟨_,hn,_⟩:=I.loc; hn.lt
theorem Inv.sz (I:Inv X pins σ H s):X.s₀.heap.objs.size<=s.heap.objs.size:=Nat.le_trans I.ok.above (Nat.le_of_lt I.lt)
theorem Inv.nofs (I:Inv X pins σ H s) {a:Addr} (h:s.heap.objs.size<=a):a∉X.fs:=λhb=>by
 obtain ⟨_,o,ho,_⟩:=I.ok.funs.mem hb
 exact absurd (Nat.lt_of_lt_of_le (Heap.lt_size ho) (Nat.le_trans I.sz h)) (Nat.lt_irrefl _)
theorem Inv.cne (I:Inv X pins σ H s):∀ x c,X.env.cells.lookup x=some c->c≠X.env.locals:=λx c e z=>by
 obtain ⟨v,o,ho,hd⟩:=I.cell x c e
 obtain ⟨m,⟨o',es,ep,ho',hd',_⟩,_⟩:=I.loc
 rw [z,ho'] at ho; cases ho; rw [hd'] at hd; cases hd
theorem Inv.funs (I:Inv X pins σ H s):s.heap.FunFrames X.base X.outer:=by
 have all:∀ (l:List Env),(∀ b∈Dj l,b∈X.fs)->X.s₀.heap.FunFrames X.base l->s.heap.FunFrames X.base l:=by
  intro l
  induction l with
  | nil=>intro _ _; trivial
  | cons env r ih=>
   intro hs hl
   obtain ⟨hk,⟨L,o,hf,hn,ho,hd⟩,hr⟩:=hl
   have hL:L∈X.fs:=hs L (by unfold Dj; rw [List.filterMap_cons,hf]; exact List.mem_cons_self)
   obtain ⟨sl,e⟩:=I.base.slot L o ho (I.ok.frf L hL) hL λz=>I.ok.exfs L z hL
   exact ⟨hk,⟨L,_,hf,hn,e,hd⟩,ih (λb hb=>hs b (by unfold Dj; rw [List.filterMap_cons,hf]; exact List.mem_cons_of_mem _ hb)) hr⟩
 exact all X.outer (λ_ hb=>hb) I.ok.funs
theorem Inv.stack (I:Inv X pins σ H s):s.heap.FunFrames X.base X.stack:=by
 rcases I.ok.stk with e | ⟨e,hf⟩
 ·rw [e]; exact I.funs
 ·rw [e]
  obtain ⟨m,hn,_⟩:=I.loc
  refine .cons (by rw [I.ok.kind]; decide) hf hn ?_ I.funs
  exact Heap.get?_none_of_le (Nat.le_trans I.ok.bsz I.ok.above)
theorem Inv.stkSub (I:Inv X pins σ H s):∀ b∈Dj X.stack,b∈X.env.locals::X.fs:=λb hb=>by
 rcases I.ok.stk with e | ⟨e,hf⟩
 ·rw [e] at hb; exact List.mem_cons_of_mem _ hb
 ·rw [e] at hb
  unfold Dj at hb
  rw [List.filterMap_cons,hf] at hb
  exact hb
theorem Inv.stkFree (I:Inv X pins σ H s):∀ b∈Dj X.stack,H b=none:=λb hb=>by
 rcases List.mem_cons.mp (I.stkSub b hb) with e | hb
 ·rw [e]; exact I.free
 ·obtain ⟨_,o,ho,_⟩:=I.ok.funs.mem hb
  exact I.base.free b o ho (I.ok.frf b hb) λz=>I.ok.exfs b z hb
theorem Inv.step {g':Array GenState} {t':Nat} {d':Drawn} {ch:List Addr} (I:Inv X pins σ H s)
  (hch:∀ b∈ch,(b∈X.ex\/X.s₀.heap.objs.size<=b)/\b≠X.env.locals/\(∀ x c,X.env.cells.lookup x=some c->c≠b)/\∀ p∈X.pn++pins,p.1≠b)
  (keep:∀ b o,b≠X.env.locals->b∉X.fs->b∉ch->s.heap.get? b=some o->H b=none->h'.get? b=some o)
  (slot:∀ b o,b≠X.env.locals->b∈X.fs->b∉ch->s.heap.get? b=some o->H b=none->∃ sl,h'.get? b=some { o with slots:=sl }) (free:∀ b o,b∉ch->s.heap.get? b=some o->H b=none->H' b=none)
  (there:∀ b o,b∉ch->s.heap.get? b=some o->∃ o',h'.get? b=some o')
  (tups:∀ b xs,H b=some (.tup xs)->H' b=some (.tup xs)) (frzs:∀ b o u,H b=some (.frz o u)->H' b=some (.frz o u)) (tbls:∀ b ps,H b=some (.tbl ps)->∃ more,H' b=some (.tbl (ps++more)))
  (ns:∀ m,s.heap.Ns X.env.locals m->h'.Ns X.env.locals m) (hok:A3 X.prog X.w H' h') (hg:AllBare g') :
  Inv X pins σ H' { s with heap:=h',gens:=g',drawn:=d',toks:=t' }:=by
 have neL:∀ b o,X.s₀.heap.get? b=some o->b≠X.env.locals:=λb o e=>Nat.ne_of_lt (Nat.lt_of_lt_of_le (Heap.lt_size e) I.ok.above)
 have neC:∀ b o,X.s₀.heap.get? b=some o->b∉X.ex->b∉ch:=λb o e hx hb=>by
  rcases (hch b hb).1 with z | z
  ·exact hx z
  ·exact absurd (Nat.lt_of_lt_of_le (Heap.lt_size e) z) (Nat.lt_irrefl _)
 have cellK:∀ x c,X.env.cells.lookup x=some c->∀ v,s.heap.IsCell c v->h'.IsCell c v:=λx c e v ⟨o,ho,hd⟩=>by
  have nch:c∉ch:=λz=>(hch c z).2.2.1 x c e rfl
  by_cases hc:c∈X.fs
  ·obtain ⟨sl,q⟩:=slot c o (I.cne x c e) hc nch ho (I.freeC x c e)
   exact ⟨_,q,hd⟩
  ·exact ⟨o,keep c o (I.cne x c e) hc nch ho (I.freeC x c e),hd⟩
 refine ⟨I.ok,I.os,hg,⟨λb o e n hb hx=>?_,λb o e n hb hx=>?_,λb o e n hx=>?_,λb o e hx=>?_,λb xs e=>tups b xs (I.base.tups b xs e),λb o xs e=>frzs b o xs (I.base.frzs b o xs e),λb ps e=>?_⟩,?_,λx c e=>?_,?_,λx c e=>?_,λp hp=>?_,hok,I.len⟩
 ·exact keep b o (neL b o e) hb (neC b o e hx) (I.base.keep b o e n hb hx) (I.base.free b o e n hx)
 ·obtain ⟨sl,e1⟩:=I.base.slot b o e n hb hx
  obtain ⟨sl',e2⟩:=slot b _ (neL b o e) hb (neC b o e hx) e1 (I.base.free b o e n hx)
  exact ⟨sl',e2⟩
 ·obtain ⟨o',e1⟩:=I.base.there b o e hx
  exact free b o' (neC b o e hx) e1 (I.base.free b o e n hx)
 ·obtain ⟨o',e1⟩:=I.base.there b o e hx
  exact there b o' (neC b o e hx) e1
 ·obtain ⟨m1,e1⟩:=I.base.tbls b ps e
  obtain ⟨m2,e2⟩:=tbls b _ e1
  exact ⟨m1++m2,by rw [e2,Array.append_assoc]⟩
 ·obtain ⟨m,hn,hl⟩:=I.loc
  refine ⟨m,ns m hn,λi x v e1 e2 e3=>?_⟩
  obtain ⟨u,r,l⟩:=hl i x v e1 e2 e3
  refine ⟨u,r,?_⟩
  rcases l with l | ⟨k,c,e,z⟩
  ·exact .inl l
  ·exact .inr ⟨k,c,e,cellK x c e _ z⟩
 ·obtain ⟨v,z⟩:=I.cell x c e
  exact ⟨v,cellK x c e v z⟩
 ·obtain ⟨m,⟨o,_,_,ho,_⟩,_⟩:=I.loc
  exact free _ o (λz=>(hch _ z).2.1 rfl) ho I.free
 ·obtain ⟨v,o,ho,hd⟩:=I.cell x c e
  exact free c o (λz=>(hch c z).2.2.1 x c e rfl) ho (I.freeC x c e)
 ·obtain ⟨e,n,ne,nf,d⟩:=I.pin p hp
  have nch:p.1∉ch:=λz=>(hch p.1 z).2.2.2 p hp rfl
  exact ⟨keep p.1 p.2 ne nf nch e n,free p.1 p.2 nch e n,ne,nf,d⟩
theorem Inv.un {t':Nat} (I:Inv X pins σ H s) (u:Un X.fs [] H H' s.heap h') (hok:A3 X.prog X.w H' h'):Inv X pins σ H' { s with heap:=h',toks:=t' }:=by
 obtain ⟨m,⟨o,es,ep,ho,r⟩,_⟩:=id I.loc
 obtain ⟨sl,hL⟩:=u.any ho I.free (by simp)
 exact I.step (g':=s.gens) (d':=s.drawn) (ch:=[]) (λ_ z=>nomatch z) (λb o _ hb _ e n=>u.keep b o e n hb (by simp)) (λb o _ hb _ e n=>u.slot b o e n hb (by simp)) (λb o _ e n=>u.free b o e n (by simp)) (λb o _ e=>u.there b o e (by simp)) u.tups u.frzs u.tbls (λm' hm=>by
  obtain ⟨o',es',ep',ho',r'⟩:=hm
  rw [ho] at ho'; cases ho'
  exact ⟨_,es',ep',hL,r'⟩) hok I.bare
theorem Inv.call {g':Array GenState} {t':Nat} {d':Drawn} {ch:List Addr} (I:Inv X pins σ H s) (u:Un (Dj X.stack) ch H H' s.heap h') (hok:A3 X.prog X.w H' h') (hg:AllBare g')
  (hch:∀ b∈ch,(b∈X.ex\/X.s₀.heap.objs.size<=b)/\b≠X.env.locals/\(∀ x c,X.env.cells.lookup x=some c->c≠b)/\∀ p∈X.pn++pins,p.1≠b) :
  Inv X pins σ H' { s with heap:=h',gens:=g',drawn:=d',toks:=t' }:=by
 obtain ⟨m,⟨o,es,ep,ho,r⟩,_⟩:=id I.loc
 obtain ⟨sl,hL⟩:=u.any ho I.free λz=>(hch _ z).2.1 rfl
 exact I.step (ch:=ch) hch (λb o hL hb hc e n=>u.keep b o e n (λz=>(List.mem_cons.mp (I.stkSub b z)).elim hL hb) hc) (λb o _ _ hc e n=>u.any e n hc) (λb o hc e n=>u.free b o e n hc) (λb o hc e=>u.there b o e hc) u.tups u.frzs u.tbls (λm' hm=>by
  obtain ⟨o',es',ep',ho',r'⟩:=hm
  rw [ho] at ho'; cases ho'
  exact ⟨_,es',ep',hL,r'⟩) hok hg
theorem Inv.turned {t':Nat} {it:Addr} (I:Inv X pins σ H s) (k:∀ b o,b≠it->s.heap.get? b=some o->h'.get? b=some o) (hn:H it=none) (hL:it≠X.env.locals)
  (h1:it∈X.ex\/X.s₀.heap.objs.size<=it) (h2:∀ x c,X.env.cells.lookup x=some c->c≠it) (h3:∀ p∈X.pn++pins,p.1≠it):Inv X pins σ H { s with heap:=h',toks:=t' }:=by
 have nit:∀ b u,H b=some u->b≠it:=λb u e z=>by rw [z,hn] at e; cases e
 refine I.step (g':=s.gens) (d':=s.drawn) (ch:=[it]) (λb hb=>?_) (λb o _ _ hc e _=>k b o (λz=>hc (by simp [z])) e) (λb o _ _ hc e _=>⟨o.slots,k b o (λz=>hc (by simp [z])) e⟩) (λ_ _ _ _ n=>n)
  (λb o hc e=>⟨o,k b o (λz=>hc (by simp [z])) e⟩) (λ_ _ e=>e) (λ_ _ _ e=>e) (λb ps e=>⟨#[],by rw [e]; simp⟩) (λm hm=>?_) (λb u e=>?_) I.bare
 ·have e:b=it:=by simpa using hb
  subst e
  exact ⟨h1,hL,h2,h3⟩
 ·obtain ⟨o,es,ep,ho,r⟩:=hm
  exact ⟨o,es,ep,k _ o (Ne.symm hL) ho,r⟩
 ·refine (I.hok b u e).stay (λc v hc q=>k c v ?_ q) (λ_ q=>q) λ_ _ q=>q
  rcases hc with z | z
  ·rw [z]; exact nit b u e
  ·exact nit c _ z
theorem Inv.tok (I:Inv X pins σ H s) (t:Nat):Inv X pins σ H { s with toks:=t }:=I.un (h':=s.heap) (t':=t) Un.refl I.hok
theorem Inv.kept {t':Nat} (I:Inv X pins σ H s) (k:∀ b u,s.heap.get? b=some u->h'.get? b=some u):Inv X pins σ H { s with heap:=h',toks:=t' }:=I.un (Un.kept k) (I.hok.kept k)
theorem Inv.laid {a:Addr} {o:HO} {t':Nat} (I:Inv X pins σ H s) (k:∀ b u,s.heap.get? b=some u->h'.get? b=some u) (hp:s.heap.objs.size<=a) (new:B7 X.prog X.w (AI H a o) h' a o) :
  Inv X pins σ (AI H a o) { s with heap:=h',toks:=t' }:=I.un (Un.laid k hp (I.hok.fresh hp)) (I.hok.laid k hp new)
theorem Inv.write {x e:Addr} {o:HO} {t':Nat} (I:Inv X pins σ H s) (mu:JD (H x)) (he:e=x\/H e=some (.own x)) (k:∀ b u,b≠e->s.heap.get? b=some u->h'.get? b=some u) (heo:∃ u,h'.get? e=some u)
  (new:B7 X.prog X.w (AI H x o) h' x o):Inv X pins σ (AI H x o) { s with heap:=h',toks:=t' }:=I.un (Un.write mu he k heo) (I.hok.write mu he k heo new)
theorem Inv.pins_of {pins':List (Addr×Obj)} (I:Inv X pins σ H s) (h:∀ p∈pins',s.heap.get? p.1=some p.2/\H p.1=none/\p.1≠X.env.locals/\p.1∉X.fs/\∀ v,p.2.data≠.cell v):Inv X pins' σ H s:=
 ⟨I.ok,I.os,I.bare,I.base,I.loc,I.cell,I.free,I.freeC,λp hp=>(List.mem_append.mp hp).elim (λz=>I.pin p (List.mem_append_left _ z)) (h p),I.hok,I.len⟩
theorem Qq {N:List Str} (hN:N.Nodup) {i j:Nat} {x:Str} (a:N[i]?=some x) (b:N[j]?=some x):i=j:=by
 obtain ⟨h1,e1⟩:=List.getElem?_eq_some_iff.mp a
 obtain ⟨h2,e2⟩:=List.getElem?_eq_some_iff.mp b
 exact (List.getElem_inj hN).mp (e1.trans e2.symm)
theorem N8 {M:Model} {A:Around} {E:Value->Shared->Prop} {i:Nat} {x:Str} {v:V} {u:Value} {Q:Unit->Shared->Prop} (I:Inv X pins σ H s) (hN:X.N.Nodup) (hi:X.N[i]?=some x) (hx:EN X.env.scope x) (r:AR v u)
  (h:∀ s',Inv X pins (σ.set i (some v)) H s'->(∃ a,Heap.SameBut a s.heap s'.heap/\(a=X.env.locals\/X.env.cells.lookup x=some a))->Q () s') (hf:X.fn x=true\/X.env.scope.names.lookup x=some .local:=by first | exact .inl rfl | exact .inr rfl | assumption):wpAny M A (storeName X.env x u) Q E s:=by
 obtain ⟨m,hn,hl⟩:=id I.loc
 have hcls:(X.env.scope.kind==.class||(X.env.scope.kind==.module&&X.env.locals != X.env.globals))=false:=by rw [I.ok.kind]; rfl
 have hiσ:i<σ.length:=by rw [I.len]; exact (List.getElem?_eq_some_iff.mp hi).1
 have cne:=I.cne
 have tracked:∀ {a:Addr} {h':Heap},(∃ o,s.heap.get? a=some o/\H a=none)->Heap.SameBut a s.heap h'->A3 X.prog X.w H h':=λ{a h'} ha hs b ob e=>by
  obtain ⟨_,_,hfree⟩:=ha
  refine (I.hok b ob e).stay (λc w' hc q=>(hs.2 c ?_).trans q) (λ_ q=>q) λ_ _ q=>q
  rintro rfl
  rcases hc with rfl | hc
  ·rw [hfree] at e; cases e
  ·rw [hfree] at hc; cases hc
 rcases hx with hk | hk
 ·refine wpAny_storeName_local hk hn (λh' hn' hs=>?_) hcls
  obtain ⟨oL,_,_,hoL,_⟩:=id hn
  refine h _ ⟨I.ok,I.os,I.bare,⟨λb o e n hb hx=>?_,λb o e n hb hx=>?_,I.base.free,λb o e hx=>?_,I.base.tups,I.base.frzs,I.base.tbls⟩,⟨_,hn',λj y v' e1 e2 e3=>?_⟩,λy c e=>?_,I.free,I.freeC,λp hp=>?_,tracked ⟨oL,hoL,I.free⟩ hs,by simpa using I.len⟩ ⟨_,hs,.inl rfl⟩
  ·exact (hs.2 b (Nat.ne_of_lt (Nat.lt_of_lt_of_le (Heap.lt_size e) I.ok.above))).trans (I.base.keep b o e n hb hx)
  ·obtain ⟨sl,e1⟩:=I.base.slot b o e n hb hx
   exact ⟨sl,(hs.2 b (Nat.ne_of_lt (Nat.lt_of_lt_of_le (Heap.lt_size e) I.ok.above))).trans e1⟩
  ·obtain ⟨o',e1⟩:=I.base.there b o e hx
   exact ⟨o',(hs.2 b (Nat.ne_of_lt (Nat.lt_of_lt_of_le (Heap.lt_size e) I.ok.above))).trans e1⟩
  ·by_cases hj:j=i
   ·subst hj
    rw [hi] at e1; cases e1
    rw [List.getElem?_set_self hiσ] at e2
    cases e2
    exact ⟨u,r,.inl ⟨hk,by simp⟩⟩
   ·rw [List.getElem?_set_ne (Ne.symm hj)] at e2
    obtain ⟨u',r',q⟩:=hl j y v' e1 e2 e3
    refine ⟨u',r',?_⟩
    rcases q with ⟨k,e⟩ | ⟨k,c,e,z⟩
    ·refine .inl ⟨k,?_⟩
     have:y≠x:=λe=>hj (Qq hN e1 (e ▸ hi))
     simp [this,e]
    ·exact .inr ⟨k,c,e,z.sameBut hs (cne y c e)⟩
  ·obtain ⟨w',z⟩:=I.cell y c e
   exact ⟨w',z.sameBut hs (cne y c e)⟩
  ·obtain ⟨e,n,ne,nf,d⟩:=I.pin p hp
   exact ⟨(hs.2 p.1 ne).trans e,n,ne,nf,d⟩
 ·have hfn:X.fn x=true:=by
   rcases hf with z | z
   ·exact z
   ·rw [z] at hk; cases hk
  obtain ⟨c,hc⟩:=I.ok.has x (.inl hk)
  obtain ⟨w',z⟩:=I.cell x c hc
  refine wpAny_storeName_cell I.ok.kind hk hc z (λh' hc' hs=>?_)
  obtain ⟨oc,hoc,hocd⟩:=id z
  refine h { s with heap:=h' } ⟨I.ok,I.os,I.bare,⟨λb o e n hb hx=>?_,λb o e n hb hx=>?_,I.base.free,λb o e hx=>?_,I.base.tups,I.base.frzs,I.base.tbls⟩,⟨m,hn.sameBut hs (Ne.symm (cne x c hc)),λj y v' e1 e2 e3=>?_⟩,λy c' e=>?_,I.free,I.freeC,λp hp=>?_,tracked ⟨oc,hoc,I.freeC x c hc⟩ hs,by simpa using I.len⟩ ⟨c,hs,.inr hc⟩
  ·exact (hs.2 b (Nat.ne_of_lt (Nat.lt_of_lt_of_le (Heap.lt_size e) (I.ok.cab x c hfn hc)))).trans (I.base.keep b o e n hb hx)
  ·obtain ⟨sl,e1⟩:=I.base.slot b o e n hb hx
   exact ⟨sl,(hs.2 b (Nat.ne_of_lt (Nat.lt_of_lt_of_le (Heap.lt_size e) (I.ok.cab x c hfn hc)))).trans e1⟩
  ·obtain ⟨o',e1⟩:=I.base.there b o e hx
   exact ⟨o',(hs.2 b (Nat.ne_of_lt (Nat.lt_of_lt_of_le (Heap.lt_size e) (I.ok.cab x c hfn hc)))).trans e1⟩
  ·by_cases hj:j=i
   ·subst hj
    rw [hi] at e1; cases e1
    rw [List.getElem?_set_self hiσ] at e2
    cases e2
    exact ⟨u,r,.inr ⟨.inl hk,c,hc,hc'⟩⟩
   ·rw [List.getElem?_set_ne (Ne.symm hj)] at e2
    obtain ⟨u',r',q⟩:=hl j y v' e1 e2 e3
    refine ⟨u',r',?_⟩
    rcases q with q | ⟨k,c',e,z'⟩
    ·exact .inl q
    ·refine .inr ⟨k,c',e,z'.sameBut hs ?_⟩
     rintro rfl
     exact hj (Qq hN e1 (I.ok.inj _ _ _ e hc ▸ hi))
  ·by_cases hcc:c'=c
   ·subst hcc; exact ⟨_,hc'⟩
   ·obtain ⟨w2,z2⟩:=I.cell y c' e
    exact ⟨w2,z2.sameBut hs hcc⟩
  ·obtain ⟨e,n,ne,nf,d⟩:=I.pin p hp
   refine ⟨(hs.2 p.1 ?_).trans e,n,ne,nf,d⟩
   intro q
   rw [q,hoc] at e
   have q':oc=p.2:=Option.some.inj e
   exact d w' (by rw [<- q']; exact hocd)
theorem N9 {M:Model} {A:Around} {E:Value->Shared->Prop} {i:Nat} {x:Str} {v:V} {u:Value} {Q:Unit->Shared->Prop} (I:Inv X pins σ H s) (hN:X.N.Nodup) (hi:X.N[i]?=some x) (hx:EN X.env.scope x) (r:AR v u)
  (h:∀ s',Inv X pins (σ.set i (some v)) H s'->Q () s') (hf:X.fn x=true\/X.env.scope.names.lookup x=some .local:=by first | exact .inl rfl | exact .inr rfl | assumption):wpAny M A (storeName X.env x u) Q E s:=
 N8 I hN hi hx r (λs' I' _=>h s' I') hf
theorem Inv.call' {s':Shared} {ch:List Addr} (I:Inv X pins σ H s) (ho:s'.os=s.os) (u:Un (Dj X.stack) ch H H' s.heap s'.heap) (hok:A3 X.prog X.w H' s'.heap) (hg:AllBare s'.gens)
  (hch:∀ b∈ch,(b∈X.ex\/X.s₀.heap.objs.size<=b)/\b≠X.env.locals/\(∀ x c,X.env.cells.lookup x=some c->c≠b)/\∀ p∈X.pn++pins,p.1≠b):Inv X pins σ H' s':=by
 obtain ⟨h',g',d',t',o'⟩:=s'
 have e:o'=s.os:=ho
 subst e
 exact I.call (g':=g') (t':=t') (d':=d') u hok hg hch
end
abbrev XK:=Value->Option Addr->Hp->Prop
abbrev St:=List (Option V)
abbrev VK:=V->Hp->Prop
abbrev TE:=St->Hp->VK->Prop
abbrev TT:=St->Hp->(Bool->Hp->Prop)->Prop
abbrev TA:=St->Hp->(List V->Hp->Prop)->Prop
structure FQ where
 nx:St->Hp->Prop
 rt:VK
 bk:St->Hp->Prop:=λ_ _=>False
 ct:St->Hp->Prop:=λ_ _=>False
abbrev TS:=FQ->St->Hp->Prop
def EP (X:Cx) (pins:List (Addr×Obj)) (σ:St) (Q:VK) (u:Value) (s':Shared):Prop:=∃ v H',Inv X pins σ H' s'/\AR v u/\Q v H'
def TP (X:Cx) (pins:List (Addr×Obj)) (σ:St) (Q:Bool->Hp->Prop) (b:Bool) (s':Shared):Prop:=∃ H',Inv X pins σ H' s'/\Q b H'
def AP (X:Cx) (pins:List (Addr×Obj)) (σ:St) (Q:List V->Hp->Prop) (us:List Value) (s':Shared):Prop:=∃ vs H',Inv X pins σ H' s'/\AD vs us/\Q vs H'
def SP (X:Cx) (pins:List (Addr×Obj)) (D:FQ) (f:Flow) (s':Shared):Prop:=
 match f with
 | .next=>∃ σ' H',Inv X pins σ' H' s'/\D.nx σ' H'
 | .brk=>∃ σ' H',Inv X pins σ' H' s'/\D.bk σ' H'
 | .cont=>∃ σ' H',Inv X pins σ' H' s'/\D.ct σ' H'
 | .ret u=>∃ v σ' H',Inv X pins σ' H' s'/\AR v u/\D.rt v H'
def PE (X:Cx) (e:Expr) (t:TE):Prop:=
 ∀ (pins:List (Addr×Obj)) (s:Shared) (σ:St) (H:Hp) (Q:VK),Inv X pins σ H s->t σ H Q->wpAny (model X.prog X.w) X.A (eval e X.env) (EP X pins σ Q) X.xe s
def PT (X:Cx) (e:Expr) (t:TT):Prop:=
 ∀ (pins:List (Addr×Obj)) (s:Shared) (σ:St) (H:Hp) (Q:Bool->Hp->Prop),Inv X pins σ H s->t σ H Q->wpAny (model X.prog X.w) X.A (isTrue e X.env (eval e X.env)) (TP X pins σ Q) X.xe s
def PW (X:Cx) (e:Expr) (t:TT):Prop:=
 ∀ (whole:Sem Value) (pins:List (Addr×Obj)) (s:Shared) (σ:St) (H:Hp) (Q:Bool->Hp->Prop),Inv X pins σ H s->t σ H Q->wpAny (model X.prog X.w) X.A (isTrue e X.env whole) (TP X pins σ Q) X.xe s
theorem PW.pt {X:Cx} {e:Expr} {t:TT} (h:PW X e t):PT X e t:=h _
def PA (X:Cx) (es:List Expr) (t:TA):Prop:=
 ∀ (pos:Pos) (pins:List (Addr×Obj)) (s:Shared) (σ:St) (H:Hp) (Q:List V->Hp->Prop),Inv X pins σ H s->t σ H Q->wpAny (model X.prog X.w) X.A (spliced (backTo pos (starEach es X.env))) (AP X pins σ Q) X.xe s
def PS (X:Cx) (st:Stmt) (t:TS):Prop:=
 ∀ (pins:List (Addr×Obj)) (s:Shared) (σ:St) (H:Hp) (D:FQ),Inv X pins σ H s->t D σ H->wpAny (model X.prog X.w) X.A (exec st X.env) (SP X pins D) X.xe s
def PSs (X:Cx) (st:List Stmt) (t:TS):Prop:=
 ∀ (pins:List (Addr×Obj)) (s:Shared) (σ:St) (H:Hp) (D:FQ),Inv X pins σ H s->t D σ H->wpAny (model X.prog X.w) X.A (execs st X.env) (SP X pins D) X.xe s
theorem Az {α:Type} {t:Sem α} {Q Q':α->Shared->Prop} {M:Model} {A:Around} {E:Value->Shared->Prop} {s:Shared} (h:wpAny M A t Q E s) (hQ:∀ a s,Q a s->Q' a s):wpAny M A t Q' E s:=wpAny_mono h hQ λ_ _ x=>x
end L2
namespace L2
open PySem PySem.Spec PyProof.Rows
section
variable {X:Cx}
def SS (i:Nat):TE:=λσ H Q=>∃ v,σ[i]?=some (some v)/\Q v H
def tC (v:V):TE:=λ_ H Q=>Q v H
theorem VU {i:Nat} {x:Str} {pos:Pos} (hN:X.N[i]?=some x) (hv:EK X.env.scope x) (hd:(x==("__debug__" : Str))=false:=by decide) (hcd:(x==("__classdict__" : Str))=false:=by decide):PE X (.Name x pos) (SS i):=by
 intro pins s σ H Q I h
 obtain ⟨v,e,h⟩:=h
 obtain ⟨m,hn,hl⟩:=I.loc
 obtain ⟨u,r,l⟩:=hl i x v hN e hv
 have fin:EP X pins σ Q u s:=⟨v,H,I,r,h⟩
 rcases l with ⟨hk,hm⟩ | ⟨hk,c,hc,hcell⟩
 ·exact wpAny_Name (wpAny_loadName_local I.ok.kind hk hn hm fin) hd
 ·rcases hk with hk | hk
  ·exact wpAny_Name (wpAny_loadName_cell I.ok.kind hk hc hcell fin) hd
  ·exact wpAny_Name (wpAny_loadName_free I.ok.kind hk hc hcell fin hcd) hd
theorem V4 {i j pos}:PE X (.Constant (.int i) j pos) (tC (.int i)):=λ_ _ _ H _ I h=>wpAny_Constant_int ⟨.int i,H,I.tok _,⟨_,rfl⟩,h⟩
theorem V8 {b j pos}:PE X (.Constant (.bool b) j pos) (tC (.bl b)):=λ_ _ _ H _ I h=>Constant_bool ⟨.bl b,H,I,rfl,h⟩
theorem V0 {j pos}:PE X (.Constant .none j pos) (tC .non):=λ_ _ _ H _ I h=>Constant_none ⟨.non,H,I,rfl,h⟩
theorem VW {x j pos}:PE X (.Constant (.str x) j pos) (tC (.str x)):=λ_ _ _ H _ I h=>Calls.Constant_str ⟨.str x,H,I.tok _,⟨_,rfl⟩,h⟩
def Gl (X:Cx) (x:Str):Prop:=X.env.kindOf x=some .globalImplicit
theorem IQ {E:Value->Shared->Prop} {pins:List (Addr×Obj)} {s:Shared} {σ:St} {H:Hp} {x:Str} {u:Value} {pos:Pos} {Q:Value->Shared->Prop} (I:Inv X pins σ H s) (hg:Gl X x) (hm:X.mg x=some u) (h:Q u s)
  (hd:(x==("__debug__" : Str))=false:=by decide):wpAny (model X.prog X.w) X.A (eval (.Name x pos) X.env) Q E s:=
 Calls.Name_function_global I.ok.kind hg (Calls.loadGlobal_global (by rw [I.ok.glob]; exact I.mod.glob.keeps I.bk) hm h) hd
theorem EZ {E:Value->Shared->Prop} {pins:List (Addr×Obj)} {s:Shared} {σ:St} {H:Hp} {x:Str} {u:Value} {pos:Pos} {Q:Value->Shared->Prop} (I:Inv X pins σ H s) (hg:Gl X x) (hm:X.mg x=none) (hv:bootBuiltins x=some u) (h:Q u s)
  (hn:x ≠ "__name__" := by decide) (hd:(x==("__debug__" : Str))=false:=by decide):wpAny (model X.prog X.w) X.A (eval (.Name x pos) X.env) Q E s:=by
 obtain ⟨mb,h1,h2⟩:=I.mod.blt
 exact Calls.Name_function_global I.ok.kind hg (Calls.loadGlobal_builtin (by rw [I.ok.glob]; exact I.mod.glob.keeps I.bk) hm (by rw [I.ok.blt]; exact h1.keeps I.bk) ((h2 x hn).trans hv) h) hd
theorem Mf {x:Str} {v:V} {u:Value} {pos:Pos} (hg:Gl X x) (hm:X.mg x=some u) (r:AR v u) (hd:(x==("__debug__" : Str))=false:=by decide):PE X (.Name x pos) (tC v):=
 λ_ _ _ H _ I h=>IQ I hg hm ⟨v,H,I,r,h⟩ hd
theorem V7 {x:Str} {v:V} {u:Value} {pos:Pos} (hg:Gl X x) (hm:X.mg x=none) (hv:bootBuiltins x=some u) (r:AR v u) (hn:x ≠ "__name__" := by decide) (hd:(x==("__debug__" : Str))=false:=by decide):PE X (.Name x pos) (tC v):=
 λ_ _ _ H _ I h=>EZ I hg hm hv ⟨v,H,I,r,h⟩ hn hd
variable {a b:Expr} {ta tb:TE} {pos:Pos}
variable {tA tB':TT} {rest:List Expr}
def S2 (t:TT):TT:=λσ H Q=>t σ H λc H1=>Q (!c) H1
theorem Vm (ha:PT X a tA):PW X (.BoolOp .And [a] pos) tA:=by
 intro wh pins s σ H Q I h
 refine isTrue_and (Az (ha pins s σ H Q I h) λc s1 e=>?_)
 cases c with
 | true=>exact isTrue_and_nil e
 | false=>exact e
theorem Vl (ha:PT X a tA):PW X (.BoolOp .Or [a] pos) tA:=by
 intro wh pins s σ H Q I h
 refine isTrue_or (Az (ha pins s σ H Q I h) λc s1 e=>?_)
 cases c with
 | false=>exact isTrue_or_nil e
 | true=>exact e
theorem PU (ha:PT X a tA):PT X (.UnaryOp .Not a pos) (S2 tA):=by
 intro pins s σ H Q I h
 exact isTrue_not (ha pins s σ H (λc H1=>Q (!c) H1) I h)
def S1 (ta:TE):TE:=λσ H Q=>ta σ H λx H1=>∃ c,x=.bl c/\Q (.bl (!c)) H1
theorem VY {op} {t:TE} (h:PE X a t):PE X (.BoolOp op [a] pos) t:=λpins s σ H Q I hw=>BoolOp_one (h pins s σ H Q I hw)
theorem VZ (ha:PE X a ta):PE X (.UnaryOp .Not a pos) (S1 ta):=by
 intro pins s σ H Q I h
 refine UnaryOp_ (Az (ha pins s σ H _ I h) λv s1 ⟨x,H1,I1,r1,q1⟩=>?_)
 obtain ⟨c,rfl,q1⟩:=q1
 cases r1
 exact not_of (wpAny_truthy_bool ⟨.bl (!c),H1,I1,rfl,q1⟩)
def tIf (t:TT) (ta tb:TE):TE:=λσ H Q=>t σ H λc H1=>if c=true then ta σ H1 Q else tb σ H1 Q
theorem Qb {c:Expr} (hc:PT X c tA) (ha:PE X a ta) (hb:PE X b tb):PE X (.IfExp c a b pos) (tIf tA ta tb):=by
 intro pins s σ H Q I h
 refine wpAny_IfExp (Az (hc pins s σ H _ I h) λd s1 ⟨H1,I1,q1⟩=>?_)
 cases d with
 | true=>exact ha pins s1 σ H1 Q I1 q1
 | false=>exact hb pins s1 σ H1 Q I1 q1
end
end L2
namespace L2
open PySem PySem.Spec PyProof.Rows
def A9 (K:PySem.W.Frag) (H:Hp) (a:Addr) (xs:List V):Prop:=
 Rd H a (.lst xs) \/
  ∃ (o:Obj) (its:Array Value) (n:Nat),K.lookup a=some o/\o.cls=.type "list" /\ o.dict=none/\o.data=.seq its n/\its.size<=sizeLine/\AD xs its.toList
def Bv (K:PySem.W.Frag) (H:Hp) (a:Addr) (xs:List V):Prop:=
 Rd H a (.tup xs) \/
  ∃ (o:Obj) (its:Array Value) (n:Nat),K.lookup a=some o/\o.cls=.type "tuple" /\ o.dict=none/\o.data=.seq its n/\its.size<=sizeLine/\AD xs its.toList
def absV:Value->Option V
 | .none=>some .non
 | .bool b=>some (.bl b)
 | .int i _=>some (.int i)
 | .str x _=>some (.str x)
 | .bytes b _=>some (.byt b)
 | .float b _=>some (.flt b)
 | .ref a=>some (.ref a)
 | .type n=>some (.ty n)
 | _=>none
theorem AR.abs {x:V} {u:Value} (r:AR x u):absV u=some x:=by
 cases x with
 | non=>cases r; rfl
 | bl _=>cases r; rfl
 | int _=>obtain ⟨t,rfl⟩:=r; rfl
 | str _=>obtain ⟨t,rfl⟩:=r; rfl
 | byt _=>obtain ⟨t,rfl⟩:=r; rfl
 | flt _=>obtain ⟨t,rfl⟩:=r; rfl
 | ref _=>cases r; rfl
 | ty _=>cases r; rfl
theorem AR.inj {x y:V} {u:Value} (r:AR x u) (q:AR y u):x=y:=Option.some.inj (r.abs.symm.trans q.abs)
theorem AD.inj:∀ {xs ys:List V} {us:List Value},AD xs us->AD ys us->xs=ys
 | _,_,_,.nil,.nil=>rfl
 | _,_,_,.cons r t,.cons r' t'=>by rw [r.inj r',AD.inj t t']
section
variable {X:Cx} {pins:List (Addr×Obj)} {σ:St} {H:Hp} {s:Shared} {a:Addr} {xs ys:List V}
theorem A9.of {K:PySem.W.Frag} (h:H a=some (.lst xs)):A9 K H a xs:=.inl (.inl h)
theorem Bv.of {K:PySem.W.Frag} (h:H a=some (.tup xs)):Bv K H a xs:=.inl (.inl h)
theorem Inv.list (I:Inv X pins σ H s) (h:A9 X.K H a xs):∃ its:List Value,AD xs its/\PlainL s.heap a its.toArray/\xs.length<=sizeLine:=by
 rcases h with h | ⟨o,its,n,hk,hc,hd,hs,hz,r⟩
 ·obtain ⟨z,its,n,r,e⟩:=h.ok I.hok
  exact ⟨its,r,⟨_,n,e,rfl,rfl,rfl⟩,z⟩
 ·refine ⟨its.toList,r,⟨o,n,I.kIn a o hk,hc,hd,by simpa using hs⟩,?_⟩
  have e:=r.length
  simp only [Array.length_toList] at e
  omega
theorem Inv.tuple (I:Inv X pins σ H s) (h:Bv X.K H a xs):∃ its:List Value,AD xs its/\IsTup s.heap a its.toArray/\xs.length<=sizeLine:=by
 rcases h with h | ⟨o,its,n,hk,hc,_,hs,hz,r⟩
 ·obtain ⟨z,its,r,p⟩:=h.ok I.hok
  exact ⟨its,r,p.t,z⟩
 ·refine ⟨its.toList,r,⟨o,I.kIn a o hk,hc,n,by simpa using hs⟩,?_⟩
  have e:=r.length
  simp only [Array.length_toList] at e
  omega
theorem Inv.tupN (I:Inv X pins σ H s) (h:Bv X.K H a xs):∃ its:List Value,AD xs its/\EM s.heap a its.toArray/\xs.length<=sizeLine:=by
 rcases h with h | ⟨o,its,n,hk,hc,hd,hs,hz,r⟩
 ·obtain ⟨z,its,r,p⟩:=h.ok I.hok
  exact ⟨its,r,p,z⟩
 ·refine ⟨its.toList,r,⟨o,I.kIn a o hk,hd,hc,n,by simpa using hs⟩,?_⟩
  have e:=r.length
  simp only [Array.length_toList] at e
  omega
theorem Inv.list_inj (I:Inv X pins σ H s) (h:A9 X.K H a xs) (h':A9 X.K H a ys):xs=ys:=by
 obtain ⟨its,r,⟨o,n,e,_,_,d⟩,_⟩:=I.list h
 obtain ⟨its',r',⟨o',n',e',_,_,d'⟩,_⟩:=I.list h'
 rw [e] at e'; cases e'
 rw [d] at d'
 injection d' with d1 _
 have:its=its':=by simpa using congrArg Array.toList d1
 subst this
 exact r.inj r'
theorem Inv.tuple_inj (I:Inv X pins σ H s) (h:Bv X.K H a xs) (h':Bv X.K H a ys):xs=ys:=by
 obtain ⟨its,r,⟨o,e,_,n,d⟩,_⟩:=I.tuple h
 obtain ⟨its',r',⟨o',e',_,n',d'⟩,_⟩:=I.tuple h'
 rw [e] at e'; cases e'
 rw [d] at d'
 injection d' with d1 _
 have:its=its':=by simpa using congrArg Array.toList d1
 subst this
 exact r.inj r'
end
abbrev Cx.wish (X:Cx) (E:Value->Shared->Prop):Cx:={ X with xe:=E }
abbrev Cx.nox (X:Cx):Cx:=X.wish λ_ _=>False
theorem Cx.Ok.wish {X:Cx} (ok:X.Ok) (E:Value->Shared->Prop):(X.wish E).Ok:=
 ⟨ok.mod,ok.kind,ok.glob,ok.blt,ok.above,ok.inj,ok.has,ok.cab,ok.hd,ok.frames,ok.stk,ok.exf,ok.bs,ok.bsz,ok.noex,ok.exfs,ok.funs,ok.frf⟩
theorem Cx.Ok.unwish {X:Cx} {E:Value->Shared->Prop} (ok:(X.wish E).Ok):X.Ok:=
 ⟨ok.mod,ok.kind,ok.glob,ok.blt,ok.above,ok.inj,ok.has,ok.cab,ok.hd,ok.frames,ok.stk,ok.exf,ok.bs,ok.bsz,ok.noex,ok.exfs,ok.funs,ok.frf⟩
section
variable {X:Cx} {pins:List (Addr×Obj)} {σ:St} {H:Hp} {s:Shared} {E:Value->Shared->Prop}
theorem Inv.wish (I:Inv X pins σ H s) (E:Value->Shared->Prop):Inv (X.wish E) pins σ H s:=⟨I.ok.wish E,I.os,I.bare,I.base,I.loc,I.cell,I.free,I.freeC,I.pin,I.hok,I.len⟩
theorem Inv.unwish (I:Inv (X.wish E) pins σ H s):Inv X pins σ H s:=⟨I.ok.unwish,I.os,I.bare,I.base,I.loc,I.cell,I.free,I.freeC,I.pin,I.hok,I.len⟩
theorem SP.unwish {D:FQ} {f:Flow} {s':Shared} (h:SP (X.wish E) pins D f s'):SP X pins D f s':=by
 cases f with
 | next=>obtain ⟨σ',H',I,q⟩:=h; exact ⟨σ',H',I.unwish,q⟩
 | brk=>obtain ⟨σ',H',I,q⟩:=h; exact ⟨σ',H',I.unwish,q⟩
 | cont=>obtain ⟨σ',H',I,q⟩:=h; exact ⟨σ',H',I.unwish,q⟩
 | ret u=>obtain ⟨v,σ',H',I,r,q⟩:=h; exact ⟨v,σ',H',I.unwish,r,q⟩
theorem PSs.nox {st:List Stmt} {t:TS} (h:PSs X.nox st t):PSs X st t:=λpins s σ H D I hw=>
 wpAny_mono (h pins s σ H D (I.wish _) hw) (λ_ _ q=>q.unwish) λ_ _ z=>False.elim z
end
section
variable {X:Cx} {st:Stmt} {rest:List Stmt} {t u:TS} {e:Expr} {te:TE} {pos:Pos}
def S4:TS:=λD σ H=>D.nx σ H
def SW (t u:TS):TS:=λD σ H=>t { D with nx:=u D } σ H
theorem Vx:PSs X [] S4:=λ_ _ σ H _ I h=>wpAny_execs_nil ⟨σ,H,I,h⟩
theorem Vy (h1:PS X st t) (h2:PSs X rest u):PSs X (st::rest) (SW t u):=by
 intro pins s σ H D I h
 refine wpAny_execs_cons (Az (h1 pins s σ H { D with nx:=u D } I h) λf s1 q=>?_)
 cases f with
 | next=>
  obtain ⟨σ',H',I',q⟩:=q
  exact h2 pins s1 σ' H' D I' q
 | ret v=>exact q
 | brk=>exact q
 | cont=>exact q
theorem Inv.quiet {pins:List (Addr×Obj)} {σ:St} {H:Hp} {s:Shared} (I:Inv X pins σ H s):interactive X.env=false:=by simp [interactive,I.ok.kind]
def Td (te:TE):TS:=λD σ H=>te σ H λ_ H1=>D.nx σ H1
theorem PX (he:PE X e te) (hs:swapsWith e none pos.line X.env=pure false:=by rfl):PS X (.Expr e pos) (Td te):=by
 intro pins s σ H D I h
 exact wpAny_Expr_any (Az (he pins s σ H _ I h) λv s1 ⟨x,H1,I1,r1,q1⟩=>⟨σ,H1,I1,q1⟩) I.quiet hs
def SX (te:TE):TS:=λD σ H=>te σ H D.rt
theorem VB (he:PE X e te):PS X (.Return (some e) pos) (SX te):=by
 intro pins s σ H D I h
 exact wpAny_Return_some (Az (he pins s σ H _ I h) λv s1 ⟨x,H1,I1,r1,q1⟩=>⟨x,σ,H1,I1,r1,q1⟩)
def S7 (c:TT) (t u:TS):TS:=λD σ H=>c σ H λb H1=>if b=true then t D σ H1 else u D σ H1
theorem PV {c:Expr} {a b:List Stmt} {tc:TT} (hc:PT X c tc) (ha:PSs X a t) (hb:PSs X b u):PS X (.If c a b pos) (S7 tc t u):=by
 intro pins s σ H D I h
 refine wpAny_If (Az (hc pins s σ H _ I h) λd s1 ⟨H1,I1,q1⟩=>?_)
 cases d with
 | true=>exact ha pins s1 σ H1 D I1 q1
 | false=>exact hb pins s1 σ H1 D I1 q1
end
abbrev TG:=V->St->Hp->(St->Hp->Prop)->Prop
abbrev FJ:=List V->St->Hp->(St->Hp->Prop)->Prop
def PG (X:Cx) (target:Expr) (t:TG):Prop:=
 ∀ (pins:List (Addr×Obj)) (s:Shared) (σ:St) (H:Hp) (v:V) (u:Value) (Q:St->Hp->Prop),Inv X pins σ H s->AR v u->t v σ H Q->
  wpAny (model X.prog X.w) X.A (assign target X.env u) (λ_ s'=>∃ σ' H',Inv X pins σ' H' s'/\Q σ' H') X.xe s
def HH (X:Cx) (ts:List Expr) (t:FJ):Prop:=
 ∀ (pins:List (Addr×Obj)) (s:Shared) (σ:St) (H:Hp) (vs:List V) (us:List Value) (Q:St->Hp->Prop),Inv X pins σ H s->AD vs us->t vs σ H Q->
  wpAny (model X.prog X.w) X.A (assignInOrder ((assignEach ts X.env).map (·.2)) us) (λ_ s'=>∃ σ' H',Inv X pins σ' H' s'/\Q σ' H') X.xe s
section
variable {X:Cx} {pos:Pos}
def QV (i:Nat):TG:=λv σ H Q=>Q (σ.set i (some v)) H
theorem VT {i:Nat} {x:Str} (hN:X.N.Nodup) (hi:X.N[i]?=some x) (hx:EN X.env.scope x) (hf:X.fn x=true\/X.env.scope.names.lookup x=some .local:=by first | exact .inl rfl | exact .inr rfl | assumption):PG X (.Name x pos) (QV i):=by
 intro pins s σ H v u Q I r h
 exact wpAny_assign_Name (N9 I hN hi hx r (λs' I'=>⟨_,H,I',h⟩) hf)
def ZR:FJ:=λvs σ H Q=>vs=[]/\Q σ H
def ZS (t:TG) (u:FJ):FJ:=λvs σ H Q=>∃ v r,vs=v::r/\t v σ H λσ' H'=>u r σ' H' Q
theorem VQ:HH X [] ZR:=by
 intro pins s σ H vs us Q I r h
 obtain ⟨e,h⟩:=h
 subst e
 cases r
 exact assignInOrder_nil ⟨σ,H,I,h⟩
theorem VR {e:Expr} {es:List Expr} {t:TG} {u:FJ} (h1:PG X e t) (h2:HH X es u)
  (hs:(assignEach (e::es) X.env).map (·.2)=assign e X.env::(assignEach es X.env).map (·.2):=by rfl):HH X (e::es) (ZS t u):=by
 intro pins s σ H vs us Q I r h
 obtain ⟨v,vr,e1,h⟩:=h
 subst e1
 cases r with
 | cons r rr=>
  rw [hs]
  refine assignInOrder_cons (Az (h1 pins s σ H _ _ _ I r h) λ_ s1 ⟨σ1,H1,I1,q1⟩=>?_)
  exact h2 pins s1 σ1 H1 _ _ Q I1 rr q1
def ZQ (K:PySem.W.Frag) (n:Nat) (t:FJ):TG:=λv σ H Q=>∃ a xs,v=.ref a/\Bv K H a xs/\xs.length=n/\t xs σ H Q
theorem VS {es:List Expr} {k:Nat} {t:FJ} {n:Nat} (hc:X.calm=true) (h:HH X es t)
  (hn:(assignEach es X.env).length=n:=by rfl) (hst:(assignEach es X.env).findIdx? (·.1)=none:=by rfl):PG X (.Tuple es k pos) (ZQ X.K n t):=by
 intro pins s σ H v u Q I r hw
 obtain ⟨a,xs,e1,hq,hl,hw⟩:=hw
 subst e1
 cases r
 obtain ⟨its,rv,ht,hz⟩:=I.tuple hq
 refine assign_Tuple_tuple (I.ok.hd hc) ht (by simp [hn,<- hl,rv.length]) hst λh' hx=>?_
 have I1:Inv X pins σ H { s with heap:=h' }:=I.kept (t':=s.toks) λb o e=>hx b o (Nat.ne_of_lt (Heap.lt_size e)) e
 exact h pins _ σ H xs _ Q I1 (by simpa using rv) hw
def N2 (te:TE) (g:TG):TS:=λD σ H=>te σ H λx H1=>g x σ H1 D.nx
theorem PY {tg e:Expr} {te:TE} {g:TG} (he:PE X e te) (hg:PG X tg g) (hs:swapsWithSole [tg] e pos.line X.env=pure false:=by rfl) (hw:swappedStores [tg] e X.env=pure none:=by rfl)
  (h1:(assignEach [tg] X.env).map (·.2)=[assign tg X.env]:=by rfl):PS X (.Assign [tg] e pos) (N2 te g):=by
 intro pins s σ H D I h
 refine wpAny_Assign_stores (Az (he pins s σ H _ I h) λv s1 ⟨x,H1,I1,r1,q1⟩=>?_) hs hw
 rw [h1]
 exact Az (hg pins s1 σ H1 x v _ I1 r1 q1) λ_ s2 q=>q
theorem VA {i:Nat} {x:Str} {e:Expr} {te:TE} {pos':Pos} (hN:X.N.Nodup) (hi:X.N[i]?=some x) (hx:EN X.env.scope x) (he:PE X e te) (hs:swapsWith e (some (.Name x pos')) pos.line X.env=pure false:=by rfl) (hf:X.fn x=true\/X.env.scope.names.lookup x=some .local:=by first | exact .inl rfl | exact .inr rfl | assumption) :
  PS X (.Assign [.Name x pos'] e pos) (N2 te (QV i)):=by
 intro pins s σ H D I h
 refine wpAny_Assign_Name (Az (he pins s σ H _ I h) λv s1 ⟨y,H1,I1,r1,q1⟩=>?_) hs
 exact N9 I1 hN hi hx r1 (λs2 I2=>⟨_,H1,I2,q1⟩) hf
end
section
variable {X:Cx} {pos:Pos}
def SR (c:TT) (tb:TS):TS:=λD σ H=>∃ W:Nat->St->Hp->Prop,(∃ m,W m σ H)/\∀ m σ H,W m σ H->
 c σ H λb H1=>if b=true then ∃ N:St->Hp->Prop,(∀ σ' H',N σ' H'->∃ m',m'<m/\W m' σ' H')/\tb { D with nx:=N,ct:=N,bk:=D.nx } σ H1 else D.nx σ H1
theorem Vz {c:Expr} {body:List Stmt} {tc:TT} {tb:TS} (hp:PassesOwn (model X.prog X.w) X.A X.env X.xe) (hc:PT X c tc) (hb:PSs X body tb):PS X (.While c body [] pos) (SR tc tb):=by
 intro pins s σ H D I h
 obtain ⟨W,⟨m0,w0⟩,turn⟩:=h
 refine wpAny_While (codeAny_whileLoop (λn s'=>∃ σ' H',Inv X pins σ' H' s'/\W n σ' H') ?_ m0 ⟨σ,H,I,w0⟩)
 rintro n s1 ⟨σ1,H1,I1,w1⟩
 refine wpAny_passesOwn hp (Az (hc pins s1 σ1 H1 _ I1 (turn n σ1 H1 w1)) λb s2 ⟨H2,I2,q2⟩=>?_)
 cases b with
 | true=>
  obtain ⟨N,hN,q2⟩:=q2
  rw [if_pos rfl]
  refine wpAny_passesOwn hp (Az (hb pins s2 σ1 H2 _ I2 q2) λf s3 q3=>?_)
  cases f with
  | next=>
   obtain ⟨σ3,H3,I3,n3⟩:=q3
   obtain ⟨m',hm,w3⟩:=hN σ3 H3 n3
   exact ⟨m',hm,σ3,H3,I3,w3⟩
  | cont=>
   obtain ⟨σ3,H3,I3,n3⟩:=q3
   obtain ⟨m',hm,w3⟩:=hN σ3 H3 n3
   exact ⟨m',hm,σ3,H3,I3,w3⟩
  | brk=>exact q3
  | ret v=>exact q3
 | false=>
  rw [if_neg Bool.false_ne_true]
  exact wpAny_execs_nil ⟨σ1,H2,I2,q2⟩
end
structure It where
 go:Nat->Hp->Prop
 yld:Nat->Hp->V->Hp->Prop
 stop:Nat->Hp->Prop
def Cl (X:Cx) (pins:List (Addr×Obj)) (H:Hp) (b:Addr):Prop:=
 H b=none/\b≠X.env.locals/\b∉X.fs/\(b∈X.ex\/X.s₀.heap.objs.size<=b)/\(∀ x c,X.env.cells.lookup x=some c->c≠b)/\∀ p∈X.pn++pins,p.1≠b
theorem Inv.fpOk {X:Cx} {pins:List (Addr×Obj)} {σ:St} {H H':Hp} {s:Shared} {b:Addr} (I:Inv X pins σ H s) (hb:s.heap.objs.size<=b) (hn:H' b=none):Cl X pins H' b:=by
 refine ⟨hn,Nat.ne_of_gt (Nat.lt_of_lt_of_le I.lt hb),I.nofs hb,.inr (Nat.le_trans I.sz hb),λx c e z=>?_,λp hp z=>?_⟩
 ·obtain ⟨v,q⟩:=I.cell x c e
  exact absurd (Nat.lt_of_lt_of_le q.lt (by rw [z]; exact hb)) (Nat.lt_irrefl _)
 ·exact absurd (Nat.lt_of_lt_of_le (Heap.lt_size (I.pin p hp).1) (by rw [z]; exact hb)) (Nat.lt_irrefl _)
structure EL (P:Program) (w:World) (K:PySem.W.Frag) (tg:Expr) (J:It) (fp:List Addr) (it:Addr) (tn:Nat->Heap->Prop):Prop where
 mem:it∈fp
 obj:∀ i h,tn i h->∀ b∈fp,∃ o,h.get? b=some o/\∀ v,o.data≠.cell v
 keep:∀ i h h',tn i h->(∀ b∈fp,∀ o,h.get? b=some o->h'.get? b=some o)->tn i h'
 item:∀ (X:Cx),X.prog=P->X.w=w->X.K=K->X.calm=true->∀ (i:Nat) (pins:List (Addr×Obj)) (s:Shared) (σ:St) (H:Hp) (E:Value->Shared->Prop),Inv X pins σ H s->(∀ b∈fp,Cl X pins H b)->tn i s.heap->J.go i H->
  wpAny (model P w) X.A (pyNext (.ref it)) (λr s1=>∃ u,r=some u /\
   wpAny (model P w) X.A (letOwnedTupleGo tg (.ref it) u) (λ_ s2=>∃ x H',Inv X pins σ H' s2/\AR x u/\J.yld i H x H'/\tn (i+1) s2.heap/\∀ b∈fp,H' b=none) E s1) E s
 done:∀ (X:Cx),X.prog=P->X.w=w->X.K=K->X.calm=true->∀ (i:Nat) (pins:List (Addr×Obj)) (s:Shared) (σ:St) (H:Hp) (E:Value->Shared->Prop),Inv X pins σ H s->(∀ b∈fp,Cl X pins H b)->tn i s.heap->J.stop i H->
  wpAny (model P w) X.A (pyNext (.ref it)) (λr s1=>r=none/\Inv X pins σ H s1) E s
 self:∀ (A:Around) (i:Nat) (s:Shared) (Q:Value->Shared->Prop) (E:Value->Shared->Prop),tn i s.heap->Q (.ref it) s->wpAny (model P w) A (pyIter (.ref it)) Q E s
abbrev TI:=St->Hp->(It->Hp->Prop)->Prop
def JB (X:Cx) (pins:List (Addr×Obj)) (σ:St) (tg:Expr) (R:It->Hp->Prop) (itv:Value) (s2:Shared):Prop:=
 ∃ (it:Addr) (fp:List Addr) (tn:Nat->Heap->Prop) (J:It) (H':Hp),itv=.ref it/\Inv X pins σ H' s2/\EL X.prog X.w X.K tg J fp it tn/\tn 0 s2.heap/\(∀ b∈fp,Cl X pins H' b)/\R J H'
def PI (X:Cx) (tg iter:Expr) (wi:TI):Prop:=
 ∀ (pins:List (Addr×Obj)) (s:Shared) (σ:St) (H:Hp) (R:It->Hp->Prop),Inv X pins σ H s->wi σ H R->
  wpAny (model X.prog X.w) X.A (eval iter X.env) (λv s1=>wpAny (model X.prog X.w) X.A (pyIter v) (JB X pins σ tg R) X.xe s1) X.xe s
theorem IY {M:Model} {A:Around} {E:Value->Shared->Prop} {s:Shared} {tg:Expr} {it:Addr} {u:Value} {o:Obj} {n:String} {vs:Array Value} {Q:Unit->Shared->Prop} (ho:s.heap.get? it=some o) (hc:o.cls=.type n) (hd:o.data=.fields vs)
    (hn:["enumerate","zip","dict_itemiterator","dict_reverseitemiterator","odict_iterator","itertools.zip_longest","itertools.pairwise"].contains n=false) (hQ:Q () s):wpAny M A (letOwnedTupleGo tg (.ref it) u) Q E s:=by
  unfold letOwnedTupleGo
  cases tg <;> first
    | exact wpAny_pure hQ
    | (cases u <;> first
        | exact wpAny_pure hQ
        | (refine wpAny_bind (wpAny_load ho ?_)
           rw [hc,hd]
           show wpAny M A (if (["enumerate","zip","dict_itemiterator","dict_reverseitemiterator","odict_iterator","itertools.zip_longest","itertools.pairwise"].contains n&&vs[0]?==some (rawInt _))=true then _ else _) Q E s
           rw [if_neg (by intro h; rw [hn,Bool.false_and] at h; cases h)]
           exact wpAny_pure hQ))
def Nr (K:PySem.W.Frag) (a:Addr):It:=
 ⟨λi H=>∃ xs x,A9 K H a xs/\xs[i]?=some x,λi H x H'=>H'=H/\∀ xs,A9 K H a xs->xs[i]?=some x,λi H=>∃ xs,A9 K H a xs/\xs.length<=i⟩
def Np (K:PySem.W.Frag) (a:Addr):It:=
 ⟨λi H=>∃ xs x,Bv K H a xs/\xs[i]?=some x,λi H x H'=>H'=H/\∀ xs,Bv K H a xs->xs[i]?=some x,λi H=>∃ xs,Bv K H a xs/\xs.length<=i⟩
def HK (lo:Int) (n:Nat):It:=⟨λi _=>i<n,λi H x H'=>H'=H/\x=.int (lo+i),λi _=>n<=i⟩
theorem SI {P:Program} {w:World} {K:PySem.W.Frag} {tg:Expr} (a it:Addr):EL P w K tg (Nr K a) [it] it (λi h=>h.IsListIter it a i) where
 mem:=by simp
 obj:=λi h st b hb=>by
  have e:b=it:=by simpa using hb
  subst e
  obtain ⟨o,e,c,d⟩:=st
  exact ⟨o,e,λv z=>by rw [d] at z; cases z⟩
 keep:=λi h h' st k=>st.at λo e=>k it (by simp) o e
 item:=by
  intro X hP hw hK hc i pins s σ H E I hf st hg
  subst hP hw hK
  obtain ⟨xs,x,hq,hx⟩:=hg
  obtain ⟨its,rv,p,hz⟩:=I.list hq
  obtain ⟨u,hu,ru⟩:=rv.get hx
  obtain ⟨f0,f1,f2,f3,f4,f5⟩:=hf it (by simp)
  refine wpAny_pyNext_list_item st p.isList (x:=u) (by simpa using hu) λh' st' sb=>?_
  have I1:Inv X pins σ H { s with heap:=h' }:=I.turned (t':=s.toks) (λb o hb e=>(sb.2 b hb).trans e) f0 f1 f3 f4 f5
  obtain ⟨o,e,c,d⟩:=id st'
  exact ⟨u,rfl,IY (s:={ s with heap:=h' }) e c d wE ⟨x,H,I1,ru,⟨rfl,λys hy=>by rw [I.list_inj hy hq]; exact hx⟩,st',λb hb=>(hf b hb).1⟩⟩
 done:=by
  intro X hP hw hK hc i pins s σ H E I hf st hg
  subst hP hw hK
  obtain ⟨xs,hq,hx⟩:=hg
  obtain ⟨its,rv,p,hz⟩:=I.list hq
  obtain ⟨f0,f1,f2,f3,f4,f5⟩:=hf it (by simp)
  have hl:=rv.length
  exact wpAny_pyNext_list_end (I.ok.hd hc) st p.isList (by simp; omega) λh' eb=>⟨rfl,I.turned (t':=s.toks) (λb o hb e=>eb b o hb e) f0 f1 f3 f4 f5⟩
 self:=λ_ _ _ _ _ st h=>wpAny_pyIter_listiter st h
theorem SF {P:Program} {w:World} {K:PySem.W.Frag} {tg:Expr} (a it:Addr):EL P w K tg (Np K a) [it] it (λi h=>h.IsTupleIter it a i) where
 mem:=by simp
 obj:=λi h st b hb=>by
  have e:b=it:=by simpa using hb
  subst e
  obtain ⟨o,e,c,d⟩:=st
  exact ⟨o,e,λv z=>by rw [d] at z; cases z⟩
 keep:=λi h h' st k=>st.at λo e=>k it (by simp) o e
 item:=by
  intro X hP hw hK hc i pins s σ H E I hf st hg
  subst hP hw hK
  obtain ⟨xs,x,hq,hx⟩:=hg
  obtain ⟨its,rv,p,hz⟩:=I.tuple hq
  obtain ⟨u,hu,ru⟩:=rv.get hx
  obtain ⟨f0,f1,f2,f3,f4,f5⟩:=hf it (by simp)
  refine wpAny_pyNext_tuple_item st (show s.heap.IsTuple a its.toArray from p) (x:=u) (by simpa using hu) λh' st' sb=>?_
  have I1:Inv X pins σ H { s with heap:=h' }:=I.turned (t':=s.toks) (λb o hb e=>(sb.2 b hb).trans e) f0 f1 f3 f4 f5
  obtain ⟨o,e,c,d⟩:=id st'
  exact ⟨u,rfl,IY (s:={ s with heap:=h' }) e c d wE ⟨x,H,I1,ru,⟨rfl,λys hy=>by rw [I.tuple_inj hy hq]; exact hx⟩,st',λb hb=>(hf b hb).1⟩⟩
 done:=by
  intro X hP hw hK hc i pins s σ H E I hf st hg
  subst hP hw hK
  obtain ⟨xs,hq,hx⟩:=hg
  obtain ⟨its,rv,p,hz⟩:=I.tuple hq
  obtain ⟨f0,f1,f2,f3,f4,f5⟩:=hf it (by simp)
  have hl:=rv.length
  exact wpAny_pyNext_tuple_end (I.ok.hd hc) st (show s.heap.IsTuple a its.toArray from p) (by simp; omega) λh' eb=>⟨rfl,I.turned (t':=s.toks) (λb o hb e=>eb b o hb e) f0 f1 f3 f4 f5⟩
 self:=λ_ _ _ _ _ st h=>wpAny_pyIter_tupleiter st h
theorem SH {P:Program} {w:World} {K:PySem.W.Frag} {tg:Expr} (it:Addr) (lo:Int) (n:Nat):EL P w K tg (HK lo n) [it] it (λi h=>IsRangeIter h it (lo+(i:Nat)*1) ((n:Int)-(i:Nat)) 1) where
 mem:=by simp
 obj:=λi h st b hb=>by
  have e:b=it:=by simpa using hb
  subst e
  exact ⟨_,st,λv z=>by
   have z':Data.fields _=Data.cell v:=z
   cases z'⟩
 keep:=λi h h' st k=>k it (by simp) _ st
 item:=by
  intro X hP hw hK hc i pins s σ H E I hf st hg
  subst hP hw hK
  obtain ⟨f0,f1,f2,f3,f4,f5⟩:=hf it (by simp)
  have W:=Walks.range (prog:=X.prog) (w:=X.w) (I.ok.hd hc) it lo 1 n
  refine W.item i s _ _ hg st λv h' tk hv st' kk=>?_
  obtain ⟨t,rfl⟩:=hv
  have I1:Inv X pins σ H { s with heap:=h',toks:=tk }:=I.turned (λb o hb e=>kk b o (by simpa using hb) e) f0 f1 f3 f4 f5
  refine ⟨_,rfl,IY (s:={ s with heap:=h',toks:=tk }) (n := "range_iterator") st' rfl rfl wE ⟨.int (lo+i),H,I1,⟨t,?_⟩,⟨rfl,rfl⟩,st',λb hb=>(hf b hb).1⟩⟩
  rw [Int.mul_one]
 done:=by
  intro X hP hw hK hc i pins s σ H E I hf st hg
  subst hP hw hK
  obtain ⟨f0,f1,f2,f3,f4,f5⟩:=hf it (by simp)
  exact wpAny_pyNext_range_end (I.ok.hd hc) st (by have:n<=i:=hg; omega) λh' eb=>⟨rfl,I.turned (t':=s.toks) (λb o hb e=>eb b o hb e) f0 f1 f3 f4 f5⟩
 self:=λ_ _ _ _ _ st h=>wpAny_pyIter_rangeiter st h
end L2
namespace L2
open PySem PySem.Spec PyProof.Rows
section
variable {X:Cx} {tg:Expr}
def Zt (K:PySem.W.Frag) (tl:TE):TI:=λσ H R=>tl σ H λx H1=>∃ a,x=.ref a/\(∃ xs,A9 K H1 a xs)/\R (Nr K a) H1
def Zq (K:PySem.W.Frag) (tl:TE):TI:=λσ H R=>tl σ H λx H1=>∃ a,x=.ref a/\(∃ xs,Bv K H1 a xs)/\R (Np K a) H1
theorem P7 {l:Expr} {tl:TE} (hl:PE X l tl):PI X tg l (Zt X.K tl):=by
 intro pins s σ H R I h
 refine Az (hl pins s σ H _ I h) λv s1 ⟨x,H1,I1,r1,q1⟩=>?_
 obtain ⟨a,e,⟨xs,hq⟩,q⟩:=q1
 subst e
 cases r1
 obtain ⟨its,rv,p,hz⟩:=I1.list hq
 refine wpAny_pyIter_list p.isList ?_
 refine ⟨s1.heap.objs.size,[s1.heap.objs.size],_,_,H1,rfl,I1.kept (t':=s1.toks) λb o e=>Heap.get?_push_of_some _ e,SI a _,⟨_,Heap.get?_push_size _ rfl,rfl,rfl⟩,λb hb=>?_,q⟩
 have e:b=s1.heap.objs.size:=by simpa using hb
 subst e
 exact I1.fpOk (Nat.le_refl _) (I1.hok.fresh (Nat.le_refl _))
theorem VN {l:Expr} {tl:TE} (hl:PE X l tl):PI X tg l (Zq X.K tl):=by
 intro pins s σ H R I h
 refine Az (hl pins s σ H _ I h) λv s1 ⟨x,H1,I1,r1,q1⟩=>?_
 obtain ⟨a,e,⟨xs,hq⟩,q⟩:=q1
 subst e
 cases r1
 obtain ⟨its,rv,p,hz⟩:=I1.tuple hq
 refine wpAny_pyIter_tuple (show s1.heap.IsTuple a its.toArray from p) ?_
 refine ⟨s1.heap.objs.size,[s1.heap.objs.size],_,_,H1,rfl,I1.kept (t':=s1.toks) λb o e=>Heap.get?_push_of_some _ e,SF a _,⟨_,Heap.get?_push_size _ rfl,rfl,rfl⟩,λb hb=>?_,q⟩
 have e:b=s1.heap.objs.size:=by simpa using hb
 subst e
 exact I1.fpOk (Nat.le_refl _) (I1.hok.fresh (Nat.le_refl _))
theorem PF {pins:List (Addr×Obj)} {σ:St} {H:Hp} {s:Shared} {R:It->Hp->Prop} {E:Value->Shared->Prop} {lo hi:Int} {t u v:Tok} {tk:Nat} (I:Inv X pins σ H s) (h1:-(2 ^ 62)<=lo) (h2:lo<2 ^ 62) (h3:-(2 ^ 62)<=hi) (h4:hi<2 ^ 62)
  (q:R (HK lo (hi-lo).toNat) H):wpAny (model X.prog X.w) X.A (pyIter (.ref s.heap.objs.size)) (JB X pins σ tg R) E { s with heap:=s.heap.push { cls:=.type "range",data:=.fields #[.int lo t,.int hi u,.int 1 v] },toks:=tk }:=by
 refine wpAny_pyIter_range (IsRange.new ..) (small_one h1 h2 h3 h4) ?_
 have I1:Inv X pins σ H { s with heap:=s.heap.push { cls:=.type "range",data:=.fields #[.int lo t,.int hi u,.int 1 v] },toks:=tk }:=I.kept λb o e=>Heap.get?_push_of_some _ e
 refine ⟨(s.heap.push { cls:=.type "range",data:=.fields #[.int lo t,.int hi u,.int 1 v] }).objs.size,[(s.heap.push { cls:=.type "range",data:=.fields #[.int lo t,.int hi u,.int 1 v] }).objs.size],_,_,H,rfl,
  I1.kept (t':=tk) λb o e=>Heap.get?_push_of_some _ e,SH _ lo (hi-lo).toNat,?_,λb hb=>?_,q⟩
 ·have e1:lo+((0:Nat):Int)*1=lo:=by simp
  have e2:(((hi-lo).toNat:Nat):Int)-((0:Nat):Int)=Builtin.Range.rangeSize lo hi 1:=by rw [rangeSize_one]; split <;> omega
  show IsRangeIter _ _ (lo+((0:Nat):Int)*1) ((((hi-lo).toNat:Nat):Int)-((0:Nat):Int)) 1
  rw [e1,e2]
  exact Heap.get?_push_size _ rfl
 ·have e:b=(s.heap.push { cls:=.type "range",data:=.fields #[.int lo t,.int hi u,.int 1 v] }).objs.size:=by simpa using hb
  subst e
  exact I1.fpOk (Nat.le_refl _) (I1.hok.fresh (Nat.le_refl _))
def Zs (ta:TA):TI:=λσ H R=>ta σ H λvs H1=>∃ j:Int,vs=[.int j]/\-(2 ^ 62)<=j/\j<2 ^ 62/\R (HK 0 j.toNat) H1
def Zr (ta:TA):TI:=λσ H R=>ta σ H λvs H1=>∃ i j:Int,vs=[.int i,.int j]/\(-(2 ^ 62)<=i/\i<2 ^ 62/\-(2 ^ 62)<=j/\j<2 ^ 62)/\R (HK i (j-i).toNat) H1
theorem VP {a:Expr} {ta:TA} {p pos:Pos} (hg:Gl X "range") (hm:X.mg "range" = none) (ha:PA X [a] ta) (hs:starEach [a] X.env=[(false,eval a X.env)]:=by rfl):PI X tg (.Call (.Name "range" p) [a] [] pos) (Zs ta):=by
 intro pins s σ H R I h
 refine Call_ (EZ I hg hm boot_range (PyProof.Rows.callWith_type1 (Az (ha pos pins s σ H _ I h) λus s1 ⟨vs,H1,I1,r1,q1⟩=>?_) hs rfl))
 obtain ⟨j,e,q1,q2,q⟩:=q1
 subst e
 cases r1 with
 | cons r rr=>
  cases rr
  obtain ⟨t,rfl⟩:=r
  exact call_range_1 (PF I1 wF wF q1 q2 (by simpa using q))
theorem VO {a b:Expr} {ta:TA} {p pos:Pos} (hg:Gl X "range") (hm:X.mg "range" = none) (ha:PA X [a,b] ta) (hs:starEach [a,b] X.env=[(false,eval a X.env),(false,eval b X.env)]:=by rfl) (hs2:starEach [b] X.env=[(false,eval b X.env)]:=by rfl) :
  PI X tg (.Call (.Name "range" p) [a,b] [] pos) (Zr ta):=by
 intro pins s σ H R I h
 refine Call_ (EZ I hg hm boot_range (PyProof.Rows.callWith_type1 (Az (ha pos pins s σ H _ I h) λus s1 ⟨vs,H1,I1,r1,q1⟩=>?_) (by rw [hs,hs2]) (by rw [hs2]; rfl)))
 obtain ⟨i,j,e,⟨q1,q2,q3,q4⟩,q⟩:=q1
 subst e
 cases r1 with
 | cons r rr=>
  cases rr with
  | cons r' rr=>
   cases rr
   obtain ⟨t,rfl⟩:=r
   obtain ⟨t',rfl⟩:=r'
   exact call_range_2 (PF I1 q1 q2 q3 q4 q)
def S9 (wi:TI) (g:TG) (tb:TS):TS:=λD σ H=>wi σ H λJ H1=>∃ W:Nat->Nat->St->Hp->Prop,(∃ m,W 0 m σ H1)/\∀ i m σ H,W i m σ H->
 (J.stop i H/\D.nx σ H)\/(J.go i H/\∃ N:St->Hp->Prop,(∀ σ' H',N σ' H'->∃ m',m'<m/\W (i+1) m' σ' H')/\∀ x H',J.yld i H x H'->g x σ H' λσ2 H2=>tb { D with nx:=N,ct:=N,bk:=D.nx } σ2 H2)
def Ew (fp:List Addr) (h:Heap):List (Addr×Obj):=fp.filterMap λb=>(h.get? b).map λo=>(b,o)
theorem IP {fp:List Addr} {h:Heap} {b:Addr} {o:Obj} (hb:b∈fp) (e:h.get? b=some o):(b,o)∈Ew fp h:=List.mem_filterMap.mpr ⟨b,hb,by rw [e]; rfl⟩
theorem Qi {fp:List Addr} {h:Heap} {p:Addr×Obj} (hp:p∈Ew fp h):p.1∈fp/\h.get? p.1=some p.2:=by
 obtain ⟨b,hb,e⟩:=List.mem_filterMap.mp hp
 cases q:h.get? b with
 | none=>rw [q] at e; cases e
 | some o=>
  rw [q] at e
  have e':(b,o)=p:=Option.some.inj e
  subst e'
  exact ⟨hb,q⟩
theorem Inv.pinned {pins:List (Addr×Obj)} {σ:St} {H:Hp} {s:Shared} {fp:List Addr} (I:Inv X pins σ H s) (hf:∀ b∈fp,Cl X pins H b) (ho:∀ b∈fp,∃ o,s.heap.get? b=some o/\∀ v,o.data≠.cell v):Inv X (pins++Ew fp s.heap) σ H s:=
 I.pins_of λp hp=>(List.mem_append.mp hp).elim (λz=>I.pin p (List.mem_append_right _ z)) λz=>by
  obtain ⟨hb,e⟩:=Qi z
  obtain ⟨f0,f1,f2,_⟩:=hf p.1 hb
  obtain ⟨o,e',d⟩:=ho p.1 hb
  rw [e] at e'; cases e'
  exact ⟨e,f0,f1,f2,d⟩
theorem Inv.unpinned {pins pl:List (Addr×Obj)} {σ:St} {H:Hp} {s:Shared} (I:Inv X (pins++pl) σ H s):Inv X pins σ H s:=I.pins_of λp hp=>I.pin p (List.mem_append_right _ (List.mem_append_left _ hp))
theorem VC {iter:Expr} {body:List Stmt} {wi:TI} {g:TG} {tb:TS} {pos:Pos} (hp:PassesOwn (model X.prog X.w) X.A X.env X.xe) (hc:X.calm=true) (hi:PI X tg iter wi) (hg:PG X tg g) (hb:PSs X body tb)
  (hs:∀ x,foldedSetIterable iter X.env x=pure x:=by intro _; rfl):PS X (.For tg iter body [] pos) (S9 wi g tb):=by
 intro pins s σ H D I h
 refine wpAny_For (Az (hi pins s σ H _ I h) λv s1 h1=>Az h1 λitv s2 h2=>?_) hs
 obtain ⟨it,fp,tn,J,H2,e,I2,T,st2,f2,W,⟨m0,w0⟩,turn⟩:=h2
 subst e
 -- what stays true of the iterator's objects through the loop
 have stat:∀ {H':Hp},(∀ b∈fp,H' b=none)->∀ b∈fp,Cl X pins H' b:=λhn b hb=>⟨hn b hb,(f2 b hb).2⟩
 refine codeAny_forLoop_any (λn s'=>∃ i σ' H',Inv X pins σ' H' s'/\tn i s'.heap/\(∀ b∈fp,H' b=none)/\W i n σ' H') ?_ m0 ⟨0,σ,H2,I2,st2,λb hb=>(f2 b hb).1,w0⟩
 rintro n s3 ⟨i,σ3,H3,I3,st3,fr3,w3⟩
 rcases turn i n σ3 H3 w3 with ⟨stop,qn⟩ | ⟨go,N,hN,step⟩
 ·refine wpAny_passesOwn hp (Az (T.done X rfl rfl rfl hc i pins s3 σ3 H3 X.xe I3 (stat fr3) st3 stop) λr s4 ⟨hr,I4⟩=>?_)
  subst hr
  exact wpAny_execs_nil ⟨σ3,H3,I4,qn⟩
 ·refine wpAny_passesOwn hp (Az (T.item X rfl rfl rfl hc i pins s3 σ3 H3 X.xe I3 (stat fr3) st3 go) λr s4 ⟨u,hr,h4⟩=>?_)
  subst hr
  refine wpAny_passesOwn hp (Az h4 λ_ s5 ⟨x,H5,I5,r5,y5,st5,fr5⟩=>?_)
  have I5':=I5.pinned (stat fr5) (T.obj _ _ st5)
  refine wpAny_passesOwn hp (Az (hg _ s5 σ3 H5 x u _ I5' r5 (step x H5 y5)) λ_ s6 ⟨σ6,H6,I6,q6⟩=>?_)
  refine wpAny_passesOwn hp (Az (hb _ s6 σ6 H6 _ I6 q6) λf s7 q7=>?_)
  have again:∀ {σ7:St} {H7:Hp},Inv X (pins++Ew fp s5.heap) σ7 H7 s7->N σ7 H7->∃ m,m<n/\∃ i σ' H',Inv X pins σ' H' s7/\tn i s7.heap/\(∀ b∈fp,H' b=none)/\W i m σ' H':=λ{σ7 H7} I7 n7=>by
   obtain ⟨m',hm,w7⟩:=hN σ7 H7 n7
   refine ⟨m',hm,i+1,σ7,H7,I7.unpinned,T.keep _ _ _ st5 λb hb o e=>(I7.pin (b,o) (List.mem_append_right _ (List.mem_append_right _ (IP hb e)))).1,λb hb=>?_,w7⟩
   obtain ⟨o,e,d⟩:=T.obj _ _ st5 b hb
   exact (I7.pin (b,o) (List.mem_append_right _ (List.mem_append_right _ (IP hb e)))).2.1
  cases f with
  | next=>obtain ⟨σ7,H7,I7,n7⟩:=q7; exact again I7 n7
  | cont=>obtain ⟨σ7,H7,I7,n7⟩:=q7; exact again I7 n7
  | brk=>obtain ⟨σ7,H7,I7,q7⟩:=q7; exact ⟨σ7,H7,I7.unpinned,q7⟩
  | ret v=>obtain ⟨x7,σ7,H7,I7,r7,q7⟩:=q7; exact ⟨x7,σ7,H7,I7.unpinned,r7,q7⟩
end
end L2
namespace L2
open PySem PySem.Spec PyProof.Rows
abbrev R2:=V->V->Hp->VK->Prop
def BQ (X:Cx) (f:Value->Value->Sem Value) (r:R2):Prop:=
 ∀ (pins:List (Addr×Obj)) (s:Shared) (σ:St) (H:Hp) (x y:V) (v u:Value) (Q:VK),Inv X pins σ H s->AR x v->AR y u->r x y H Q->
  wpAny (model X.prog X.w) X.A (f v u) (EP X pins σ Q) X.xe s
def Ng (X:Cx) (f:Value->Sem Value) (r:V->Hp->VK->Prop):Prop:=
 ∀ (pins:List (Addr×Obj)) (s:Shared) (σ:St) (H:Hp) (x:V) (v:Value) (Q:VK),Inv X pins σ H s->AR x v->r x H Q->
  wpAny (model X.prog X.w) X.A (f v) (EP X pins σ Q) X.xe s
def El (X:Cx) (f:Value) (r:List V->Hp->VK->Prop):Prop:=
 ∀ (pins:List (Addr×Obj)) (s:Shared) (σ:St) (H:Hp) (xs:List V) (us:List Value) (Q:VK),Inv X pins σ H s->AD xs us->r xs H Q->
  wpAny (model X.prog X.w) X.A (call f us) (EP X pins σ Q) X.xe s
def TruR (X:Cx) (r:V->Hp->(Bool->Hp->Prop)->Prop):Prop:=
 ∀ (pins:List (Addr×Obj)) (s:Shared) (σ:St) (H:Hp) (x:V) (v:Value) (Q:Bool->Hp->Prop),Inv X pins σ H s->AR x v->r x H Q->
  wpAny (model X.prog X.w) X.A (truthy v) (TP X pins σ Q) X.xe s
def tOp (r:R2) (ta tb:TE):TE:=λσ H Q=>ta σ H λx H1=>tb σ H1 λy H2=>r x y H2 Q
def tUn (r:V->Hp->VK->Prop) (ta:TE):TE:=λσ H Q=>ta σ H λx H1=>r x H1 Q
def rI (C:Int->Int->Prop) (g:Int->Int->V):R2:=λx y H Q=>∃ i j,x=.int i/\y=.int j/\C i j/\Q (g i j) H
def D3 (g:Int->Int->V):R2:=λx y H Q=>∃ i j,x=.int i/\y=.int j/\Q (g i j) H
def rU (g:Int->V):V->Hp->VK->Prop:=λx H Q=>∃ i,x=.int i/\Q (g i) H
section
variable {X:Cx} {a b c:Expr} {ta tb tc:TE} {pos:Pos}
theorem HB (ha:PE X a ta) (hb:PE X b tb) {pins:List (Addr×Obj)} {s:Shared} {σ:St} {H:Hp} {R:V->V->Hp->Prop} (I:Inv X pins σ H s)
  (h:ta σ H λx H1=>tb σ H1 λy H2=>R x y H2) {Q:Value->Shared->Prop} {f:Value->Value->Sem Value}
  (hf:∀ v u s2 x y H2,Inv X pins σ H2 s2->AR x v->AR y u->R x y H2->wpAny (model X.prog X.w) X.A (f v u) Q X.xe s2) :
  wpAny (model X.prog X.w) X.A (eval a X.env) (λv s₁=>wpAny (model X.prog X.w) X.A (eval b X.env) (λu s₂=>wpAny (model X.prog X.w) X.A (f v u) Q X.xe s₂) X.xe s₁) X.xe s:=by
 refine Az (ha pins s σ H _ I h) λv s1 ⟨x,H1,I1,r1,q1⟩=>?_
 refine Az (hb pins s1 σ H1 _ I1 q1) λu s2 ⟨y,H2,I2,r2,q2⟩=>?_
 exact hf v u s2 x y H2 I2 r1 r2 q2
theorem VV {op:UnaryOp} {r:V->Hp->VK->Prop} (ho:Ng X (unaryOp op) r) (ha:PE X a ta):PE X (.UnaryOp op a pos) (tUn r ta):=by
 intro pins s σ H Q I h
 exact UnaryOp_ (Az (ha pins s σ H _ I h) λv s1 ⟨x,H1,I1,r1,q1⟩=>ho pins s1 σ H1 x v Q I1 r1 q1)
theorem IE {f:Value->Value->Sem Value} {C:Int->Int->Prop} {g:Int->Int->Int}
  (rule:∀ (i j:Int) (t u:Tok) (s:Shared) (Q:Value->Shared->Prop) (E:Value->Shared->Prop),C i j->Q (.int (g i j) s.toks) { s with toks:=s.toks+1 }->wpAny (model X.prog X.w) X.A (f (.int i t) (.int j u)) Q E s) :
  BQ X f (rI C λi j=>.int (g i j)):=by
 intro pins s σ H x y v u Q I rx ry h
 obtain ⟨i,j,rfl,rfl,hc,q⟩:=h
 obtain ⟨t,rfl⟩:=rx
 obtain ⟨t',rfl⟩:=ry
 exact rule i j t t' s _ _ hc ⟨.int (g i j),H,I.tok _,⟨_,rfl⟩,q⟩
theorem Qh {f:Value->Value->Sem Value} {g:Int->Int->Int}
  (rule:∀ (i j:Int) (t u:Tok) (s:Shared) (Q:Value->Shared->Prop) (E:Value->Shared->Prop),Q (.int (g i j) s.toks) { s with toks:=s.toks+1 }->wpAny (model X.prog X.w) X.A (f (.int i t) (.int j u)) Q E s) :
  BQ X f (D3 λi j=>.int (g i j)):=by
 intro pins s σ H x y v u Q I rx ry h
 obtain ⟨i,j,rfl,rfl,q⟩:=h
 obtain ⟨t,rfl⟩:=rx
 obtain ⟨t',rfl⟩:=ry
 exact rule i j t t' s _ _ ⟨.int (g i j),H,I.tok _,⟨_,rfl⟩,q⟩
theorem IF {f:Value->Value->Sem Value} {g:Int->Int->Bool}
  (rule:∀ (i j:Int) (t u:Tok) (s:Shared) (Q:Value->Shared->Prop) (E:Value->Shared->Prop),Q (.bool (g i j)) s->wpAny (model X.prog X.w) X.A (f (.int i t) (.int j u)) Q E s) :
  BQ X f (D3 λi j=>.bl (g i j)):=by
 intro pins s σ H x y v u Q I rx ry h
 obtain ⟨i,j,rfl,rfl,q⟩:=h
 obtain ⟨t,rfl⟩:=rx
 obtain ⟨t',rfl⟩:=ry
 exact rule i j t t' s _ _ ⟨.bl (g i j),H,I,rfl,q⟩
def R8 (i j:Int):Prop:=0<j/\j<1073741824
def R7 (i j:Int):Prop:=0<=j/\j<=1000000/\i.natAbs<2 ^ 64
def AZ (i j:Int):Prop:=(-(2 ^ 64)<i/\i<2 ^ 64)\/(-(2 ^ 64)<j/\j<2 ^ 64)
theorem AZ.ok {i j:Int} (h:AZ i j):IntMulOk i j:=by
 rcases h with ⟨h1,h2⟩ | ⟨h1,h2⟩
 ·exact .of_left (intBits_le_64 h1 h2)
 ·exact .of_right (intBits_le_64 h1 h2)
theorem Ws:BQ X (binaryOp .Add) (D3 λi j=>.int (i+j)):=Qh λ_ _ _ _ _ _ _ q=>add_int q
theorem Wb:BQ X (binaryOp .Sub) (D3 λi j=>.int (i-j)):=Qh λ_ _ _ _ _ _ _ q=>sub_int q
theorem Wp:BQ X (binaryOp .FloorDiv) (rI R8 λi j=>.int (i/j)):=IE λi j _ _ _ _ _ hc q=>by
 have h1:(0:Int)<j:=hc.1
 have h2:j<1073741824:=hc.2
 exact floordiv_int wF (by rw [Int.fdiv_eq_ediv_of_nonneg i wF]; exact q) (.inl (PyProof.noPylong_small wF))
theorem Wh:BQ X (binaryOp .Mod) (rI (λ_ j=>0<j) λi j=>.int (i%j)):=IE λi j _ _ _ _ _ hc q=>by
 have h1:(0:Int)<j:=hc
 exact mod_int' wF (by rw [Int.fmod_eq_emod_of_nonneg i wF]; exact q)
theorem Wc:BQ X (binaryOp .Pow) (rI R7 λi j=>.int (i ^ j.toNat)):=IE λ_ _ _ _ _ _ _ hc q=>pow_int_small hc.1 hc.2.1 hc.2.2 q
theorem unI {f:Value->Sem Value} {g:Int->Int}
  (rule:∀ (i:Int) (t:Tok) (s:Shared) (Q:Value->Shared->Prop) (E:Value->Shared->Prop),Q (.int (g i) s.toks) { s with toks:=s.toks+1 }->wpAny (model X.prog X.w) X.A (f (.int i t)) Q E s) :
  Ng X f (rU λi=>.int (g i)):=by
 intro pins s σ H x v Q I rx h
 obtain ⟨i,rfl,q⟩:=h
 obtain ⟨t,rfl⟩:=rx
 exact rule i t s _ _ ⟨.int (g i),H,I.tok _,⟨_,rfl⟩,q⟩
theorem Sw:Ng X (unaryOp .USub) (rU λi=>.int (-i)):=unI λ_ _ _ _ _ q=>neg_int q
end
def Pb:V->V->Bool
 | .non,.non=>true | .non,.int _=>true | .int _,.non=>true | .non,.bl _=>true | .bl _,.non=>true | .non,.str _=>true | .str _,.non=>true
 | .int _,.int _=>true | .bl _,.bl _=>true | .str _,.str _=>true | .byt _,.byt _=>true
 | .int _,.str _=>true | .str _,.int _=>true | .bl _,.str _=>true | .str _,.bl _=>true
 | _,_=>false
def rEq:R2:=λx y H Q=>Pb x y=true/\Q (.bl (decide (x=y))) H
def rNe:R2:=λx y H Q=>Pb x y=true/\Q (.bl (!decide (x=y))) H
theorem Rn {i j:Int}:decide (V.int i=V.int j)=(i==j):=by
 rw [Bool.eq_iff_iff]
 simp
theorem Rp {i j:Bool}:decide (V.bl i=V.bl j)=(i==j):=by
 rw [Bool.eq_iff_iff]
 simp
theorem Jp {i j:Str}:decide (V.str i=V.str j)=(i==j):=by
 rw [Bool.eq_iff_iff]
 simp
theorem Ro {i j:Array UInt8}:decide (V.byt i=V.byt j)=(i.toList==j.toList):=by
 rw [Bool.eq_iff_iff]
 cases i
 cases j
 simp
section
variable {X:Cx} {a b c:Expr} {ta tb tc:TE} {pos:Pos}
theorem Bo {pins:List (Addr×Obj)} {σ:St} {H:Hp} {s:Shared} {Q:VK} {k k':Bool} (I:Inv X pins σ H s) (q:Q (.bl k) H) (e:k=k'):EP X pins σ Q (.bool k') s:=by
 subst e
 exact ⟨.bl k,H,I,rfl,q⟩
theorem Qg:BQ X (compareOp .Eq) rEq:=by
 intro pins s σ H x y v u Q I rx ry h
 obtain ⟨hs,q⟩:=h
 cases x with
 | non=>
  cases rx
  cases y with
  | non=>cases ry; exact PySem.EqNone.eq_none_none (Bo I q (by simp))
  | bl j=>cases ry; exact PySem.EqNone.eq_none_bool (Bo I q (by simp))
  | int j=>obtain ⟨t',rfl⟩:=ry; exact PySem.EqNone.eq_none_int (Bo I q (by simp))
  | str j=>obtain ⟨t',rfl⟩:=ry; exact PySem.EqNone.eq_none_str (Bo I q (by simp))
  | _=>exact absurd (show false=true from hs) Bool.false_ne_true
 | bl i=>
  cases rx
  cases y with
  | non=>cases ry; exact PySem.EqNone.eq_bool_none (Bo I q (by simp))
  | bl j=>cases ry; exact eq_bool (Bo I q Rp)
  | str j=>obtain ⟨t',rfl⟩:=ry; exact PySem.EqMixed.eq_bool_str (Bo I q (by simp))
  | _=>exact absurd (show false=true from hs) Bool.false_ne_true
 | int i=>
  obtain ⟨t,rfl⟩:=rx
  cases y with
  | non=>cases ry; exact PySem.EqNone.eq_int_none (Bo I q (by simp))
  | int j=>obtain ⟨t',rfl⟩:=ry; exact eq_int (Bo I q Rn)
  | str j=>obtain ⟨t',rfl⟩:=ry; exact PySem.EqMixed.eq_int_str (Bo I q (by simp))
  | _=>exact absurd (show false=true from hs) Bool.false_ne_true
 | str i=>
  obtain ⟨t,rfl⟩:=rx
  cases y with
  | non=>cases ry; exact PySem.EqNone.eq_str_none (Bo I q (by simp))
  | bl j=>cases ry; exact PySem.EqMixed.eq_str_bool (Bo I q (by simp))
  | int j=>obtain ⟨t',rfl⟩:=ry; exact PySem.EqMixed.eq_str_int (Bo I q (by simp))
  | str j=>obtain ⟨t',rfl⟩:=ry; exact eq_str (Bo I q Jp)
  | _=>exact absurd (show false=true from hs) Bool.false_ne_true
 | byt i=>
  obtain ⟨t,rfl⟩:=rx
  cases y with
  | byt j=>obtain ⟨t',rfl⟩:=ry; exact PySem.W.eq_bytes (Bo I q Ro)
  | _=>exact absurd (show false=true from hs) Bool.false_ne_true
 | _=>cases y <;> exact absurd (show false=true from hs) Bool.false_ne_true
theorem Qf:BQ X (compareOp .NotEq) rNe:=by
 intro pins s σ H x y v u Q I rx ry h
 obtain ⟨hs,q⟩:=h
 cases x with
 | non=>
  cases rx
  cases y with
  | non=>cases ry; exact PySem.EqNone.ne_none_none (Bo I q (by simp))
  | bl j=>cases ry; exact PySem.EqNone.ne_none_bool (Bo I q (by simp))
  | int j=>obtain ⟨t',rfl⟩:=ry; exact PySem.EqNone.ne_none_int (Bo I q (by simp))
  | str j=>obtain ⟨t',rfl⟩:=ry; exact PySem.EqNone.ne_none_str (Bo I q (by simp))
  | _=>exact absurd (show false=true from hs) Bool.false_ne_true
 | bl i=>
  cases rx
  cases y with
  | non=>cases ry; exact PySem.EqNone.ne_bool_none (Bo I q (by simp))
  | bl j=>cases ry; exact ne_bool (Bo I q (congrArg not Rp))
  | str j=>obtain ⟨t',rfl⟩:=ry; exact PySem.EqMixed.ne_bool_str (Bo I q (by simp))
  | _=>exact absurd (show false=true from hs) Bool.false_ne_true
 | int i=>
  obtain ⟨t,rfl⟩:=rx
  cases y with
  | non=>cases ry; exact PySem.EqNone.ne_int_none (Bo I q (by simp))
  | int j=>obtain ⟨t',rfl⟩:=ry; exact ne_int (Bo I q (congrArg not Rn))
  | str j=>obtain ⟨t',rfl⟩:=ry; exact PySem.EqMixed.ne_int_str (Bo I q (by simp))
  | _=>exact absurd (show false=true from hs) Bool.false_ne_true
 | str i=>
  obtain ⟨t,rfl⟩:=rx
  cases y with
  | non=>cases ry; exact PySem.EqNone.ne_str_none (Bo I q (by simp))
  | bl j=>cases ry; exact PySem.EqMixed.ne_str_bool (Bo I q (by simp))
  | int j=>obtain ⟨t',rfl⟩:=ry; exact PySem.EqMixed.ne_str_int (Bo I q (by simp))
  | str j=>obtain ⟨t',rfl⟩:=ry; exact ne_str (Bo I q (congrArg not Jp))
  | _=>exact absurd (show false=true from hs) Bool.false_ne_true
 | byt i=>
  obtain ⟨t,rfl⟩:=rx
  cases y with
  | byt j=>obtain ⟨t',rfl⟩:=ry; exact PySem.W.ne_bytes (Bo I q (congrArg not Ro))
  | _=>exact absurd (show false=true from hs) Bool.false_ne_true
 | _=>cases y <;> exact absurd (show false=true from hs) Bool.false_ne_true
theorem Wi:BQ X (compareOp .Lt) (D3 λi j=>.bl (decide (i<j))):=IF λ_ _ _ _ _ _ _ q=>lt_int q
theorem Wj:BQ X (compareOp .LtE) (D3 λi j=>.bl (decide (i<=j))):=IF λ_ _ _ _ _ _ _ q=>le_int q
theorem Wn:BQ X (compareOp .Gt) (D3 λi j=>.bl (decide (j<i))):=IF λ_ _ _ _ _ _ _ q=>gt_int q
theorem Wo:BQ X (compareOp .GtE) (D3 λi j=>.bl (decide (j<=i))):=IF λ_ _ _ _ _ _ _ q=>ge_int q
theorem Wl:BQ X (compareOp .In) (λx y H Q=>∃ i j,x=.str i/\y=.str j/\Q (.bl (!(Builtin.Str.occurrences j i 0 j.length 1).isEmpty)) H):=by
 intro pins s σ H x y v u Q I rx ry h
 obtain ⟨i,j,rfl,rfl,q⟩:=h
 obtain ⟨t,rfl⟩:=rx
 obtain ⟨t',rfl⟩:=ry
 exact in_str (Bo I q rfl)
theorem Wk:BQ X (compareOp .Is) (λx y H Q=>y=.non/\Q (.bl (decide (x=.non))) H):=by
 intro pins s σ H x y v u Q I rx ry h
 obtain ⟨rfl,q⟩:=h
 cases ry
 refine is_none_gen (Bo I q ?_)
 cases x <;> first
  | (cases rx; rfl)
  | (obtain ⟨t,rfl⟩:=rx; rfl)
theorem Wf:BQ X (compareOp .IsNot) (λx y H Q=>y=.non/\Q (.bl (!decide (x=.non))) H):=by
 intro pins s σ H x y v u Q I rx ry h
 obtain ⟨rfl,q⟩:=h
 cases ry
 refine isnot_none_gen (Bo I q ?_)
 cases x <;> first
  | (cases rx; rfl)
  | (obtain ⟨t,rfl⟩:=rx; rfl)
theorem Qp (b:Expr) {op:CmpOp} (h:op≠.In:=by decide) (h2:op≠.NotIn:=by decide):behindInMarks op b=false:=by
 have e1:(op==CmpOp.In)=false:=by cases op <;> first | rfl | exact absurd rfl h
 have e2:(op==CmpOp.NotIn)=false:=by cases op <;> first | rfl | exact absurd rfl h2
 cases b <;> simp [behindInMarks,e1,e2]
def RU (K:PySem.W.Frag) (x:V) (H:Hp) (k:Bool):Prop:=
 match x with
 | .non=>k=false
 | .bl b=>k=b
 | .int i=>k=(i != 0)
 | .str y=>y.length<=sizeLine/\k=((y.length:Int) != 0)
 | .byt y=>y.size<=sizeLine/\k=((y.size:Int) != 0)
 | .ref p=>(∃ xs,A9 K H p xs/\k=!xs.isEmpty)\/(∃ xs,Bv K H p xs/\k=!xs.isEmpty)\/∃ kvs,H p=some (.dK kvs)/\k=!kvs.isEmpty
 | _=>False
theorem Zi {κ:Type} {kvs:List (κ×V)} {vs:List (κ×Value)} (r:KV kvs vs):(!vs.isEmpty)=!kvs.isEmpty:=by
 cases r <;> rfl
theorem QO {xs:List V} {its:List Value} (r:AD xs its):(!its.toArray.isEmpty)=!xs.isEmpty:=by
 cases r <;> simp
theorem Hi:(sizeLine:Nat)<2 ^ 63:=by rw [sizeLine_eq]; decide
theorem SN:TruR X (λx H Q=>∃ k,RU X.K x H k/\Q k H):=by
 intro pins s σ H x v Q I rx h
 obtain ⟨k,e,q⟩:=h
 have hl:=Hi
 have hs:sizeLine=16777216:=sizeLine_eq
 cases x with
 | non=>
  cases rx
  have e':k=false:=e
  subst e'
  exact truthy_none ⟨H,I,q⟩
 | bl b=>
  cases rx
  have e':k=b:=e
  subst e'
  exact wpAny_truthy_bool ⟨H,I,q⟩
 | int i=>
  obtain ⟨t,rfl⟩:=rx
  have e':k=(i != 0):=e
  subst e'
  exact PySem.P.truthy_int ⟨H,I,q⟩
 | str y=>
  obtain ⟨t,rfl⟩:=rx
  obtain ⟨hy,e'⟩:y.length<=sizeLine/\k=((y.length:Int) != 0):=e
  subst e'
  exact PySem.P.truthy_str wF ⟨H,I.tok _,q⟩
 | byt y=>
  obtain ⟨t,rfl⟩:=rx
  obtain ⟨hy,e'⟩:y.size<=sizeLine/\k=((y.size:Int) != 0):=e
  subst e'
  exact PySem.W.truthy_bytes wF ⟨H,I.tok _,q⟩
 | ref p=>
  cases rx
  have e':(∃ xs,A9 X.K H p xs/\k=!xs.isEmpty)\/(∃ xs,Bv X.K H p xs/\k=!xs.isEmpty)\/∃ kvs,H p=some (.dK kvs)/\k=!kvs.isEmpty:=e
  rcases e' with ⟨xs,hx,e'⟩ | ⟨xs,hx,e'⟩ | ⟨kvs,hx,e'⟩
  ·subst e'
   obtain ⟨its,r,pl,hz⟩:=I.list hx
   have hlen:=r.length
   exact wpAny_truthy_list pl.isList (by simp only [List.size_toArray]; omega) ⟨H,I.tok _,by rw [QO r]; exact q⟩
  ·subst e'
   obtain ⟨its,r,pl,hz⟩:=I.tuple hx
   have hlen:=r.length
   exact truthy_tuple pl (by simp only [List.size_toArray]; omega) ⟨H,I.tok _,by rw [QO r]; exact q⟩
  ·subst e'
   obtain ⟨hz,hS,vs,r,m⟩:kvs.length<=sizeLine/\(p==sysModules)=false/\∃ vs,KV kvs vs/\s.heap.DictOf (Mm X.prog X.w) p vs:=I.hok p _ hx
   have hlen:kvs.length=vs.length:=Paired.length r
   exact wpAny_truthy_dict hS m wF ⟨H,I.tok _,by rw [Zi r]; exact q⟩
 | _=>exact (show False from e).elim
theorem PR (ha:PE X a ta) (he:∀ whole,isTrue a X.env whole=(do let v <- whole; standAt a.pos; holding [v] (truthy v))) :
  PT X a (λσ H Q=>ta σ H λx H'=>∃ k,RU X.K x H' k/\Q k H'):=by
 intro pins s σ H Q I h
 exact isTrue_plain (Az (ha pins s σ H _ I h) λv s1 ⟨x,H1,I1,r1,q1⟩=>SN pins s1 σ H1 x v Q I1 r1 q1) (he _)
theorem Wr:BQ X (binaryOp .Add) (λx y H Q=>∃ i j,x=.str i/\y=.str j/\i.length+j.length<=sizeLine/\Q (.str (i++j)) H):=by
 intro pins s σ H x y v u Q I rx ry h
 obtain ⟨i,j,rfl,rfl,hz,q⟩:=h
 obtain ⟨t,rfl⟩:=rx
 obtain ⟨t',rfl⟩:=ry
 exact add_str (λt' tk=>⟨.str (i++j),H,I.tok _,⟨_,rfl⟩,q⟩) hz
def RW (b:Expr):Prop:=∀ o i,subscripted b false o i=operate [o,i] (getItem o i)
theorem V3 (ha:PE X a ta) (hb:PE X b tb) (hs:RW b) :
  PE X (.Subscript a b pos) (tOp (λx y H Q=>∃ z i c,x=.str z/\y=.int i/\0<=i/\i<2 ^ 63/\i<z.length/\z.cps[i.toNat]?=some c/\Q (.str ⟨#[c]⟩) H) ta tb):=by
 intro pins s σ H Q I h
 refine Subscript_ (HB ha hb I h λv u s2 x y H2 I2 rx ry q=>?_)
 obtain ⟨z,i,c,rfl,rfl,h0,h63,h1,hc,q⟩:=q
 obtain ⟨t,rfl⟩:=rx
 obtain ⟨t',rfl⟩:=ry
 have e:seqIndex? i z.length=some i.toNat:=PySem.StrLaws.seqIndex_nonneg h0 h1
 exact tail_any (typeIs_str s2 z t) slot_str_getitem.lookup (getItem_str (c:=c) (by
  have e1:decide (i < -(2 ^ 63:Int))=false:=decide_eq_false wF
  have e2:decide (i>=2 ^ 63)=false:=decide_eq_false wF
  rw [e1,e2] <;> rfl) (by rw [e]; exact hc) ⟨.str ⟨#[c]⟩,H2,I2.tok _,⟨_,rfl⟩,q⟩) (hs _ _)
theorem Dz {x:V} {us:List Value} (r:AD [x] us):∃ u,us=[u]/\AR x u:=by
 cases r with
 | cons r1 r2=>cases r2; exact ⟨_,rfl,r1⟩
theorem FX {x y:V} {us:List Value} (r:AD [x,y] us):∃ u w',us=[u,w']/\AR x u/\AR y w':=by
 cases r with
 | cons r1 r2=>
  cases r2 with
  | cons r3 r4=>cases r4; exact ⟨_,_,rfl,r1,r3⟩
theorem Q1B:El X (.builtin "abs") (λxs H Q=>∃ i,xs=[.int i]/\Q (.int (if i<0 then -i else i)) H):=by
 intro pins s σ H xs us Q I r h
 obtain ⟨i,rfl,q⟩:=h
 obtain ⟨u,rfl,t,rfl⟩:=Dz r
 exact call_abs_int λu tk=>⟨.int (if i<0 then -i else i),H,I.tok _,⟨_,rfl⟩,q⟩
theorem Q1u (hc:X.calm=true):El X (.builtin "max") (λxs H Q=>∃ i j,xs=[.int i,.int j]/\Q (.int (if j>i then j else i)) H):=by
 intro pins s σ H xs us Q I r h
 obtain ⟨i,j,rfl,q⟩:=h
 obtain ⟨u,w',rfl,⟨t,rfl⟩,⟨t',rfl⟩⟩:=FX r
 refine max_two_ints (I.ok.hd hc) λh' tk k=>⟨_,H,I.kept k,?_,q⟩
 by_cases hj:j>i
 ·rw [if_pos hj,if_pos hj]; exact ⟨_,rfl⟩
 ·rw [if_neg hj,if_neg hj]; exact ⟨_,rfl⟩
end
end L2
namespace L2
open PySem PySem.Spec PyProof.Rows
structure FN (h:Heap) (x dx C:Addr) (mA:Str->Option Value):Prop where
 obj:h.get? x=some (PySem.W.instObj C dx)
 ns:h.Ns1 dx mA
 ne:dx≠x
theorem YN {h:Heap} {dx:Addr} {mA:Str->Option Value} (n:h.Ns1 dx mA):∃ od,h.get? dx=some od/\∀ name,PySem.W.lookIn name od=some (mA name):=by
 obtain ⟨o,es,ep,ho,hd,hk,_,hm⟩:=n
 refine ⟨o,ho,λname=>?_⟩
 have e:=hm name
 unfold nsFind findBy at e
 rw [<- Array.find?_toList] at e
 unfold PySem.W.lookIn
 rw [hd]
 dsimp only
 split
 ·rename_i y q
  rw [q] at e
  exact congrArg some e
 ·rename_i q
  rw [q] at e
  have a:es.toList.any (·.refKey)=false:=by
   rw [List.any_eq_false]
   intro y hy
   obtain ⟨z,t,hkey⟩:=hk y (Array.mem_toList_iff.mp hy)
   simp [DictEntry.refKey,hkey]
  have a':¬ es.toList.any (·.refKey)=true:=by rw [a]; exact Bool.false_ne_true
  rw [if_neg a']
  exact congrArg some e
theorem FN.look {h:Heap} {x dx C:Addr} {mA:Str->Option Value} (I:FN h x dx C mA):∃ od,PySem.W.InstAt h x (PySem.W.instObj C dx) C (some od)/\∀ name,PySem.W.lookIn name od=some (mA name):=
 let ⟨od,ho,hl⟩:=YN I.ns
 ⟨od,⟨I.obj,rfl,rfl,ho⟩,hl⟩
section
variable {prog:Program} {w:World} {A:Around} {E:Value->Shared->Prop} {s:Shared} {K:PySem.W.Frag} {x dx C f:Addr} {mA:Str->Option Value} {name:Str} {v:Value}
theorem ZP {expr:Bool} {Q:Value->Shared->Prop} (X:K.In s.heap) (I:FN s.heap x dx C mA) (hg:PySem.W.plainGet K C name=true) (hh:PySem.W.hasDictIn K C=true)
  (ha:PySem.W.findIn K (.ref C) name=some none) (hv:mA name=some v) (hv':PySem.W.handedIn v=true) (h:Q v { s with toks:=s.toks+1 }) :
  wpAny (model prog w) A (getAttr (.ref x) name expr) Q E s:=by
 obtain ⟨od,J,hl⟩:=I.look
 exact PySem.W.get_value X J (PySem.W.plainGet_of hg).1 (PySem.W.findObj_own hh ha rfl (by rw [hl,hv])) hv' h
theorem ZO {pl:Sem Bool} {Q:Value×List Value->Shared->Prop} (X:K.In s.heap) (I:FN s.heap x dx C mA) (hg:PySem.W.plainGet K C name=true)
  (hf:PySem.W.findIn K (.ref C) name=some (some (.ref f))) (ht:PySem.W.isFn K (.ref f)=true) (hv:mA name=none) (h:Q (.ref f,[.ref x]) s) :
  wpAny (model prog w) A (getMethod (.ref x) name pl) Q E s:=by
 obtain ⟨od,J,hl⟩:=I.look
 exact PySem.W.method_fn X J (PySem.W.plainGet_of hg).1 (PySem.W.plainGet_of hg).2 hf (beq_iff_eq.mp ht) (by show (PySem.W.lookIn name od).map (·.isSome)=some false; rw [hl,hv]; rfl) h
theorem TR {ns:List Str} {Q:Unit->Shared->Prop} (X:K.In s.heap) (I:FN s.heap x dx C mA)
  (hs:PySem.W.findIn K (.ref C) "__setattr__" = some (some (.builtin "object.__setattr__"))) (hp:PySem.W.plainOver K C=true) (ht:PySem.W.takerIn K C name=some none) (hh:PySem.W.hasDictIn K C=true)
  (hw:PySem.Within mA ns) (hsz:ns.length<=sizeLine)
  (h:∀ h',FN h' x dx C (λy=>if y=name then some v else mA y)->Heap.SameBut dx s.heap h'->Q () { s with heap:=h',toks:=s.toks+2 }) :
  wpAny (model prog w) A (setAttr (.ref x) name v) Q E s:=by
 obtain ⟨od,J,hl⟩:=I.look
 refine PySem.W.set_plain X J hs (PySem.W.osa_open (s:={ s with toks:=s.toks+1 }) (r:=none) X J hp ht λb=>?_)
 obtain ⟨cd,hc,hd'⟩:=PySem.W.any_some hh
 have hx:s.heap.get? x=some ⟨.ref C,some dx,.plain,#[]⟩:=I.obj
 refine wpAny_bind (wpAny_pure (wpAny_bind (wpAny_bind (wpAny_loadPart hx (wpAny_bind (PySem.W.Looks.here (s:={ s with toks:=s.toks+1 }) (PySem.W.looks_clsIn X hc) ?_))))))
 rw [hd']
 refine wpAny_pure (a:=some dx) (wpAny_bind (wpAny_pure (wpAny_bind ?_)))
 refine wpAny_nsSet1 (s:={ s with toks:=s.toks+1 }) I.ns λh' hn2 hs2=>?_
 obtain ⟨oD,esD,epD,hoD,hdD,hcD⟩:=hn2.count (PySem.Within.cons name v hw)
 refine wpAny_bind (wpAny_lookBehind hoD (by rw [hdD]; exact pastItsLine_dict (Nat.le_trans hcD (by rw [List.length_cons]; omega))) ?_)
 exact wpAny_pure (h _ ⟨(hs2.2 _ (Ne.symm I.ne)).trans I.obj,hn2,I.ne⟩ hs2)
theorem YH {R:Result->Shared->Prop} {vs:List Value} {kw:List (Str×Value)} (X:K.In s.heap) (hm:PySem.W.makesIn K C=true)
  (hi:PySem.W.findIn K (.ref C) "__init__" = some (some (.ref f))) (hf:PySem.W.typeIn K (.ref f)=some (.type "function"))
  (h:codeAny (model prog w) (A.under (.builtin "type.__call__" ⟨.ref C::vs,kw⟩)) (.call (.ref f) ⟨.ref (s.heap.objs.size+1)::vs,kw⟩) (PySem.W.InitBack (s.heap.objs.size+1) R)
   { s with heap:=(s.heap.push PySem.W.emptyDict).push (PySem.W.instObj C s.heap.objs.size) }) :
  codeAny (model prog w) A (.call (.ref C) ⟨vs,kw⟩) R s:=by
 obtain ⟨hh,g,d,t,os⟩:=s
 exact PySem.W.make_core (PySem.W.makes_of X hm) (PySem.W.looks_findIn X hi) (λself=>PySem.W.bind_fn X self hf) (.inl rfl) h
end
def CI (f:Str) (v:V):List (Str×V)->List (Str×V)
 | []=>[(f,v)]
 | (g,x)::r=>if g=f then (g,v)::r else (g,x)::CI f v r
theorem Qy (f g:Str) (v:V):∀ fs:List (Str×V),(CI f v fs).lookup g=if g=f then some v else fs.lookup g
 | []=>by
  show List.lookup g [(f,v)]=_
  by_cases h:g=f
  ·have hb:(g==f)=true:=beq_iff_eq.mpr h
   simp only [List.lookup,hb,if_pos h]
  ·have hb:(g==f)=false:=beq_eq_false_iff_ne.mpr h
   simp only [List.lookup,hb,if_neg h]
 | (k,x)::r=>by
  have ih:=Qy f g v r
  rw [show CI f v ((k,x)::r)=(if k=f then (k,v)::r else (k,x)::CI f v r) from rfl]
  by_cases hk:k=f
  ·rw [if_pos hk]
   by_cases h:g=k
   ·have hb:(g==k)=true:=beq_iff_eq.mpr h
    simp only [List.lookup,hb,if_pos (h.trans hk)]
   ·have hb:(g==k)=false:=beq_eq_false_iff_ne.mpr h
    simp only [List.lookup,hb,if_neg (λe:g=f=>h (e.trans hk.symm))]
  ·rw [if_neg hk]
   by_cases h:g=k
   ·have hb:(g==k)=true:=beq_iff_eq.mpr h
    simp only [List.lookup,hb,if_neg (λe:g=f=>hk (h.symm.trans e))]
   ·have hb:(g==k)=false:=beq_eq_false_iff_ne.mpr h
    simp only [List.lookup,hb]
    exact ih
theorem Mu (f:Str) (v:V):∀ fs:List (Str×V),f∈(CI f v fs).map (·.1)/\∀ g,g∈fs.map (·.1)->g∈(CI f v fs).map (·.1)
 | []=>⟨by simp [CI],λg h=>by simp at h⟩
 | (k,x)::r=>by
  obtain ⟨i1,i2⟩:=Mu f v r
  rw [show CI f v ((k,x)::r)=(if k=f then (k,v)::r else (k,x)::CI f v r) from rfl]
  by_cases hk:k=f
  ·rw [if_pos hk]
   subst hk
   exact ⟨by simp,λg h=>by simpa using h⟩
  ·rw [if_neg hk]
   refine ⟨?_,λg h=>?_⟩
   ·rw [List.map_cons]
    exact List.mem_cons_of_mem _ i1
   ·rw [List.map_cons] at h ⊢
    rcases List.mem_cons.mp h with e | e
    ·exact List.mem_cons.mpr (.inl e)
    ·exact List.mem_cons_of_mem _ (i2 g e)
theorem Qz (f:Str) (v:V):∀ fs:List (Str×V),(CI f v fs).length<=fs.length+1
 | []=>by simp [CI]
 | (k,x)::r=>by
  have ih:=Qz f v r
  rw [show CI f v ((k,x)::r)=(if k=f then (k,v)::r else (k,x)::CI f v r) from rfl]
  by_cases hk:k=f
  ·rw [if_pos hk,List.length_cons,List.length_cons]; omega
  ·rw [if_neg hk,List.length_cons,List.length_cons]; omega
theorem Eg.some_of {v:V} {o:Option Value} (r:Eg (some v) o):∃ u,o=some u/\AR v u:=by
 cases o with
 | none=>exact (show False from r).elim
 | some u=>exact ⟨u,rfl,r⟩
theorem Eg.none_of {o:Option Value} (r:Eg none o):o=none:=by
 cases o with
 | none=>rfl
 | some u=>exact (show False from r).elim
theorem ZD {v:V} {u:Value} (r:AR v u):PySem.W.handedIn u=true:=by
 cases v with
 | non=>cases (show u=Value.none from r); rfl
 | bl b=>cases (show u=Value.bool b from r); rfl
 | int i=>obtain ⟨t,e⟩:=(show ∃ t,u=Value.int i t from r); cases e; rfl
 | str x=>obtain ⟨t,e⟩:=(show ∃ t,u=Value.str x t from r); cases e; rfl
 | byt b=>obtain ⟨t,e⟩:=(show ∃ t,u=Value.bytes b t from r); cases e; rfl
 | flt b=>obtain ⟨t,e⟩:=(show ∃ t,u=Value.float b t from r); cases e; rfl
 | ref a=>cases (show u=Value.ref a from r); rfl
 | ty n=>cases (show u=Value.type n from r); rfl
section
variable {P:Program} {w:World} {H H':Hp} {h h':Heap} {a C dx:Addr} {fs fs':List (Str×V)}
theorem IU (hok:A3 P w H h) (e:H a=some (.ins C dx fs)):∃ mA,FN h a dx C mA/\(∀ f,Eg (fs.lookup f) (mA f))/\PySem.Within mA (fs.map (·.1))/\fs.length<=1000/\H dx=some (.own a):=by
 obtain ⟨d,z,ne,ob,mA,n,r,q⟩:=(show B7 P w H h a (.ins C dx fs) from hok a _ e)
 exact ⟨mA,⟨ob,n,ne⟩,r,q,z,d⟩
end
structure A5 (K:PySem.W.Frag) (C:Addr):Prop where
 pg:PySem.W.plainGet K C Str.empty=true
 hd:PySem.W.hasDictIn K C=true
 po:PySem.W.plainOver K C=true
 sa:PySem.W.findIn K (.ref C) "__setattr__" = some (some (.builtin "object.__setattr__"))
theorem A5.get {K:PySem.W.Frag} {C:Addr} (c:A5 K C) (f:Str):PySem.W.plainGet K C f=true:=c.pg
def Ap (K:PySem.W.Frag) (C:Addr) (f:Str):Prop:=PySem.W.findIn K (.ref C) f=some none
theorem Ap.taker {K:PySem.W.Frag} {C:Addr} {f:Str} (n:Ap K C f):PySem.W.takerIn K C f=some none:=by
 unfold PySem.W.takerIn
 rw [show PySem.W.findIn K (.ref C) f=some none from n]
 rfl
structure JE (K:PySem.W.Frag) (C:Addr) (m:Str) (f:Addr):Prop where
 at_:PySem.W.findIn K (.ref C) m=some (some (.ref f))
 fn:PySem.W.isFn K (.ref f)=true
 kp:PySem.W.keepIn K (.ref f)=true
section
variable {X:Cx} {pins:List (Addr×Obj)} {σ:St} {H:Hp} {s:Shared} {a C dx:Addr} {fs:List (Str×V)} {f:Str} {v:V} {A:Around} {E:Value->Shared->Prop}
theorem ZN {b:Bool} {Q:Value->Shared->Prop} (I:Inv X pins σ H s) (e:H a=some (.ins C dx fs)) (c:A5 X.K C) (n:Ap X.K C f) (l:fs.lookup f=some v)
  (h:∀ u s',Inv X pins σ H s'->AR v u->Q u s'):wpAny (model X.prog X.w) A (getAttr (.ref a) f b) Q E s:=by
 obtain ⟨mA,O,r,_,_,_⟩:=IU I.hok e
 obtain ⟨u,hu,ru⟩:=Eg.some_of (v:=v) (o:=mA f) (by rw [<- l]; exact r f)
 exact ZP I.kIn O (c.get f) c.hd n hu (ZD ru) (h u _ (I.tok _) ru)
theorem QS {m:Str} {g:Addr} {pl:Sem Bool} {Q:Value×List Value->Shared->Prop} (I:Inv X pins σ H s) (e:H a=some (.ins C dx fs)) (c:A5 X.K C) (k:JE X.K C m g) (l:fs.lookup m=none)
  (h:Q (.ref g,[.ref a]) s):wpAny (model X.prog X.w) A (getMethod (.ref a) m pl) Q E s:=by
 obtain ⟨mA,O,r,_,_,_⟩:=IU I.hok e
 have hn:mA m=none:=Eg.none_of (by rw [<- l]; exact r m)
 exact ZO I.kIn O (c.get m) k.at_ k.fn hn h
theorem Pa {y:V} {u:Value} {Q:Unit->Shared->Prop} (I:Inv X pins σ H s) (e:H a=some (.ins C dx fs)) (c:A5 X.K C) (n:Ap X.K C f) (hl:fs.length<1000) (ry:AR y u)
  (h:∀ s',Inv X pins σ (AI H a (.ins C dx (CI f y fs))) s'->Q () s'):wpAny (model X.prog X.w) A (setAttr (.ref a) f u) Q E s:=by
 obtain ⟨mA,O,r,wi,_,ho⟩:=IU I.hok e
 have hz:(fs.map (·.1)).length<=sizeLine:=by rw [List.length_map,sizeLine_eq]; omega
 refine TR I.kIn O c.sa c.po n.taker c.hd wi hz λh' O' sb=>h _ ?_
 have hd:∃ o,h'.get? dx=some o:=let ⟨o,_,_,e',_⟩:=O'.ns; ⟨o,e'⟩
 refine I.write (x:=a) (e:=dx) (by rw [e]; exact True.intro) (.inr ho) (λb q hb z=>(sb.2 b hb).trans z) hd ?_
 refine ⟨by rw [A4 O.ne]; exact ho,?_,O.ne,O'.obj,_,O'.ns,λg=>?_,λg hg=>?_⟩
 ·have:=Qz f y fs; omega
 ·show Eg ((CI f y fs).lookup g) (if g=f then some u else mA g)
  rw [Qy]
  by_cases q:g=f
  ·rw [if_pos q,if_pos q]; exact ry
  ·rw [if_neg q,if_neg q]; exact r g
 ·by_cases q:g=f
  ·rw [q]; exact (Mu f y fs).1
  ·refine (Mu f y fs).2 g (wi g λz=>hg ?_)
   show (if g=f then some u else mA g)=none
   rw [if_neg q]; exact z
theorem Inv.made (I:Inv X pins σ H s):Inv X pins σ (AI (AI H s.heap.objs.size (.own (s.heap.objs.size+1))) (s.heap.objs.size+1) (.ins C s.heap.objs.size []))
  { s with heap:=(s.heap.push PySem.W.emptyDict).push (PySem.W.instObj C s.heap.objs.size) }:=by
 have e1:(s.heap.push PySem.W.emptyDict).get? s.heap.objs.size=some PySem.W.emptyDict:=Heap.get?_push_size s.heap rfl
 have e2:((s.heap.push PySem.W.emptyDict).push (PySem.W.instObj C s.heap.objs.size)).get? (s.heap.objs.size+1)=some (PySem.W.instObj C s.heap.objs.size):=by
  have:=Heap.get?_push_size (s.heap.push PySem.W.emptyDict) (o:=PySem.W.instObj C s.heap.objs.size) rfl
  rwa [Heap.size_push] at this
 have e3:(s.heap.push PySem.W.emptyDict).Ns s.heap.objs.size (λ_=>none):=⟨PySem.W.emptyDict,#[],_,e1,rfl,(λe he=>absurd he (by simp)),λ_=>rfl⟩
 have I1:=I.laid (a:=s.heap.objs.size) (o:=.own (s.heap.objs.size+1)) (h':=s.heap.push PySem.W.emptyDict) (t':=s.toks) (λb u q=>Heap.get?_push_of_some _ q) (Nat.le_refl _) ⟨_,e1⟩
 refine I1.laid (a:=s.heap.objs.size+1) (o:=.ins C s.heap.objs.size []) (t':=s.toks) (λb u q=>Heap.get?_push_of_some _ q) (Nat.le_of_eq (Heap.size_push _ _)) ?_
 have ne:s.heap.objs.size≠s.heap.objs.size+1:=Nat.ne_of_lt (Nat.lt_succ_self _)
 refine ⟨by rw [A4 ne,BF],Nat.zero_le _,ne,e2,λ_=>none,(Heap.Ns1.of_empty e3).at λo q=>Heap.get?_push_of_some _ q,λ_=>True.intro,λy hy=>absurd rfl hy⟩
theorem Q1T {prog:Program} {w:World} {env:Env} {e:Expr} {f:Str} {pos:Pos} {s:Shared} {Q:Value->Shared->Prop} (hb:attributeBase e f env (eval e env)=eval e env)
  (h:wpAny (model prog w) A (eval e env) (λo s₁=>wpAny (model prog w) A (getAttr o f true) Q E s₁) E s):wpAny (model prog w) A (eval (.Attribute e f pos) env) Q E s:=
 Attribute_any_ h (by rw [arm_eval_Attribute,hb])
end
def Tc (K:PySem.W.Frag) (ta:TE) (f:Str):TE:=λσ H Q=>ta σ H λx H1=>∃ a C dx fs v,x=.ref a/\H1 a=some (.ins C dx fs)/\A5 K C/\Ap K C f/\fs.lookup f=some v/\Q v H1
section
variable {X:Cx} {o e value:Expr} {f:Str} {pos pos' tpos:Pos} {ta tv:TE}
theorem V5 (he:PE X e ta) (hb:attributeBase e f X.env (eval e X.env)=eval e X.env):PE X (.Attribute e f pos) (Tc X.K ta f):=by
 intro pins s σ H Q I h
 refine Q1T hb (Az (he pins s σ H _ I h) λu s1 ⟨x,H1,I1,rx,a,C,dx,fs,v,ex,ea,c,n,l,q⟩=>?_)
 subst ex
 obtain rfl:u=Value.ref a:=rx
 exact ZN I1 ea c n l λu' s2 I2 ru=>⟨v,H1,I2,ru,q⟩
end
section
variable {X:Cx} {pins:List (Addr×Obj)} {σ:St} {H:Hp} {s:Shared} {A:Around} {E:Value->Shared->Prop} {Q:Value->Shared->Prop} {c:Value} {b:Bool}
inductive DK (K:PySem.W.Frag) (H:Hp):V->Value->Prop where
 | non:DK K H .non (.type "NoneType")
 | bl (x:Bool):DK K H (.bl x) (.type "bool")
 | int (i:Int):DK K H (.int i) (.type "int")
 | str (x:Str):DK K H (.str x) (.type "str")
 | flt (x:UInt64):DK K H (.flt x) (.type "float")
 | lst {a:Addr} {xs:List V} (e:H a=some (.lst xs)):DK K H (.ref a) (.type "list")
 | frz {a:Addr} {o:Obj} {xs:List V} (e:H a=some (.frz o (.lst xs))):DK K H (.ref a) (.type "list")
 | tup {a:Addr} {xs:List V} (e:H a=some (.tup xs)):DK K H (.ref a) (.type "tuple")
 | dK {a:Addr} {kvs:List (AY×V)} (e:H a=some (.dK kvs)):DK K H (.ref a) (.type "dict")
 | dT {a:Addr} {kvs:List (List AY×V)} (e:H a=some (.dT kvs)):DK K H (.ref a) (.type "dict")
 | ins {a C dx:Addr} {fs:List (Str×V)} (e:H a=some (.ins C dx fs)) (cl:A5 K C) (ha:PySem.W.findIn K (.ref C) "__class__" = some (some (.builtin "object.__class__")))
   (hn:PySem.W.specialIn K (.builtin "object.__class__") "__get__" = some (some (.builtin "getset_descriptor.__get__"))) (htk:PySem.W.takesIn K (.builtin "object.__class__")=some true)
   (hm:PySem.W.mroIn K C (.type "object")=some true):DK K H (.ref a) (.ref C)
theorem Zg {x:V} {u t:Value} (I:Inv X pins σ H s) (rx:AR x u) (ty:DK X.K H x t) (e:PySem.W.kitOne X.K t c=some b) (h:∀ tk,Q (.bool b) { s with toks:=tk }) :
  wpAny (model X.prog X.w) A (call (.builtin "isinstance") [u,c]) Q E s:=by
 cases ty with
 | non=>cases (show u=Value.none from rx); exact PySem.W.kia_one PySem.W.kitx_none I.kIn True.intro e (λz=>nomatch z) h
 | bl y=>cases (show u=Value.bool y from rx); exact PySem.W.kia_one PySem.W.kitx_bool I.kIn True.intro e (λz=>nomatch z) h
 | int i=>obtain ⟨t,q⟩:=(show ∃ t,u=Value.int i t from rx); cases q; exact PySem.W.kia_one PySem.W.kitx_int I.kIn True.intro e (λz=>nomatch z) h
 | str y=>obtain ⟨t,q⟩:=(show ∃ t,u=Value.str y t from rx); cases q; exact PySem.W.kia_one PySem.W.kitx_str I.kIn True.intro e (λz=>nomatch z) h
 | flt y=>obtain ⟨t,q⟩:=(show ∃ t,u=Value.float y t from rx); cases q; exact PySem.W.kia_one PySem.W.kitx_float I.kIn True.intro e (λz=>nomatch z) h
 | @lst a xs ea=>
  cases (show u=Value.ref a from rx)
  obtain ⟨_,_,n,_,h1⟩:=(show B7 X.prog X.w H s.heap a (.lst xs) from I.hok a _ ea)
  exact PySem.W.kia_one PySem.W.kitx_list I.kIn ⟨_,h1,rfl⟩ e (λz=>nomatch z) h
 | @frz a ob xs ea=>
  cases (show u=Value.ref a from rx)
  obtain ⟨_,_,_,n,_,h1⟩:=(show B7 X.prog X.w H s.heap a (.frz ob (.lst xs)) from I.hok a _ ea)
  exact PySem.W.kia_one PySem.W.kitx_list I.kIn ⟨_,h1,rfl⟩ e (λz=>nomatch z) h
 | @tup a xs ea=>
  cases (show u=Value.ref a from rx)
  obtain ⟨_,_,_,p⟩:=(show B7 X.prog X.w H s.heap a (.tup xs) from I.hok a _ ea)
  obtain ⟨o,h1,h2,_⟩:=p.t
  exact PySem.W.kia_one PySem.W.kitx_tuple I.kIn ⟨o,h1,h2⟩ e (λz=>nomatch z) h
 | @dK a kvs ea=>
  cases (show u=Value.ref a from rx)
  obtain ⟨_,_,vs,_,p⟩:=(show B7 X.prog X.w H s.heap a (.dK kvs) from I.hok a _ ea)
  obtain ⟨o,es,ep,h1,h2,_⟩:=p
  exact PySem.W.kia_one PySem.W.kitx_dict I.kIn ⟨o,h1,h2.1⟩ e (λz=>nomatch z) h
 | @dT a kvs ea=>
  cases (show u=Value.ref a from rx)
  obtain ⟨_,_,xs,_,o,es,ep,h1,h2,_⟩:=(show B7 X.prog X.w H s.heap a (.dT kvs) from I.hok a _ ea)
  exact PySem.W.kia_one PySem.W.kitx_dict I.kIn ⟨o,h1,h2.1⟩ e (λz=>nomatch z) h
 | @ins a C dx fs ea cl ha hn htk hm=>
  cases (show u=Value.ref a from rx)
  obtain ⟨mA,O,_⟩:=IU I.hok ea
  obtain ⟨od,J,_⟩:=O.look
  exact PySem.W.kia_one (PySem.W.kitx_own (cl.get _) cl.hd ha hn htk hm) I.kIn J e (λz=>nomatch z) h
end
end L2
namespace L2
open PySem PySem.Spec PyProof.Rows
structure AL (k:Nat) (A:Around):Prop where
 hd:A.handled=none
 dp:A.depth+3*k+5<recursionLimit
 un:A.units+16*k+200<cLine
theorem AL.mono {j k:Nat} {A:Around} (r:AL k A) (h:j<=k):AL j A:=⟨r.hd,by have:=r.dp; omega,by have:=r.un; omega⟩
theorem AL.deeper {k:Nat} {A:Around} (r:AL (k+1) A) (env:Env):AL k (A.deeper env):=
 ⟨r.hd,by have:=r.dp; show A.depth+1+3*k+5<_; omega,by have:=r.un; show A.units+3+16*k+200<_; omega⟩
theorem YI {A:Around} {C:Addr} {us:List Value} {kw:List (Str×Value)}:(A.under (.builtin "type.__call__" ⟨.ref C::us,kw⟩)).depth=A.depth+1:=by
 first | rfl | simp [Around.under,Code.weight,Code.isCreation,Code.isGuard,Code.isCaller,Code.frames,Code.isFrame,guardIds]
theorem YG {A:Around} {C:Addr} {us:List Value} {kw:List (Str×Value)}:(A.under (.builtin "type.__call__" ⟨.ref C::us,kw⟩)).units=A.units+1:=by
 first | rfl | simp [Around.under,Code.cUnits,Code.frames,Code.isFrame]
theorem AL.make {k:Nat} {A:Around} (r:AL (k+1) A) (C:Addr) (us:List Value) (kw:List (Str×Value)):AL k (A.under (.builtin "type.__call__" ⟨.ref C::us,kw⟩)):=
 ⟨r.hd,by have:=r.dp; rw [YI]; omega,by have:=r.un; rw [YG]; omega⟩
theorem AL.depth {k:Nat} {A:Around} (r:AL k A):A.depth<recursionLimit:=by have:=r.dp; omega
theorem AL.units {k:Nat} {A:Around} (r:AL k A):A.units+64<cLine:=by have:=r.un; omega
def NY:TA:=λ_ H Q=>Q [] H
def Tf (ta:TE) (tr:TA):TA:=λσ H Q=>ta σ H λx H1=>tr σ H1 λxs H2=>Q (x::xs) H2
section
variable {X:Cx} {e:Expr} {es:List Expr} {te:TE} {t:TA} {pos:Pos}
theorem He:PA X [] NY:=λ_ _ _ _ H Q I h=>Calls.spliced_nil ⟨[],H,I,.nil,h⟩
theorem Fr (ha:PE X e te) (hr:PA X es t) (hs:starEach (e::es) X.env=(false,eval e X.env)::starEach es X.env:=by rfl):PA X (e::es) (Tf te t):=by
 intro pos pins s σ H Q I h
 rw [hs]
 show wpAny _ _ (spliced ((false,eval e X.env)::backTo pos (starEach es X.env))) _ _ s
 refine Calls.spliced_cons (Az (ha pins s σ H _ I h) λu s1 ⟨x,H1,I1,r1,q1⟩=>?_)
 exact Az (hr pos pins s1 σ H1 _ I1 q1) λus s2 ⟨xs,H2,I2,r2,q2⟩=>⟨x::xs,H2,I2,.cons r1 r2,q2⟩
def SU (t:TA):TE:=λσ H Q=>t σ H λxs H1=>xs.length<=sizeLine/\∀ p,H1 p=none->Q (.ref p) (AI H1 p (.tup xs))
def S6 (t:TA):TE:=λσ H Q=>t σ H λxs H1=>xs.length<=sizeLine/\∀ p,H1 p=none->Q (.ref p) (AI H1 p (.lst xs))
theorem P8 {x1} (h:PA X es t):PE X (.Tuple es x1 pos) (SU t):=by
 intro pins s σ H Q I hq
 refine wpAny_Tuple_spliced (Az (h pos pins s σ H _ I hq) λus s1 ⟨xs,H1,I1,r,z,q⟩=>⟨by rw [<- r.length]; exact z,?_⟩)
 have hf:H1 s1.heap.objs.size=none:=I1.hok.fresh (Nat.le_refl _)
 refine ⟨.ref s1.heap.objs.size,AI H1 s1.heap.objs.size (.tup xs),I1.laid (t':=s1.toks) (λb u e=>Heap.get?_push_of_some _ e) (Nat.le_refl _) ?_,rfl,q _ hf⟩
 exact ⟨z,us,r,EM.new _ _⟩
theorem Qa (h:PA X es t):PE X (.List es pos) (S6 t):=by
 intro pins s σ H Q I hq
 refine wpAny_List_spliced (Az (h pos pins s σ H _ I hq) λus s1 ⟨xs,H1,I1,r,z,q⟩=>⟨by rw [<- r.length]; exact z,?_⟩)
 have hf:H1 s1.heap.objs.size=none:=I1.hok.fresh (Nat.le_refl _)
 refine ⟨.ref s1.heap.objs.size,AI H1 s1.heap.objs.size (.lst xs),I1.laid (t':=s1.toks) (λb u e=>Heap.get?_push_of_some _ e) (Nat.le_refl _) ?_,rfl,q _ hf⟩
 exact ⟨z,us,0,r,Heap.get?_push_size _ rfl⟩
end
abbrev Sp:=List V->Hp->VK->XK->Prop
abbrev Ds:=List Env->Hp->Shared->XK->Value->Shared->Prop
structure FP (P:Program) (w:World) (K:PySem.W.Frag) (mg:Str->Option Value) (base:Heap) (A:Around) (outer:List Env) (s:Shared) (H:Hp):Prop where
 frames:A.frames=some outer
 mod:Mod K mg base
 bs:∀ b o,base.get? b=some o->s.heap.get? b=some o/\H b=none
 bsz:base.objs.size<=s.heap.objs.size
 funs:s.heap.FunFrames base outer
 frf:∀ b∈Dj outer,H b=none
 hok:A3 P w H s.heap
 bare:AllBare s.gens
def CE (outer:List Env) (P:Program) (w:World) (H:Hp) (s:Shared) (Q:VK) (u:Value) (s':Shared):Prop:=
 ∃ v H',s'.os=s.os/\AllBare s'.gens/\Un (Dj outer) [] H H' s.heap s'.heap/\A3 P w H' s'.heap/\AR v u/\Q v H'
def CR (CX:Ds) (outer:List Env) (P:Program) (w:World) (H:Hp) (s:Shared) (Q:VK) (E:XK) (r:Result) (s':Shared):Prop:=
 match r with
 | .ok (.ret u)=>CE outer P w H s Q u s'
 | .ok _=>False
 | .error e=>CX outer H s E e s'
structure AM (P:Program) (w:World) (K:PySem.W.Frag) (mg:Str->Option Value) (base:Heap) (CX:Ds) (k:Nat) (f:Addr) (fd:FuncData) (ps:List Str) (sp:Sp):Prop where
 len:∀ vs H Q E,sp vs H Q E->vs.length=ps.length
 run:∀ (A:Around) (outer:List Env) (s:Shared) (H:Hp) (args:Args) (us:List Value) (vs:List V) (Q:VK) (E:XK),AL k A->FP P w K mg base A outer s H->BindsTo s fd args (ps.zip us)->AD vs us->sp vs H Q E->
  codeAny (model P w) A (.call (.ref f) args) (CR CX outer P w H s Q E) s
theorem AM.mono {P:Program} {w:World} {K:PySem.W.Frag} {mg:Str->Option Value} {base:Heap} {CX:Ds} {j k:Nat} {f:Addr} {fd:FuncData} {ps:List Str} {sp:Sp} (F:AM P w K mg base CX j f fd ps sp) (h:j<=k) :
  AM P w K mg base CX k f fd ps sp:=⟨F.len,λA outer s H args us vs Q E hr=>F.run A outer s H args us vs Q E (hr.mono h)⟩
theorem FP.make {P:Program} {w:World} {K:PySem.W.Frag} {mg:Str->Option Value} {base:Heap} {A:Around} {outer:List Env} {s:Shared} {H:Hp} (e:FP P w K mg base A outer s H) (C:Addr) (us:List Value) (kw:List (Str×Value)) :
  FP P w K mg base (A.under (.builtin "type.__call__" ⟨.ref C::us,kw⟩)) outer s H:=⟨by first | exact e.frames | (simpa [Around.under,Code.envs,Code.isFrame,pushEnvs] using e.frames),e.mod,e.bs,e.bsz,e.funs,e.frf,e.hok,e.bare⟩
section
variable {X:Cx} {pins:List (Addr×Obj)} {σ:St} {H:Hp} {s s':Shared}
theorem Inv.env0 (I:Inv X pins σ H s):FP X.prog X.w X.K X.mg X.base X.A X.stack s H:=
 ⟨I.ok.frames,I.ok.mod,I.bs,Nat.le_trans I.ok.bsz I.sz,I.stack,I.stkFree,I.hok,I.bare⟩
theorem Inv.after {Q:VK} {u:Value} (I:Inv X pins σ H s) (h:CE X.stack X.prog X.w H s Q u s'):EP X pins σ Q u s':=by
 obtain ⟨v,H',os,bare,un,hok,r,q⟩:=h
 obtain ⟨hh,g,d,t,os'⟩:=s'
 obtain rfl:os'=s.os:=os
 exact ⟨v,H',I.call (h':=hh) (g':=g) (d':=d) (t':=t) (ch:=[]) un hok bare (λb z=>absurd z (by simp)),r,q⟩
end
def Th (sp:Sp) (dvs:List V) (E:XK) (t:TA):TE:=λσ H Q=>t σ H λvs H1=>sp (vs++dvs) H1 Q E
def N0 (C:Addr) (m:Str) (sp:Sp) (dvs:List V) (E:XK) (ta:TE) (t:TA):TE:=λσ H Q=>ta σ H λx H1=>∃ a dx fs,x=.ref a/\H1 a=some (.ins C dx fs)/\fs.lookup m=none /\
 t σ H1 λvs H2=>sp (x::(vs++dvs)) H2 Q E
def S5 (C:Addr) (sp:Sp) (dvs:List V) (E:XK) (t:TA):TE:=λσ H Q=>t σ H λvs H1=>∀ x dx,H1 x=none->H1 dx=none->dx≠x->
 sp (.ref x::(vs++dvs)) (AI (AI H1 dx (.own x)) x (.ins C dx [])) (λv H2=>v=.non/\Q (.ref x) H2) E
def Binds (K:PySem.W.Frag) (fd:FuncData) (ps:List Str) (ds:List Value):Prop:=
 ∀ (s:Shared) (us:List Value),K.In s.heap->(us++ds).length=ps.length->BindsTo s fd ⟨us,[]⟩ (ps.zip (us++ds))
theorem Binds.all {K:PySem.W.Frag} {fd:FuncData} {ps:List Str} (h:∀ us:List Value,us.length=ps.length->bindArgs fd ⟨us,[]⟩=pure (ps.zip us)):Binds K fd ps []:=λs us _ hl=>by
 rw [List.append_nil] at hl ⊢
 exact .of_eq (h us hl)
def FL (CX:Ds) (X:Cx) (E:XK):Prop:=∀ (pins:List (Addr×Obj)) (σ:St) (H:Hp) (s:Shared) (e:Value) (s':Shared),Inv X pins σ H s->CX X.stack H s E e s'->X.xe e s'
section
variable {X:Cx} {CX:Ds} {k:Nat} {f C:Addr} {fd:FuncData} {ps:List Str} {sp:Sp} {dvs:List V} {ds:List Value} {E:XK} {x m:Str} {p pos apos:Pos} {e o:Expr} {es:List Expr} {ta:TE} {t:TA}
theorem Iy {pins:List (Addr×Obj)} {σ:St} {H:Hp} {s:Shared} {Q:VK} {us:List Value} {vs:List V} (F:AM X.prog X.w X.K X.mg X.base CX k f fd ps sp) (hr:AL k X.A) (hb:Binds X.K fd ps ds) (hd:AD dvs ds) (hx:FL CX X E)
  (I:Inv X pins σ H s) (r:AD vs us) (h:sp (vs++dvs) H Q E):wpAny (model X.prog X.w) X.A (call (.ref f) us) (EP X pins σ Q) X.xe s:=by
 have r2:AD (vs++dvs) (us++ds):=r.append hd
 have hl:(us++ds).length=ps.length:=by rw [<- r2.length]; exact F.len _ _ _ _ h
 refine wpAny_call (codeAny_mono (F.run X.A X.stack s H ⟨us,[]⟩ (us++ds) (vs++dvs) Q E hr I.env0 (hb s us I.kIn hl) r2 h) λr s' hq=>?_)
 cases r with
 | error e=>exact hx pins σ H s e s' I hq
 | ok fl=>
  cases fl with
  | ret u=>exact I.after hq
  | next=>exact False.elim hq
  | brk=>exact False.elim hq
  | cont=>exact False.elim hq
theorem V6 (F:AM X.prog X.w X.K X.mg X.base CX k f fd ps sp) (hr:AL k X.A) (hg:Gl X x) (hm:X.mg x=some (.ref f)) (hk:PySem.W.keepIn X.K (.ref f)=true) (hb:Binds X.K fd ps ds) (hd:AD dvs ds) (hx:FL CX X E)
  (ha:PA X (e::es) t) (hdb:(x==("__debug__" : Str))=false:=by decide) (he:starEach (e::es) X.env=(false,eval e X.env)::starEach es X.env:=by rfl) (hpl:(backTo pos (starEach es X.env)).any (·.1)=false:=by rfl) :
  PE X (.Call (.Name x p) (e::es) [] pos) (Th sp dvs E t):=by
 intro pins s σ H Q I h
 refine wpAny_Call_Name_kw (IQ I hg hm ?_ hdb)
 refine PySem.W.callWith_K (h₀:=X.base) I.ok.mod.kin hk (Az (ha pos pins s σ H _ I h) λus s1 ⟨vs,H1,I1,r,q⟩=>⟨I1.kIn,?_⟩) he hpl
 exact Iy F hr hb hd hx I1 r q
theorem V2 {pl:Sem Bool} (he:PE X o ta) (c:A5 X.K C) (hm:JE X.K C m f) (F:AM X.prog X.w X.K X.mg X.base CX k f fd ps sp) (hr:AL k X.A) (hb:Binds X.K fd ps ds) (hd:AD dvs ds) (hx:FL CX X E) (ha:PA X (e::es) t)
  (hst:starEach (e::es) X.env=(false,eval e X.env)::starEach es X.env:=by rfl) (hpl:(backTo pos (starEach es X.env)).any (·.1)=false:=by rfl)
  (ht:eval (.Call (.Attribute o m apos) (e::es) [] pos) X.env=(do
   let ov <- eval o X.env
   standAt apos.atName
   let (f,first) <- holding [ov] (getMethod ov m pl)
   callWith pos f first (backTo pos (starEach (e::es) X.env)) (backToKw pos (keywordEach [] X.env))):=by rfl) :
  PE X (.Call (.Attribute o m apos) (e::es) [] pos) (N0 C m sp dvs E ta t):=by
 intro pins s σ H Q I h
 refine PySem.W.methodCall_KW (pl:=pl) (Az (he pins s σ H _ I h) λu s1 ⟨x,H1,I1,rx,a,dx,fs,ex,ea,l,q⟩=>?_) ht
 subst ex
 obtain rfl:u=Value.ref a:=rx
 refine QS I1 ea c hm l ?_
 refine PySem.W.callWith_K (first:=[.ref a]) (h₀:=X.base) I.ok.mod.kin hm.kp (Az (ha pos pins s1 σ H1 _ I1 q) λus s2 ⟨vs,H2,I2,r,q2⟩=>⟨I2.kIn,?_⟩) hst hpl
 exact Iy (us:=.ref a::us) (vs:=.ref a::vs) F hr hb hd hx I2 (.cons rfl r) q2
theorem V1 {pl:Sem Bool} (he:PE X o ta) (c:A5 X.K C) (hm:JE X.K C m f) (F:AM X.prog X.w X.K X.mg X.base CX k f fd ps sp) (hr:AL k X.A) (hb:Binds X.K fd ps ds) (hd:AD dvs ds) (hx:FL CX X E)
  (ht:eval (.Call (.Attribute o m apos) [] [] pos) X.env=(do
   let ov <- eval o X.env
   standAt apos.atName
   let (f,first) <- holding [ov] (getMethod ov m pl)
   callWith pos f first (backTo pos (starEach [] X.env)) (backToKw pos (keywordEach [] X.env))):=by rfl) :
  PE X (.Call (.Attribute o m apos) [] [] pos) (N0 C m sp dvs E ta NY):=by
 intro pins s σ H Q I h
 refine PySem.W.methodCall_KW (pl:=pl) (Az (he pins s σ H _ I h) λu s1 ⟨x,H1,I1,rx,a,dx,fs,ex,ea,l,q⟩=>?_) ht
 subst ex
 obtain rfl:u=Value.ref a:=rx
 refine QS I1 ea c hm l ?_
 exact PySem.W.callWith_K0 (first:=[.ref a]) I1.kIn hm.kp (Iy (us:=[.ref a]) (vs:=[.ref a]) F hr hb hd hx I1 (.cons rfl .nil) q)
structure Mk (K:PySem.W.Frag) (C f:Addr):Prop where
 makes:PySem.W.makesIn K C=true
 init:PySem.W.findIn K (.ref C) "__init__" = some (some (.ref f))
 fn:PySem.W.isFn K (.ref f)=true
 kp:PySem.W.keepIn K (.ref C)=true
theorem U4 {pins:List (Addr×Obj)} {σ:St} {H:Hp} {s:Shared} {Q:VK} {us:List Value} {vs:List V} (M:Mk X.K C f) (F:AM X.prog X.w X.K X.mg X.base CX k f fd ps sp) (hr:AL (k+1) X.A) (hb:Binds X.K fd ps ds) (hd:AD dvs ds)
  (hx:FL CX X E) (I:Inv X pins σ H s) (r:AD vs us)
  (h:∀ x dx,H x=none->H dx=none->dx≠x->sp (.ref x::(vs++dvs)) (AI (AI H dx (.own x)) x (.ins C dx [])) (λv H2=>v=.non/\Q (.ref x) H2) E) :
  wpAny (model X.prog X.w) X.A (call (.ref C) us) (EP X pins σ Q) X.xe s:=by
 have hq:=h (s.heap.objs.size+1) s.heap.objs.size (I.hok.fresh (Nat.le_succ _)) (I.hok.fresh (Nat.le_refl _)) (Nat.ne_of_lt (Nat.lt_succ_self _))
 have I2:=Inv.made (C:=C) I
 have r2:AD (V.ref (s.heap.objs.size+1)::(vs++dvs)) (Value.ref (s.heap.objs.size+1)::(us++ds)):=.cons rfl (r.append hd)
 have hl:(Value.ref (s.heap.objs.size+1)::us++ds).length=ps.length:=by
  have e:=r2.length
  rw [F.len _ _ _ _ hq] at e
  exact e.symm
 refine wpAny_call (YH (f:=f) I.kIn M.makes M.init (beq_iff_eq.mp M.fn) (codeAny_mono (F.run _ X.stack _ _ ⟨Value.ref (s.heap.objs.size+1)::us,[]⟩ (Value.ref (s.heap.objs.size+1)::(us++ds)) _ _ E (hr.make C us [])
  (I2.env0.make C us []) (hb _ (Value.ref (s.heap.objs.size+1)::us) I2.kIn hl) r2 hq) λr s' hq'=>?_))
 cases r with
 | error e=>exact hx pins σ _ _ e s' I2 hq'
 | ok fl=>
  cases fl with
  | ret u=>
   obtain ⟨v,H',I3,rv,ev,q3⟩:=I2.after hq'
   subst ev
   exact ⟨rv,⟨V.ref (s.heap.objs.size+1),H',I3,rfl,q3⟩⟩
  | next=>exact False.elim hq'
  | brk=>exact False.elim hq'
  | cont=>exact False.elim hq'
theorem P9 (M:Mk X.K C f) (F:AM X.prog X.w X.K X.mg X.base CX k f fd ps sp) (hr:AL (k+1) X.A) (hg:Gl X x) (hm:X.mg x=some (.ref C)) (hb:Binds X.K fd ps ds) (hd:AD dvs ds) (hx:FL CX X E)
  (ha:PA X (e::es) t) (hdb:(x==("__debug__" : Str))=false:=by decide) (he:starEach (e::es) X.env=(false,eval e X.env)::starEach es X.env:=by rfl) (hpl:(backTo pos (starEach es X.env)).any (·.1)=false:=by rfl) :
  PE X (.Call (.Name x p) (e::es) [] pos) (S5 C sp dvs E t):=by
 intro pins s σ H Q I h
 refine wpAny_Call_Name_kw (IQ I hg hm ?_ hdb)
 refine PySem.W.callWith_K (h₀:=X.base) I.ok.mod.kin M.kp (Az (ha pos pins s σ H _ I h) λus s1 ⟨vs,H1,I1,r,q⟩=>⟨I1.kIn,?_⟩) he hpl
 exact U4 M F hr hb hd hx I1 r q
end
section
variable {X:Cx} {CX:Ds} {k:Nat} {f C:Addr} {fd:FuncData} {ps ks:List Str} {sp:Sp} {E:XK} {x m:Str} {p pos apos kpos:Pos} {e o:Expr} {es:List Expr} {kws:List Keyword} {te ta:TE} {t tk:TA} {nm:Option Str}
variable {g:List Value->List Value->List Value} {gV:List V->List V->List V}
end
structure Av (N P:List Str) (sc:Scope):Prop where
 kind:sc.kind=.function
 co:sc.isCoroutine=false
 gen:sc.isGenerator=false
 nd:N.Nodup
 pre:N.take P.length=P
 par:∀ x∈P,sc.names.lookup x=some .local\/sc.names.lookup x=some .cell
 nofree:∀ y∈sc.names,y.2≠.free
theorem RE {kindOf:Str->Option NameKind} {x:Str}:∀ {binds:List (Str×Value)} {m:Str->Option Value},(∀ v,(x,v)∉binds)->bindL kindOf binds m x=m x
 | [],_,_=>rfl
 | (n,v)::r,m,h=>by
  unfold bindL
  rw [RE λw hw=>h w (List.mem_cons_of_mem _ hw)]
  split
  ·have:x≠n:=by rintro rfl; exact h v List.mem_cons_self
   simp [this]
  ·rfl
theorem RG {kindOf:Str->Option NameKind} {x:Str}:∀ {binds:List (Str×Value)} {m:Str->Option Value},(∀ v,(x,v)∉binds)->bindC kindOf binds m x=m x
 | [],_,_=>rfl
 | (n,v)::r,m,h=>by
  unfold bindC
  rw [RG λw hw=>h w (List.mem_cons_of_mem _ hw)]
  split
  ·rfl
  ·have:x≠n:=by rintro rfl; exact h v List.mem_cons_self
   simp [this]
theorem RF {kindOf:Str->Option NameKind} {x:Str} {v:Value}:∀ {P:List Str} {vs:List Value} {i:Nat} {m:Str->Option Value},P.Nodup->P[i]?=some x->vs[i]?=some v->kindOf x=some .local->
  bindL kindOf (P.zip vs) m x=some v
 | [],_,_,_,_,h,_,_=>by simp at h
 | _::_,[],_,_,_,_,h,_=>by simp at h
 | p::P,w::vs,0,m,nd,h1,h2,hk=>by
  simp at h1 h2; subst h1; subst h2
  show bindL kindOf ((p,w)::P.zip vs) m p=_
  unfold bindL
  rw [RE λv hv=>(List.nodup_cons.mp nd).1 (List.of_mem_zip hv).1,if_pos hk]
  simp
 | p::P,w::vs,i+1,m,nd,h1,h2,hk=>by
  show bindL kindOf ((p,w)::P.zip vs) m x=_
  unfold bindL
  exact RF (i:=i) (List.nodup_cons.mp nd).2 (by simpa using h1) (by simpa using h2) hk
theorem RH {kindOf:Str->Option NameKind} {x:Str} {v:Value}:∀ {P:List Str} {vs:List Value} {i:Nat} {m:Str->Option Value},P.Nodup->P[i]?=some x->vs[i]?=some v->kindOf x≠some .local->
  bindC kindOf (P.zip vs) m x=some v
 | [],_,_,_,_,h,_,_=>by simp at h
 | _::_,[],_,_,_,_,h,_=>by simp at h
 | p::P,w::vs,0,m,nd,h1,h2,hk=>by
  simp at h1 h2; subst h1; subst h2
  show bindC kindOf ((p,w)::P.zip vs) m p=_
  unfold bindC
  rw [RG λv hv=>(List.nodup_cons.mp nd).1 (List.of_mem_zip hv).1,if_neg hk]
  simp
 | p::P,w::vs,i+1,m,nd,h1,h2,hk=>by
  show bindC kindOf ((p,w)::P.zip vs) m x=_
  unfold bindC
  exact RH (i:=i) (List.nodup_cons.mp nd).2 (by simpa using h1) (by simpa using h2) hk
def start (N:List Str) (vs:List V):St:=vs.map some++List.replicate (N.length-vs.length) none
def EH (CX:Ds) (P:Program) (w:World) (K:PySem.W.Frag) (mg:Str->Option Value) (base:Heap) (N:List Str) (qual:Str) (scope:Scope) (f:Addr) (cd:Value) (A:Around) (outer:List Env) (s:Shared) (H:Hp) (E:XK):Cx where
 prog:=P
 w:=w
 K:=K
 mg:=mg
 base:=base
 A:=A.deeper (envOfC qual scope s.heap.objs.size f cd)
 N:=N
 s₀:=s
 H₀:=H
 env:=envOfC qual scope s.heap.objs.size f cd
 outer:=outer
 stack:=envOfC qual scope s.heap.objs.size f cd::outer
 ex:=[]
 calm:=true
 fn:=λ_=>true
 pn:=[]
 xe:=λe s'=>wpAny (model P w) (A.deeper (envOfC qual scope s.heap.objs.size f cd)) (leaving (envOfC qual scope s.heap.objs.size f cd) e) (λ_ s''=>CX outer H s E e s'') (λe' s''=>CX outer H s E e' s'') s'
theorem Ry {sc:Scope} {n:Nat} {x:Str} (h:sc.names.lookup x=some .cell):∃ c,(cellsFrom n sc.names []).lookup x=some c:=by
 have q:=PySem.W.cellsFrom_some sc.names n [] (.inl h)
 exact Option.isSome_iff_exists.mp q
theorem Zj {CX:Ds} {P:Program} {w:World} {K:PySem.W.Frag} {mg:Str->Option Value} {base:Heap} {N ps:List Str} {qual:Str} {scope:Scope} {f:Addr} {cd:Value} {A:Around} {outer:List Env} {s s1:Shared} {H:Hp} {E:XK} {us:List Value} {vs:List V}
  (S:Av N ps scope) (hd:A.handled=none) (e0:FP P w K mg base A outer s H) (hl:vs.length=ps.length) (r:AD vs us)
  (x:InCallC s s.heap.objs.size (bindL (envOfC qual scope s.heap.objs.size f cd).kindOf (ps.zip us) λ_=>none) (cellsFrom (s.heap.objs.size+1) scope.names []) (bindC (envOfC qual scope s.heap.objs.size f cd).kindOf (ps.zip us) λ_=>none) s1) :
  Inv (EH CX P w K mg base N qual scope f cd A outer s H E) [] (start N vs) H s1:=by
 have hpl:ps.length<=N.length:=by have:=congrArg List.length S.pre; rw [List.length_take] at this; omega
 obtain ⟨h1,tk,rfl,hk⟩:=x.done
 have noA:∀ b:Addr,b∉(EH CX P w K mg base N qual scope f cd A outer s H E).ex:=λb z=>absurd (show b∈([]:List Addr) from z) (by simp)
 refine ⟨⟨e0.mod,S.kind,rfl,rfl,Nat.le_refl _,λy z c h1 h2=>?_,λy hy=>?_,λy c _ h=>?_,λ_=>hd,Around.frames_deeper e0.frames,.inr ⟨rfl,rfl⟩,λb z=>absurd z (noA b),e0.bs,e0.bsz,λb _ _=>noA b,λb z=>absurd z (noA b),e0.funs,e0.frf⟩,
  rfl,e0.bare,Un.kept hk,⟨_,x.toInCall.ns,λi y v h1 h2 h3=>?_⟩,λy c h=>⟨_,x.cell y c h⟩,e0.hok.fresh (Nat.le_refl _),λy c h=>?_,λp hp=>absurd (show p∈([]:List (Addr×Obj)) from hp) (by simp),e0.hok.kept hk,?_⟩
 ·exact name_of_addr x.apart (PySem.mem_of_lookup h1) (PySem.mem_of_lookup h2)
 ·have hy:scope.names.lookup y=some .cell\/scope.names.lookup y=some .free:=hy
  rcases hy with hy | hy
  ·exact Ry hy
  ·exact absurd rfl (S.nofree _ (PySem.mem_of_lookup hy))
 ·exact Nat.le_of_lt (x.above y c (PySem.mem_of_lookup h))
 ·have hi:i<vs.length:=by
   unfold start at h2
   by_cases hi:i<vs.length
   ·exact hi
   ·rw [List.getElem?_append_right (by simpa using hi)] at h2
    rw [List.getElem?_replicate] at h2
    split at h2 <;> cases h2
  have ha:vs[i]?=some v:=by
   unfold start at h2
   rw [List.getElem?_append_left (by simpa using hi),List.getElem?_map] at h2
   cases e:vs[i]? with
   | none=>rw [e] at h2; cases h2
   | some a=>rw [e] at h2; cases h2; rfl
  obtain ⟨u,hu,rv⟩:=r.get ha
  have hp:ps[i]?=some y:=by
   rw [<- S.pre,List.getElem?_take_of_lt wF]; exact h1
  have ndP:ps.Nodup:=by rw [<- S.pre]; exact S.nd.sublist (List.take_sublist _ _)
  refine ⟨u,rv,?_⟩
  rcases S.par y (List.mem_of_getElem? hp) with k | k
  ·exact .inl ⟨k,RF ndP hp hu k⟩
  ·obtain ⟨c,e⟩:=Ry (n:=s.heap.objs.size+1) k
   refine .inr ⟨.inl k,c,e,?_⟩
   have q:=x.cell y c e
   rw [RH ndP hp hu (by show scope.names.lookup y≠_; rw [k]; decide)] at q
   exact q
 ·exact e0.hok.fresh (Nat.le_of_lt (x.above y c (PySem.mem_of_lookup h)))
 ·unfold start
  show _=N.length
  rw [List.length_append,List.length_map,List.length_replicate]
  omega
theorem QZ {CX:Ds} {P:Program} {w:World} {K:PySem.W.Frag} {mg:Str->Option Value} {base:Heap} {k:Nat} {f:Addr} {name qual:Str} {params:Arguments} {body:List Stmt} {scope:Scope} {dV kV doc pm cdv ct oc:Value} {an od:Option Addr}
  {osl:Array (Option Value)} {N ps:List Str} {sp:Sp} (lk:K.lookup f=some ⟨oc,od,.func (PySem.W.fnOf name qual params body scope dV kV doc pm an cdv ct),osl⟩) (hcd:PySem.W.codeIn K cdv qual=true) (S:Av N ps scope)
  (len:∀ vs H Q E,sp vs H Q E->vs.length=ps.length)
  (hbody:∀ (A:Around) (outer:List Env) (s:Shared) (H:Hp) (vs:List V) (Q:VK) (E:XK),AL k (A.deeper (envOfC qual scope s.heap.objs.size f cdv))->sp vs H Q E->
   ∃ t,PSs (EH CX P w K mg base N qual scope f cdv A outer s H E) body t/\t { nx:=λ_ H'=>Q .non H',rt:=Q } (start N vs) H) :
  AM P w K mg base CX (k+1) f (PySem.W.fnOf name qual params body scope dV kV doc pm an cdv ct) ps sp:=by
 refine ⟨len,λA outer s H args us vs Q E hr e0 hb r hsp=>?_⟩
 have hl:=len _ _ _ _ hsp
 have KX:K.In s.heap:=e0.mod.kin.keeps λb o e=>(e0.bs b o e).1
 have lim:s.heap.NoLimit:=e0.mod.nolimit.keeps λb o e=>(e0.bs b o e).1
 have hkind:∀ y∈ps.zip us,scope.names.lookup y.1=some .local\/(scope.names.lookup y.1=some .cell/\((cellsFrom (s.heap.objs.size+1) scope.names []).lookup y.1).isSome=true):=λ⟨n,v⟩ hy=>by
  rcases S.par n (List.of_mem_zip hy).1 with q | q
  ·exact .inl q
  ·exact .inr ⟨q,PySem.W.cellsFrom_some _ _ _ (.inl q)⟩
 refine codeAny_call_function hr.depth (KX _ _ lk) rfl S.co S.gen rfl (PySem.W.codeRec_of KX hcd) (hb _ _ _ _ ?_)
 refine wpAny_newFunctionEnv_cells S.kind hkind λenv he s1 x=>?_
 subst he
 refine ⟨lim.keeps x.toInCall.keep,codeAny_func ?_⟩
 obtain ⟨t,ht,hq⟩:=hbody A outer s H vs Q E (hr.deeper _) hsp
 have I:Inv (EH CX P w K mg base N qual scope f cdv A outer s H E) [] (start N vs) H s1:=Zj S hr.hd e0 hl r x
 refine wpAny_mono (ht [] s1 (start N vs) H _ I hq) (λfl s' hs=>?_) λe s' hs=>hs
 have fin:∀ {σ':St} {H':Hp} {v:V} {u:Value},Inv (EH CX P w K mg base N qual scope f cdv A outer s H E) [] σ' H' s'->AR v u->Q v H'->CE outer P w H s Q u s':=
  λ{σ' H' v u} J rv q=>⟨v,H',J.os,J.bare,J.base,J.hok,rv,q⟩
 cases fl with
 | ret u=>
  obtain ⟨v,σ',H',J,rv,q⟩:=hs
  exact fin J rv q
 | next=>
  obtain ⟨σ',H',J,q⟩:=hs
  exact fin (v:=V.non) (u:=Value.none) J rfl q
 | brk=>
  obtain ⟨_,_,_,q⟩:=hs
  exact False.elim q
 | cont=>
  obtain ⟨_,_,_,q⟩:=hs
  exact False.elim q
end L2
namespace L2
open PySem PySem.Spec PyProof.Rows
section
variable {X:Cx} {x:Str} {p pos:Pos} {e:Expr} {es:List Expr} {t:TA} {id T:String} {r:List V->Hp->VK->Prop}
def tCB (r:List V->Hp->VK->Prop) (t:TA):TE:=λσ H Q=>t σ H λvs H1=>r vs H1 Q
theorem Qd (hc:El X (.builtin id) r) (hg:Gl X x) (hm:X.mg x=none) (hv:bootBuiltins x=some (.builtin id)) (ha:PA X (e::es) t) (hn:x ≠ "__name__" := by decide) (hdb:(x==("__debug__" : Str))=false:=by decide)
  (he:starEach (e::es) X.env=(false,eval e X.env)::starEach es X.env:=by rfl) (hpl:(backTo pos (starEach es X.env)).any (·.1)=false:=by rfl):PE X (.Call (.Name x p) (e::es) [] pos) (tCB r t):=by
 intro pins s σ H Q I h
 refine wpAny_Call_Name_kw (EZ I hg hm hv ?_ hn hdb)
 exact PyProof.Rows.callWith_builtin1 (Az (ha pos pins s σ H _ I h) λus s1 ⟨vs,H1,I1,r1,q1⟩=>hc pins s1 σ H1 vs us Q I1 r1 q1) he hpl
theorem Qc (hc:El X (.type T) r) (hg:Gl X x) (hm:X.mg x=none) (hv:bootBuiltins x=some (.type T)) (ha:PA X (e::es) t) (hn:x ≠ "__name__" := by decide) (hdb:(x==("__debug__" : Str))=false:=by decide)
  (he:starEach (e::es) X.env=(false,eval e X.env)::starEach es X.env:=by rfl) (hpl:(backTo pos (starEach es X.env)).any (·.1)=false:=by rfl):PE X (.Call (.Name x p) (e::es) [] pos) (tCB r t):=by
 intro pins s σ H Q I h
 refine wpAny_Call_Name_kw (EZ I hg hm hv ?_ hn hdb)
 exact PyProof.Rows.callWith_type1 (Az (ha pos pins s σ H _ I h) λus s1 ⟨vs,H1,I1,r1,q1⟩=>hc pins s1 σ H1 vs us Q I1 r1 q1) he hpl
end
end L2
namespace HT
open PySem PyProof.Rows
def YO:List Int->List Int->Bool
 | [],[]=>false
 | [],_::_=>true
 | _::_,[]=>false
 | x::xs,y::ys=>if x=y then YO xs ys else decide (x<y)
section
open PySem.SeqAt
open PySem.AutoSeq1 (wpAny_loadPart')
open PySem.MeetsSeq PySem.MeetsSeq2 PySem.MeetsSeq3
end
section
variable {prog:Program} {w:World} {A:Around} {E:Value->Shared->Prop} {s:Shared}
def sIx (n d:Nat):Option Int->Nat
 | none=>d
 | some v=>if v<0 then (v+(n:Int)).toNat else min v.toNat n
theorem sIx_none (n d:Nat):sIx n d none=d:=rfl
theorem sIx_nat (n d k:Nat):sIx n d (some (k:Int))=min k n:=by
 show (if (k:Int)<0 then ((k:Int)+(n:Int)).toNat else min (k:Int).toNat n)=min k n
 rw [if_neg wF,Int.toNat_natCast]
end
end HT
namespace L2
open PySem PySem.Spec PyProof.Rows
abbrev TO:=St->Hp->(Option Int->Hp->Prop)->Prop
def PO (X:Cx) (e:Option Expr) (t:TO):Prop:=
 ∀ (pins:List (Addr×Obj)) (s:Shared) (σ:St) (H:Hp) (Q:Option Int->Hp->Prop),Inv X pins σ H s->t σ H Q->
  wpAny (model X.prog X.w) X.A (evalPart e X.env) (λu s'=>∃ o H',Inv X pins σ H' s'/\IsPart u o/\Q o H') X.xe s
def S3:TO:=λ_ H Q=>Q none H
def SY (t:TE):TO:=λσ H Q=>t σ H λx H1=>∃ i,x=.int i/\Q (some i) H1
section
variable {X:Cx} {e:Expr} {te:TE} {lo hi:Option Expr} {tl th:TO} {pos p2:Pos}
theorem VJ:PO X none S3:=by
 intro pins s σ H Q I h
 rw [evalPart_none]
 exact wpAny_pure ⟨none,H,I,.none,h⟩
theorem VI (h:PE X e te):PO X (some e) (SY te):=by
 intro pins s σ H Q I hw
 rw [evalPart_some]
 refine Az (h pins s σ H _ I hw) λu s1 ⟨x,H1,I1,r1,q1⟩=>?_
 obtain ⟨i,rfl,q⟩:=q1
 obtain ⟨t,rfl⟩:=r1
 exact ⟨some i,H1,I1,.int i t,q⟩
def SlR (X:Cx) (r:V->Option Int->Option Int->Hp->VK->Prop):Prop:=
 ∀ (pins:List (Addr×Obj)) (s:Shared) (σ:St) (H:Hp) (x:V) (v vl vu:Value) (lo hi:Option Int) (sl:Addr) (Q:VK),Inv X pins σ H s->AR x v->s.heap.IsSliceOf sl vl vu .none->IsPart vl lo->IsPart vu hi->r x lo hi H Q->
  ∃ T id,typeLookup (.type T) "__getitem__" = pure (some (.builtin id))/\s.TypeIs v T/\wpAny (model X.prog X.w) X.A (getItem v (.ref sl)) (EP X pins σ Q) X.xe s
def tSl (r:V->Option Int->Option Int->Hp->VK->Prop) (te:TE) (tl th:TO):TE:=λσ H Q=>te σ H λx H1=>tl σ H1 λl H2=>th σ H2 λu H3=>r x l u H3 Q
theorem VX {r:V->Option Int->Option Int->Hp->VK->Prop} (hr:SlR X r) (he:PE X e te) (hl:PO X lo tl) (hu:PO X hi th):PE X (.Subscript e (.Slice lo hi none p2) pos) (tSl r te tl th):=by
 intro pins s σ H Q I h
 refine Subscript_ (Az (he pins s σ H _ I h) λv s1 ⟨x,H1,I1,r1,q1⟩=>?_)
 refine wpAny_Slice (Az (hl pins s1 σ H1 _ I1 q1) λvl s2 ⟨l,H2,I2,pl,q2⟩=>Az (hu pins s2 σ H2 _ I2 q2) λvu s3 ⟨u,H3,I3,pu,q3⟩=>?_)
 rw [evalPart_none]
 refine wpAny_pure ?_
 have I4:Inv X pins σ H3 { s3 with heap:=s3.heap.push { cls:=.type "slice",data:=.fields #[vl,vu,.none] } }:=I3.kept (t':=s3.toks) λb ob q=>Heap.get?_push_of_some _ q
 obtain ⟨T,id,hT,ht,hg⟩:=hr pins { s3 with heap:=s3.heap.push { cls:=.type "slice",data:=.fields #[vl,vu,.none] } } σ H3 x v vl vu l u s3.heap.objs.size Q I4 r1 (Heap.IsSliceOf.new ..) pl pu q3
 show wpAny (model X.prog X.w) X.A (subscriptTail e (.Slice lo hi none p2) v (.ref s3.heap.objs.size)) (EP X pins σ Q) X.xe { s3 with heap:=s3.heap.push { cls:=.type "slice",data:=.fields #[vl,vu,.none] } }
 exact tail_any (ops:=[.ref s3.heap.objs.size,v]) ht hT hg (by with_unfolding_all rfl)
def FG (xs:List V) (lo hi:Option Int):List V:=(xs.drop (HT.sIx xs.length 0 lo)).take (HT.sIx xs.length xs.length hi-HT.sIx xs.length 0 lo)
theorem Q0O (xs:List V) (lo hi:Option Int):(FG xs lo hi).length<=xs.length:=by
 unfold FG
 rw [List.length_take,List.length_drop]
 omega
end
end L2
namespace L2
open PySem PySem.Spec PyProof.Rows
def Fa (n:Nat) (i:Int):Option Nat:=if 0<=i then (if i<n then some i.toNat else none) else if -(n:Int)<=i then some (i+n).toNat else none
def Be {α:Type} (xs:List α) (i:Int):Option α:=(Fa xs.length i).bind λj=>xs[j]?
theorem Za {n:Nat} {i:Int} {j:Nat} (h:Fa n i=some j):seqIndex? i n=some j/\j<n/\-(n:Int)<=i/\i<n:=by
 unfold Fa at h
 by_cases h0:0<=i
 ·rw [if_pos h0] at h
  by_cases h1:i<n
  ·rw [if_pos h1] at h
   have e:i.toNat=j:=Option.some.inj h
   exact ⟨by rw [seqIndex_of h0 h1,e],by omega,by omega,h1⟩
  ·rw [if_neg h1] at h; cases h
 ·rw [if_neg h0] at h
  by_cases h1:-(n:Int)<=i
  ·rw [if_pos h1] at h
   have e:(i+n).toNat=j:=Option.some.inj h
   exact ⟨by rw [seqIndex_neg wF h1,e],by omega,h1,by omega⟩
  ·rw [if_neg h1] at h; cases h
theorem RO {α:Type} {xs:List α} {i:Int} {v:α} (h:Be xs i=some v):∃ j,seqIndex? i xs.length=some j/\xs[j]?=some v/\j<xs.length/\-(xs.length:Int)<=i/\i<xs.length:=by
 unfold Be at h
 cases e:Fa xs.length i with
 | none=>rw [e] at h; cases h
 | some j=>
  rw [e] at h
  obtain ⟨h1,h2,h3,h4⟩:=Za e
  exact ⟨j,h1,h,h2,h3,h4⟩
theorem DZ {α:Type} {xs:List α} {j:Nat} {v:α} (h:xs[j]?=some v):Be xs (j:Int)=some v:=by
 have hj:j<xs.length:=(List.getElem?_eq_some_iff.mp h).1
 have e:Fa xs.length (j:Int)=some j:=by
  unfold Fa
  rw [if_pos wF,if_pos wF]; simp
 unfold Be; rw [e]; exact h
def Ni (b:Expr):Prop:=∀ o i,subscripted b false o i=operate [o,i] (getItem o i)
def IxR (X:Cx) (r:R2):Prop:=
 ∀ (value slice:Expr) (pins:List (Addr×Obj)) (s:Shared) (σ:St) (H:Hp) (x y:V) (v u:Value) (Q:VK),Inv X pins σ H s->AR x v->AR y u->r x y H Q->
  subscripted slice false v u=operate [v,u] (getItem v u)->wpAny (model X.prog X.w) X.A (subscriptTail value slice v u) (EP X pins σ Q) X.xe s
def Nk (X:Cx) (id:String) (r:V->List V->Hp->VK->Prop):Prop:=
 ∀ (pins:List (Addr×Obj)) (s:Shared) (σ:St) (H:Hp) (x:V) (xs:List V) (v:Value) (us:List Value) (Q:VK),Inv X pins σ H s->AR x v->AD xs us->r x xs H Q->
  wpAny (model X.prog X.w) X.A (call (.builtin id) (v::us)) (EP X pins σ Q) X.xe s
section
variable {X:Cx} {a b:Expr} {ta tb:TE} {pos:Pos}
def Vg (K:PySem.W.Frag):R2:=λx y H Q=>∃ p xs i v,x=.ref p/\y=.int i/\A9 K H p xs/\Be xs i=some v/\Q v H
def Vf (K:PySem.W.Frag):R2:=λx y H Q=>∃ p xs i v,x=.ref p/\y=.int i/\Bv K H p xs/\Be xs i=some v/\Q v H
theorem Y9:IxR X (Vg X.K):=by
 intro value slice pins s σ H x y v u Q I rx ry h hs
 obtain ⟨p,xs,i,z,rfl,rfl,hq,he,q⟩:=h
 cases rx
 obtain ⟨t,rfl⟩:=ry
 obtain ⟨its,r,pl,hz⟩:=I.list hq
 obtain ⟨j,h1,h2,h3,h4,h5⟩:=RO he
 obtain ⟨w,ew,rw'⟩:=r.get h2
 have hl:=r.length
 have hn:=Hi
 have fin:EP X pins σ Q w s:=⟨z,H,I,rw',q⟩
 by_cases h0:0<=i
 ·have hj:i.toNat=j:=by
   rw [seqIndex_of h0 h5] at h1
   exact Option.some.inj h1
  exact item_listR pl.isList h0 wF (by rw [hj]; simpa using ew) fin hs
 ·have hj:(i+(its.toArray.size:Int)).toNat=j:=by
   rw [seqIndex_neg wF h4] at h1
   rw [List.size_toArray,<- hl]
   exact Option.some.inj h1
  exact subscriptTail_builtinR (x:=w) pl.isList.typeIs slot_list_getitem.lookup
   (wpAny_getItem_list_neg (Q:=λr s'=>r=w/\EP X pins σ Q r s') pl.isList wF (by rw [List.size_toArray] <;> omega) wF (by rw [hj]; simpa using ew) ⟨rfl,fin⟩) hs
theorem Y8:IxR X (Vf X.K):=by
 intro value slice pins s σ H x y v u Q I rx ry h hs
 obtain ⟨p,xs,i,z,rfl,rfl,hq,he,q⟩:=h
 cases rx
 obtain ⟨t,rfl⟩:=ry
 obtain ⟨its,r,pl,hz⟩:=I.tuple hq
 obtain ⟨j,h1,h2,h3,h4,h5⟩:=RO he
 obtain ⟨w,ew,rw'⟩:=r.get h2
 have hl:=r.length
 have hn:=Hi
 have fin:EP X pins σ Q w s:=⟨z,H,I,rw',q⟩
 exact subscriptTail_builtinR (x:=w) pl.typeIs slot_tuple_getitem.lookup
  (getItem_tuple (j:=j) (Q:=λr s'=>r=w/\EP X pins σ Q r s') pl wF wF (by rw [List.size_toArray,<- hl]; exact h1) (by simpa using ew) ⟨rfl,fin⟩) hs
theorem TH (lo hi:Option Int) (n:Nat):(sliceBounds lo hi none n).1=((HT.sIx n 0 lo:Nat):Int)/\(sliceBounds lo hi none n).2.1=((HT.sIx n n hi:Nat):Int)/\(sliceBounds lo hi none n).2.2=1:=by
 refine ⟨?_,?_,rfl⟩
 ·cases lo with
  | none=>simp [sliceBounds,HT.sIx]
  | some i=>
   simp only [sliceBounds,HT.sIx,Option.getD_none,show (1:Int)>0 by decide,if_true]
   by_cases h:i<0
   ·simp only [h,if_true] <;> omega
   ·simp only [h,if_false] <;> omega
 ·cases hi with
  | none=>simp [sliceBounds,HT.sIx]
  | some i=>
   simp only [sliceBounds,HT.sIx,Option.getD_none,show (1:Int)>0 by decide,if_true]
   by_cases h:i<0
   ·simp only [h,if_true] <;> omega
   ·simp only [h,if_false] <;> omega
theorem TJ (its:List Value) (lo hi:Option Int):slicePick its.toArray lo hi none=((its.drop (HT.sIx its.length 0 lo)).take (HT.sIx its.length its.length hi-HT.sIx its.length 0 lo)).toArray:=by
 obtain ⟨h1,h2,h3⟩:=TH lo hi its.toArray.size
 unfold slicePick
 rw [h1,h2,h3]
 simp only [sliceRange_one,pick_run,List.size_toArray] <;> rfl
def Vc (K:PySem.W.Frag):V->Option Int->Option Int->Hp->VK->Prop:=λx lo hi H Q=>∃ a xs,x=.ref a/\A9 K H a xs/\∀ p,H p=none->Q (.ref p) (AI H p (.lst (FG xs lo hi)))
theorem TK:SlR X (Vc X.K):=by
 intro pins s σ H x v vl vu lo hi sl Q I rx hs pl pu h
 obtain ⟨a,xs,rfl,hx,q⟩:=h
 cases rx
 obtain ⟨its,r,ht,hz⟩:=I.list hx
 have hlen:=r.length
 refine ⟨"list",_,slot_list_getitem.lookup,ht.isList.typeIs,?_⟩
 refine wpAny_getItem_list_slice ht.isList hs pl pu .none (by simp) ?_ (by rw [List.size_toArray] <;> omega)
 rw [TJ,<- hlen]
 refine ⟨.ref s.heap.objs.size,_,I.laid (t':=s.toks) (o:=.lst (FG xs lo hi)) (λb ob q=>Heap.get?_push_of_some _ q) (Nat.le_refl _) ?_,rfl,q _ (I.hok.fresh (Nat.le_refl _))⟩
 exact ⟨Nat.le_trans (Q0O xs lo hi) hz,_,0,(r.drop (HT.sIx xs.length 0 lo)).take (HT.sIx xs.length xs.length hi-HT.sIx xs.length 0 lo),Heap.get?_push_size _ rfl⟩
def Fb:V->Bool
 | .non=>true
 | .bl _=>true
 | .int _=>true
 | .str _=>true
 | _=>false
def Ff:V->V->Bool
 | .non,.non=>true
 | .bl a,.bl b=>a==b
 | .bl a,.int b=>(if a then 1 else 0)==b
 | .int a,.bl b=>a==(if b then 1 else 0)
 | .int a,.int b=>a==b
 | .str a,.str b=>a==b
 | _,_=>false
theorem Q0x {A:Around} {s:Shared} {y x:V} {u v:Value} (ry:AR y u) (rx:AR x v) (fy:Fb y=true) (fx:Fb x=true):SeqAt.EqAt A s u v (Ff y x):=by
 cases y with
 | non=>
  cases ry
  cases x with
  | non=>cases rx; exact SeqAt.EqAt.same _
  | bl b=>cases rx; exact SeqAt.EqAt.none_bool b
  | int b=>obtain ⟨t,rfl⟩:=rx; exact SeqAt.EqAt.none_int b t
  | str b=>obtain ⟨t,rfl⟩:=rx; exact SeqAt.EqAt.none_str b t
  | _=>exact absurd (show false=true from fx) Bool.false_ne_true
 | bl a=>
  cases ry
  cases x with
  | non=>cases rx; exact SeqAt.EqAt.bool_none a
  | bl b=>cases rx; exact SeqAt.EqAt.bool_bool a b
  | int b=>obtain ⟨t,rfl⟩:=rx; exact SeqAt.EqAt.bool_int a b t
  | str b=>obtain ⟨t,rfl⟩:=rx; exact SeqAt.EqAt.bool_str a b t
  | _=>exact absurd (show false=true from fx) Bool.false_ne_true
 | int a=>
  obtain ⟨t',rfl⟩:=ry
  cases x with
  | non=>cases rx; exact SeqAt.EqAt.int_none a t'
  | bl b=>cases rx; exact SeqAt.EqAt.int_bool a t' b
  | int b=>obtain ⟨t,rfl⟩:=rx; exact SeqAt.EqAt.int_int a t' b t
  | str b=>obtain ⟨t,rfl⟩:=rx; exact SeqAt.EqAt.int_str a t' b t
  | _=>exact absurd (show false=true from fx) Bool.false_ne_true
 | str a=>
  obtain ⟨t',rfl⟩:=ry
  cases x with
  | non=>cases rx; exact SeqAt.EqAt.str_none a t'
  | bl b=>cases rx; exact SeqAt.EqAt.str_bool a t' b
  | int b=>obtain ⟨t,rfl⟩:=rx; exact SeqAt.EqAt.str_int a t' b t
  | str b=>obtain ⟨t,rfl⟩:=rx; exact SeqAt.EqAt.str_str a t' b t
  | _=>exact absurd (show false=true from fx) Bool.false_ne_true
 | _=>exact absurd (show false=true from fy) Bool.false_ne_true
def EF (x:V) (u:Value):Bool:=match u with
 | .none=>Ff .non x
 | .bool b=>Ff (.bl b) x
 | .int i _=>Ff (.int i) x
 | .str z _=>Ff (.str z) x
 | _=>false
theorem Rg {x y:V} {u:Value} (r:AR y u) (f:Fb y=true):EF x u=Ff y x:=by
 cases y with
 | non=>cases r; rfl
 | bl b=>cases r; rfl
 | int i=>obtain ⟨t,rfl⟩:=r; rfl
 | str z=>obtain ⟨t,rfl⟩:=r; rfl
 | _=>exact absurd (show false=true from f) Bool.false_ne_true
theorem Nc {x:V}:∀ {xs:List V} {us:List Value},AD xs us->xs.all Fb=true->us.any (EF x)=xs.any λy=>Ff y x
 | _,_,.nil,_=>rfl
 | y::xs,u::us,.cons r t,f=>by
  rw [List.all_cons,Bool.and_eq_true] at f
  rw [List.any_cons,List.any_cons,Rg r f.1,Nc t f.2]
theorem Mp {A:Around} {s:Shared} {x:V} {v:Value} (rx:AR x v) (fx:Fb x=true):∀ {xs:List V} {us:List Value},AD xs us->xs.all Fb=true->∀ u∈us,SeqAt.EqAt A s u v (EF x u)
 | _,_,.nil,_=>λu hu=>by cases hu
 | y::xs,u::us,.cons r t,f=>λu' hu=>by
  rw [List.all_cons,Bool.and_eq_true] at f
  rcases List.mem_cons.mp hu with rfl | hu
  ·rw [Rg r f.1]; exact Q0x r rx f.1 fx
  ·exact Mp rx fx t f.2 u' hu
def IV (x:V) (xs:List V):Bool:=xs.any λy=>Ff y x
def rIn (K:PySem.W.Frag) (neg:Bool):R2:=λx y H Q=>∃ p xs,y=.ref p/\(A9 K H p xs\/Bv K H p xs)/\Fb x=true/\xs.all Fb=true/\Q (.bl (if neg then !IV x xs else IV x xs)) H
theorem Wm:BQ X (compareOp .In) (rIn X.K false):=by
 intro pins s σ H x y v u Q I rx ry h
 obtain ⟨p,xs,rfl,hq,fx,fs,q⟩:=h
 cases ry
 rcases hq with hq | hq
 ·obtain ⟨its,r,pl,hz⟩:=I.list hq
  refine SeqAt.in_listAt (EF x) pl.isList (λw hw=>Mp rx fx r fs w (by simpa using hw)) ⟨.bl _,H,I,rfl,?_⟩
  rw [show its.toArray.any (EF x)=its.any (EF x) by simp,Nc r fs]
  exact q
 ·obtain ⟨its,r,pl,hz⟩:=I.tuple hq
  refine SeqAt.in_tupleAt (EF x) pl (λw hw=>Mp rx fx r fs w (by simpa using hw)) ⟨.bl _,H,I,rfl,?_⟩
  rw [show its.toArray.any (EF x)=its.any (EF x) by simp,Nc r fs]
  exact q
theorem Q1x:El X (.builtin "len") (λxs H Q=>∃ p ys,xs=[.ref p]/\(A9 X.K H p ys\/Bv X.K H p ys)/\Q (.int ys.length) H):=by
 intro pins s σ H xs us Q I r h
 obtain ⟨p,ys,rfl,hq,q⟩:=h
 obtain ⟨u,rfl,rx⟩:=Dz r
 cases rx
 have hn:=Hi
 rcases hq with hq | hq
 ·obtain ⟨its,r',pl,hz⟩:=I.list hq
  have hlen:=r'.length
  exact Calls.call_len_list pl.isList (by simp only [List.size_toArray] <;> omega) ⟨.int ys.length,H,I.tok _,⟨s.toks+1,by rw [List.size_toArray,hlen]⟩,q⟩
 ·obtain ⟨its,r',pl,hz⟩:=I.tuple hq
  have hlen:=r'.length
  exact len_tuple pl (by simp only [List.size_toArray] <;> omega) ⟨.int ys.length,H,I.tok _,⟨s.toks+1,by rw [List.size_toArray,hlen]⟩,q⟩
theorem Q1w:El X (.builtin "len") (λxs H Q=>∃ z,xs=[.str z]/\z.length<=sizeLine/\Q (.int z.length) H):=by
 intro pins s σ H xs us Q I r h
 obtain ⟨z,rfl,hz,q⟩:=h
 obtain ⟨u,rfl,t,rfl⟩:=Dz r
 have hn:=Hi
 exact len_str wF ⟨.int z.length,H,I.tok _,⟨_,rfl⟩,q⟩
theorem Q1v:El X (.type "list") (λxs H Q=>∃ p ys,xs=[.ref p]/\(A9 X.K H p ys\/Bv X.K H p ys)/\∀ l,H l=none->Q (.ref l) (AI H l (.lst ys))):=by
 intro pins s σ H xs us Q I r h
 obtain ⟨p,ys,rfl,hq,q⟩:=h
 obtain ⟨u,rfl,rx⟩:=Dz r
 cases rx
 have fin:∀ (its:List Value),AD ys its->ys.length<=sizeLine->∀ (h':Heap) (c':Nat),(∀ b o',s.heap.get? b=some o'->h'.get? b=some o')->
   h'.get? s.heap.objs.size=some { cls:=.type "list",dict:=none,data:=.seq its.toArray c',slots:=#[] }->EP X pins σ Q (.ref s.heap.objs.size) { s with heap:=h' }:=λits r' hz h' c' kp e=>
  ⟨.ref s.heap.objs.size,_,I.laid (t':=s.toks) kp (Nat.le_refl _) (show B7 X.prog X.w _ h' _ (.lst ys) from ⟨hz,its,c',r',e⟩),rfl,q _ (I.hok.fresh (Nat.le_refl _))⟩
 rcases hq with hq | hq
 ·obtain ⟨its,r',pl,hz⟩:=I.list hq
  have hlen:=r'.length
  obtain ⟨o,ho,hc,n,hd⟩:=pl.isList
  exact call_list_seq p (.inl rfl) ho hc hd (λh' c' kp e=>fin its r' hz h' c' kp e) (by simp only [List.size_toArray] <;> omega)
 ·obtain ⟨its,r',pl,hz⟩:=I.tuple hq
  have hlen:=r'.length
  obtain ⟨o,ho,hc,n,hd⟩:=pl
  exact call_list_seq p (.inr rfl) ho hc hd (λh' c' kp e=>fin its r' hz h' c' kp e) (by simp only [List.size_toArray] <;> omega)
theorem Q1q:El X (.type "tuple") (λxs H Q=>∃ p ys,xs=[.ref p]/\((A9 X.K H p ys/\∀ l,H l=none->Q (.ref l) (AI H l (.tup ys)))\/(Bv X.K H p ys/\Q (.ref p) H))):=by
 intro pins s σ H xs us Q I r h
 obtain ⟨p,ys,rfl,h⟩:=h
 obtain ⟨u,rfl,rx⟩:=Dz r
 cases rx
 rcases h with ⟨hq,q⟩ | ⟨hq,q⟩
 ·obtain ⟨its,r',pl,hz⟩:=I.list hq
  have hlen:=r'.length
  refine call_tuple_list pl.isList (λh' kp=>?_) (by simp only [List.size_toArray] <;> omega)
  have I1:Inv X pins σ H { s with heap:=h' }:=I.kept (t':=s.toks) kp
  have I2:Inv X pins σ (AI H h'.objs.size (.tup ys)) { s with heap:=h'.push { cls:=.type "tuple",data:=.seq its.toArray } }:=
   I1.laid (t':=s.toks) (λb o e=>Heap.get?_push_of_some _ e) (Nat.le_refl _) (show B7 X.prog X.w _ _ _ (.tup ys) from ⟨hz,its,r',EM.new _ _⟩)
  exact ⟨.ref h'.objs.size,_,I2,rfl,q _ (I1.hok.fresh (Nat.le_refl _))⟩
 ·obtain ⟨its,r',pl,hz⟩:=I.tuple hq
  exact call_tuple_same pl ⟨.ref p,H,I,rfl,q⟩
def tyV (K:PySem.W.Frag) (T:String) (x:V) (H:Hp):Prop:=match x with
 | .str _=>T = "str"
 | .int _=>T = "int"
 | .ref p=>(T = "list" /\ ∃ xs,A9 K H p xs)\/(T = "tuple" /\ ∃ xs,Bv K H p xs) \/
   (T = "dict" /\ ((∃ kvs,H p=some (.dK kvs))\/∃ kvs,H p=some (.dT kvs)))\/(T = "set" /\ ∃ S n,H p=some (.set S n))
 | _=>False
theorem Sy {pins:List (Addr×Obj)} {σ:St} {H:Hp} {s:Shared} {T:String} {x:V} {v:Value} (I:Inv X pins σ H s) (r:AR x v) (ty:tyV X.K T x H) :
  s.TypeIs v T/\∀ a,v=.ref a->∃ ob,s.heap.get? a=some ob/\ob.dict=none:=by
 cases x with
 | str z=>
  obtain ⟨t,rfl⟩:=r
  cases (show T = "str" from ty)
  exact ⟨typeIs_str s z t,λ_ e=>nomatch e⟩
 | int i=>
  obtain ⟨t,rfl⟩:=r
  cases (show T = "int" from ty)
  exact ⟨typeIs_int s i t,λ_ e=>nomatch e⟩
 | ref p=>
  cases r
  rcases ty with ⟨rfl,xs,hq⟩ | ⟨rfl,xs,hq⟩ | ⟨rfl,hk⟩ | ⟨rfl,S,n,hk⟩
  ·obtain ⟨its,_,pl,_⟩:=I.list hq
   refine ⟨pl.isList.typeIs,λa e=>?_⟩
   cases e
   obtain ⟨o,n,e,c,hd,_⟩:=pl
   exact ⟨o,e,hd⟩
  ·obtain ⟨its,_,⟨o,e1,hd,hc,_⟩,_⟩:=I.tupN hq
   refine ⟨⟨o,e1,hc⟩,λa e=>?_⟩
   cases e
   exact ⟨o,e1,hd⟩
  ·have z:∃ o,s.heap.get? p=some o/\o.ExactDict:=by
    rcases hk with ⟨kvs,hk⟩ | ⟨kvs,hk⟩
    ·obtain ⟨_,_,_,_,o,_,_,e,ex,_⟩:=I.hok p _ hk
     exact ⟨o,e,ex⟩
    ·obtain ⟨_,_,_,_,o,_,_,e,ex,_⟩:=I.hok p _ hk
     exact ⟨o,e,ex⟩
   obtain ⟨o,e,ex⟩:=z
   refine ⟨⟨o,e,ex.1⟩,λa e2=>?_⟩
   cases e2
   exact ⟨o,e,ex.2.1⟩
  ·obtain ⟨o,_,_,_,e,ex,_⟩:=I.hok p _ hk
   refine ⟨⟨o,e,ex.1⟩,λa e2=>?_⟩
   cases e2
   exact ⟨o,e,ex.2.1⟩
 | _=>exact False.elim ty
def tBM (K:PySem.W.Frag) (T:String) (r:V->List V->Hp->VK->Prop) (to:TE) (t:TA):TE:=λσ H Q=>to σ H λx H1=>tyV K T x H1/\t σ H1 λxs H2=>r x xs H2 Q
variable {o e:Expr} {es:List Expr} {to:TE} {t:TA} {name:Str} {apos cpos:Pos} {T id:String} {r:V->List V->Hp->VK->Prop}
theorem Mg (pa:PlainAttrs T) (slot:Slot T name id) (hty:typeOf (.builtin id)=pure (.type "method_descriptor")) (hm:Nk X id r) (ho:PE X o to) (ha:PA X (e::es) t)
  (hbase:attributeBase o name X.env (eval o X.env)=eval o X.env:=by rfl)
  (hfew:((backTo cpos (starEach (e::es) X.env)).all (λx=>!x.1)&&(backToKw cpos (keywordEach [] X.env)).all (λx=>x.1.isSome)
   && decide ((e::es).length+([]:List Keyword).length+(if ([]:List Keyword).isEmpty then 0 else 1)<30))=true:=by rfl)
  (hline:(apos.endLine==cpos.line)=true:=by rfl) (hs:starEach (e::es) X.env=(false,eval e X.env)::starEach es X.env:=by rfl) (hplain:(backTo cpos (starEach es X.env)).any (·.1)=false:=by rfl) :
  PE X (.Call (.Attribute o name apos) (e::es) [] cpos) (tBM X.K T r to t):=by
 intro pins s σ H Q I h
 refine wpAny_Call_method_late hbase hfew hline rfl (Az (ho pins s σ H _ I h) λv s1 ⟨x,H1,I1,r1,ty,q1⟩=>?_)
 obtain ⟨h1,h2⟩:=Sy I1 r1 ty
 refine ⟨T,id,pa,slot,hty,h1,h2,?_⟩
 have hA:=ha cpos pins s1 σ H1 _ I1 q1
 rw [hs] at hA ⊢
 refine Calls.callWith_builtin (by show (false||(backTo cpos (starEach es X.env)).any (·.1))=false; rw [hplain] <;> rfl) (Calls.evalArgs_plain ?_)
 exact Az hA λus s2 ⟨vs,H2,I2,r2,q2⟩=>hm pins s2 σ H2 x vs v us Q I2 r1 r2 q2
end
end L2
namespace L2
open PySem PySem.Spec PyProof.Rows
def MtM (X:Cx) (id:String) (r:V->List V->Hp->VK->Prop):Prop:=
 ∀ (pins:List (Addr×Obj)) (s:Shared) (σ:St) (H:Hp) (x:V) (xs:List V) (v:Value) (us:List Value) (Q:VK),Inv X pins σ H s->AR x v->AD xs us->r x xs H Q->
  wpAny (model X.prog X.w) X.A (call (.builtin id) (v::us)) (EP X pins σ Q) X.xe s
theorem AD.one:∀ {x:V} {us:List Value},AD [x] us->∃ u,us=[u]/\AR x u
 | _,_,.cons r .nil=>⟨_,rfl,r⟩
theorem AD.rep {xs:List V} {us:List Value} (h:AD xs us):∀ k:Nat,AD (List.replicate k xs).flatten (List.replicate k us).flatten
 | 0=>.nil
 | k+1=>by
  rw [List.replicate_succ,List.replicate_succ,List.flatten_cons,List.flatten_cons]
  exact AD.append h (AD.rep h k)
theorem QY (its:List Value):∀ (k:Nat) (acc:List Value),
  List.foldl (λx1 x2=>x1++x2) acc.toArray (List.replicate k its.toArray)=(acc++(List.replicate k its).flatten).toArray
 | 0,acc=>by simp
 | k+1,acc=>by
  have e:acc.toArray++its.toArray=(acc++its).toArray:=by simp
  have e2:(acc++its)++(List.replicate k its).flatten=acc++(List.replicate (k+1) its).flatten:=by
   rw [List.replicate_succ,List.flatten_cons,List.append_assoc]
  rw [<- e2,<- QY its k (acc++its),<- e,List.replicate_succ,List.foldl_cons]
section
variable {X:Cx} {pins:List (Addr×Obj)} {σ:St} {H:Hp} {s:Shared} {l b:Addr} {xs ys zs:List V}
theorem Inv.lset {its its':List Value} {n:Nat} {f:Array Value->Array Value} {t':Nat} (I:Inv X pins σ H s) (hH:H l=some (.lst xs))
  (e:s.heap.get? l=some { cls:=.type "list",data:=.seq its.toArray n }) (hf:f its.toArray=its'.toArray) (hv:AD ys its') (hz:ys.length<=sizeLine) :
  Inv X pins σ (AI H l (.lst ys)) { s with heap:=s.heap.update l (Obj.mapSeq f),toks:=t' }:=by
 have q:=PySem.IsL.update e f
 rw [hf] at q
 refine I.write (x:=l) (e:=l) (by rw [hH]; exact trivial) (.inl rfl) (λb' u hb hu=>(Heap.get?_update_other s.heap (Obj.mapSeq f) (Ne.symm hb)).trans hu) ⟨_,q⟩ ?_
 exact ⟨hz,its',_,hv,q⟩
theorem Inv.lnew {its:List Value} {t':Nat} (I:Inv X pins σ H s) (hv:AD ys its) (hz:ys.length<=sizeLine) :
  Inv X pins σ (AI H s.heap.objs.size (.lst ys)) { s with heap:=s.heap.push { cls:=.type "list",data:=.seq its.toArray },toks:=t' }:=
 I.laid (λ_ _ q=>Heap.get?_push_of_some _ q) (Nat.le_refl _) ⟨hz,its,0,hv,Heap.get?_push_size _ rfl⟩
theorem Inv.fresh (I:Inv X pins σ H s):H s.heap.objs.size=none:=I.hok.fresh (Nat.le_refl _)
theorem Inv.lstM (I:Inv X pins σ H s) (hH:H l=some (.lst xs)):xs.length<=sizeLine/\∃ (its:List Value) (n:Nat),AD xs its/\xs.length=its.length/\s.heap.get? l=some { cls:=.type "list",data:=.seq its.toArray n }:=by
 obtain ⟨z,its,n,r,e⟩:=I.hok l _ hH
 exact ⟨z,its,n,r,r.length,e⟩
end
section
variable {X:Cx}
def Vk:V->List V->Hp->VK->Prop:=λx vs H Q=>∃ l xs y,x=.ref l/\vs=[y]/\H l=some (.lst xs)/\xs.length<sizeLine/\Q .non (AI H l (.lst (xs++[y])))
theorem Yz:MtM X "list.append" Vk:=by
 intro pins s σ H x vs v us Q I rx rv h
 obtain ⟨l,xs,y,rfl,rfl,hH,hz,q⟩:=h
 cases rx
 obtain ⟨u,rfl,ru⟩:=rv.one
 obtain ⟨z,its,n,r,hl,e⟩:=I.lstM hH
 refine call_meets F.slot_list_append ⟨_,e,rfl⟩ F.entry_list_append (F.args_list_append_2 _ _) (PySem.list_append l its.toArray n u (by rw [List.size_toArray]; omega)) ⟨e,?_⟩
 refine ⟨.non,_,I.lset (its':=its++[u]) hH e (by simp) (r.append (.cons ru .nil)) ?_,rfl,q⟩
 rw [List.length_append,List.length_singleton]
 omega
def Vj:R2:=λx y H Q=>∃ l b xs zs,x=.ref l/\y=.ref b/\H l=some (.lst xs)/\H b=some (.lst zs)/\xs.length+zs.length<=sizeLine/\∀ p,H p=none->Q (.ref p) (AI H p (.lst (xs++zs)))
theorem Wq:BQ X (binaryOp .Add) Vj:=by
 intro pins s σ H x y v u Q I rx ry h
 obtain ⟨l,b,xs,zs,rfl,rfl,hH,hB,hz,q⟩:=h
 cases rx
 cases ry
 obtain ⟨z,its,n,r,hl,e⟩:=I.lstM hH
 obtain ⟨z2,its2,n2,r2,hl2,e2⟩:=I.lstM hB
 refine PySem.P.add_list e e2 ?_ (by rw [List.size_toArray,List.size_toArray]; omega)
 have ea:its.toArray++its2.toArray=(its++its2).toArray:=by simp
 rw [ea]
 exact ⟨.ref _,_,I.lnew (t':=s.toks) (r.append r2) (by rw [List.length_append]; omega),rfl,q _ I.fresh⟩
theorem QA {α:Type} (xs:List α) (k:Nat):(List.replicate k xs).flatten.length=k*xs.length:=by
 induction k with
 | zero=>simp
 | succ k ih=>rw [List.replicate_succ,List.flatten_cons,List.length_append,ih,Nat.succ_mul,Nat.add_comm]
end
section
variable {prog:Program} {w:World} {A:Around} {E:Value->Shared->Prop} {s:Shared}
end
section
variable {X:Cx}
end
end L2
namespace Att
open PySem PySem.W PySem.Calls PyProof.Rows
theorem Zl {P:Params} {h:Heap}:∀ (ns:List Int) (vs:List Value),WellAll P h vs (ns.map WData.int)->IntsAre vs ns:=by
 intro ns
 induction ns with
 | nil=>
  intro vs w
  rw [List.map_nil] at w
  cases w
  exact .nil
 | cons n ns ih=>
  intro vs w
  rw [List.map_cons] at w
  cases w with
  | cons a b=>
   cases a
   exact .cons _ _ (ih _ b)
theorem TU {l:OpenLaw} {n:Nat} (hn:l.most=some n) {P:Params} {h:Heap} {args:List WData} {vals:List Value}
  (hpre:l.row.toRowW.claim.pre args=true) (hwl:WellAll P h vals args) :
  ∃ a vs ns,vals=[Value.ref a]/\args=[WData.list (ns.map WData.int)]/\h.get? a=some { cls:=.type "list",data:=.seq vs.toArray }/\IntsAre vs ns/\ns.length<=n:=by
 have hsh:WShape.hasAll [] args [.list .int]=true:=(pre_splitW hpre).1
 have hc:l.pre.holds [] { args:=args }=true:=(pre_splitW hpre).2
 obtain ⟨d,r,rfl,h1,h2⟩:=hasAllW_cons hsh
 obtain rfl:=hasAllW_nil h2
 obtain ⟨xs,rfl,h3⟩:=hasW_list h1
 obtain ⟨ns,rfl⟩:=items_int h3
 have hlen:ns.length<=n:=by
  unfold OpenLaw.pre at hc
  have h4:(WTm.not (.lt (.lit (.int (n:Int))) (.len (.arg 0)))).holds [] { args:=[.list (ns.map .int)] }=true:=by
   have h4:=(holds_andW hc).1
   rw [hn] at h4
   exact h4
  have h5:=condW_of h4 (w_not (w_lt w_lit (w_len_list (w_arg rfl))))
  rw [List.length_map] at h5
  refine Nat.le_of_not_lt λq=>?_
  have q':(n:Int)<((ns.length:Nat):Int):=by omega
  first
   | (rw [decide_eq_true q'] at h5; exact absurd h5 wE)
   | (simp at h5; omega)
 cases hwl with
 | cons w1 w2=>
  cases w2
  cases w1 with
  | list ho hall=>exact ⟨_,_,ns,rfl,rfl,ho,Zl ns _ hall,hlen⟩
theorem VH (l:OpenLaw) (args:List WData):l.row.toRowW.claim.post args (.bool true) args=true:=
 postW_of (r:=l.row.toRowW) (X:=(true==true))
  (show WShape.has [] (.bool true) .bool=true by first | rfl | decide | simp [WShape.has,WShape.arms,WShape.armsAll])
  (show (WTm.eq .res (.lit (.bool true))).value [] { args:=args,res:=some (.bool true),after:=args }=some (.bool (true==true)) from w_eq_bool (w_res rfl) w_lit) rfl
theorem attach_call {l:OpenLaw} {n:Nat} {q:Program} {loose:List Str} {XP:(Str->Option Value)->Heap->Prop} {YP:World->Heap->Prop} {d:DefRec}
  (hn:l.most=some n) (hdf:d.params.defaults=[])
  (call:∀ (w:World) (s₀ s₁:Shared) (mg mb:Str->Option Value) (fa:Addr) (o:Obj) (pm cd doc:Value) (a:Addr) (vs:List Value) (ns:List Int),
   Ground q loose [] XP w s₀ mg mb s₁.heap->YP w s₁.heap->
   s₁.heap.get? fa=some o->o.data=.func (docDef d.name d.params d.body d.scope pm cd doc)->s₁.heap.CodeRec cd d.name->mg d.name=some (.ref fa)->
   s₁.heap.get? a=some { cls:=.type "list",data:=.seq vs.toArray }->IntsAre vs ns->ns.length<=n->s₁.gens=#[]->
   codeAny (model l.prog w) callerA (.call (.ref fa) ⟨[.ref a],[]⟩) (λr s'=>r=.ok (.ret (.bool true))/\OldK s₁.heap s'.heap/\s'.os=s₁.os/\AllBare s'.gens) s₁) :
  WalkO q loose XP YP l.row.toRowW d [] (λf vs=>PySem.call f vs):=by
 intro w s₀ s₁ mg mb G Y fa o pm cd doc dV kV ho hd hcd hD hmg hg args vals as hpre hlay hrd hwl hlo
 obtain rfl:dV=.none:=Dflts.none hD hdf
 obtain rfl:kV=.none:=Dflts.noKw hD
 obtain ⟨a,vs,ns,rfl,rfl,hobj,hints,hlen⟩:=TU hn hpre hwl
 refine enter_call (codeAny_mono (call w s₀ s₁ mg mb fa o pm cd doc a vs ns G Y ho (fd_plain hd) hcd hmg hobj hints hlen hg) λr s' hq=>?_)
 obtain ⟨rfl,h2,h3,h4⟩:=hq
 exact ⟨.inl ⟨.bool true,.bool true,[],rfl,λ_=>rfl,.bool true,VH l _,λ_=>⟨List.Pairwise.nil,λ_ hm=>(nomatch hm)⟩⟩,h2,h3,h4⟩
section
variable {prog:Program} {w:World} {A:Around} {E:Value->Shared->Prop} {s:Shared} {K:Frag}
end
end Att
namespace L2
open PySem PySem.Spec PyProof.Rows
theorem NN:∀ {vs:List Value} {ns:List Int},IntsAre vs ns->AD (ns.map V.int) vs
 | _,_,.nil=>.nil
 | _,_,.cons n t h=>.cons ⟨t,rfl⟩ (NN h)
def Nj (H:Hp):Prop:=∀ b,H b=none\/∃ o xs,H b=some (.frz o (.lst xs))
theorem YY {P:Program} {w:World} {K:PySem.W.Frag} {mg mb:Str->Option Value} {CX:Ds} {k:Nat} {fa a:Addr} {fd:FuncData} {x:Str} {sp:Sp} {s₁:Shared} {vs:List Value} {ns:List Int}
  (KX:K.In s₁.heap) (hns:s₁.heap.Ns mainGlobals mg) (hb:s₁.heap.Ns builtinsNs mb) (hbb:∀ x:Str,x ≠ "__name__" -> mb x=bootBuiltins x) (hlim:s₁.heap.NoLimit) (hg:s₁.gens=#[])
  (ha:s₁.heap.get? a=some { cls:=.type "list",data:=.seq vs.toArray }) (hi:IntsAre vs ns) (hl:ns.length<=sizeLine) (hr:AL k callerA)
  (F:∀ base:Heap,K.In base->base.Ns mainGlobals mg->AM P w K mg base CX k fa fd [x] sp) (hbind:∀ (s:Shared) (u:Value),BindsTo s fd ⟨[u],[]⟩ [(x,u)])
  (hsp:∀ H:Hp,Nj H->A9 K H a (ns.map V.int)->sp [.ref a] H (λv _=>v=.bl true) λ_ _ _=>False)
  (hCX:∀ H e s',CX [] H s₁ (λ_ _ _=>False) e s'->False) :
  codeAny (model P w) callerA (.call (.ref fa) ⟨[.ref a],[]⟩) (λr s'=>r=.ok (.ret (.bool true))/\OldK s₁.heap s'.heap/\s'.os=s₁.os/\AllBare s'.gens) s₁:=by
 have rv:=NN hi
 have lenV:=hi.length
 -- from an abstract heap in which nothing but the script may be tracked
 have core:∀ H:Hp,Nj H->A9 K H a (ns.map V.int)->A3 P w H s₁.heap->(∀ b,H b≠none->b=a)->(H a≠none->K.lookup a=none)->
   codeAny (model P w) callerA (.call (.ref fa) ⟨[.ref a],[]⟩) (λr s'=>r=.ok (.ret (.bool true))/\OldK s₁.heap s'.heap/\s'.os=s₁.os/\AllBare s'.gens) s₁:=by
  intro H hO hS hok hA hK
  have base_of:∀ {b:Addr} {o:Obj},s₁.heap.get? b=some o->H b=none->(EB s₁.heap H).get? b=some o:=λe n=>ZA e n
  have noA:∀ {b:Addr} {o:Obj} {es:Array DictEntry} {ep:Nat},s₁.heap.get? b=some o->o.data=.dict es ep->H b=none:=λ{b o es ep} e d=>by
   cases q:H b with
   | none=>rfl
   | some u=>
    have e':b=a:=hA b (by rw [q]; simp)
    subst e'
    rw [ha] at e; cases e
    have d':Data.seq vs.toArray _=Data.dict es ep:=d
    cases d'
  have nsK:∀ {b:Addr} {m:Str->Option Value},s₁.heap.Ns b m->(EB s₁.heap H).Ns b m:=λ{b m} ⟨o,es,ep,e,d,r⟩=>⟨o,es,ep,base_of e (noA e d),d,r⟩
  have hKb:K.In (EB s₁.heap H):=λb o e=>base_of (KX b o e) (by
   cases q:H b with
   | none=>rfl
   | some u=>
    have e':b=a:=hA b (by rw [q]; simp)
    subst e'
    rw [hK (by rw [q]; simp)] at e; cases e)
  have hM:Mod K mg (EB s₁.heap H):=⟨hKb,nsK hns,⟨mb,nsK hb,hbb⟩,let ⟨mc,h1,h2⟩:=hlim; ⟨mc,nsK h1,h2⟩⟩
  have e0:FP P w K mg (EB s₁.heap H) callerA [] s₁ H:=⟨rfl,hM,λb o e=>X9 e,Nat.le_of_eq (Zz _ _),trivial,λb hb=>absurd (show b∈([]:List Addr) from hb) (by simp),hok,.of_eq hg⟩
  refine codeAny_mono ((F _ hKb (nsK hns)).run callerA [] s₁ H ⟨[.ref a],[]⟩ [.ref a] [.ref a] _ _ hr e0 (hbind s₁ (.ref a)) (.cons rfl .nil) (hsp H hO hS)) λr s' h=>?_
  cases r with
  | error e=>exact (hCX H e s' h).elim
  | ok fl=>
   cases fl with
   | next=>exact False.elim h
   | brk=>exact False.elim h
   | cont=>exact False.elim h
   | ret u=>
    obtain ⟨v,H',os,bare,un,hok',r',q⟩:=h
    have q':v=.bl true:=q
    subst q'
    obtain rfl:u=Value.bool true:=r'
    refine ⟨rfl,OldK.of_keep λb o e=>?_,os,bare⟩
    cases q:H b with
    | none=>exact un.keep b o e q (by intro z; exact absurd (show b∈([]:List Addr) from z) (by simp)) (by simp)
    | some u=>
     rcases hO b with z | ⟨ob,xs,z⟩
     ·rw [q] at z; cases z
     ·have z2:=un.frzs b ob _ z
      obtain ⟨e1,_⟩:=hok b _ z
      obtain ⟨e2,_⟩:=hok' b _ z2
      rw [e] at e1; cases e1
      exact e2
 cases hk:K.lookup a with
 | some o=>
  -- the script is one of the module's own objects
  have e:=KX a o hk
  rw [ha] at e
  cases e
  refine core (λ_=>none) (λ_=>.inl rfl) (.inr ⟨_,vs.toArray,_,hk,rfl,rfl,rfl,by rw [List.size_toArray,lenV]; exact hl,by simpa using rv⟩) (λb u z=>by have z':(none:Option HO)=some u:=z; cases z') (λb z=>absurd rfl z) λz=>absurd rfl z
 | none=>
  refine core (λb=>if b=a then some (.frz { cls:=.type "list",data:=.seq vs.toArray } (.lst (ns.map V.int))) else none) (λb=>?_) (.inl (.inr ⟨{ cls:=.type "list",data:=.seq vs.toArray },if_pos rfl⟩)) (λb u z=>?_) (λb z=>?_) λ_=>hk
  ·by_cases hb:b=a
   ·exact .inr ⟨_,_,if_pos hb⟩
   ·exact .inl (if_neg hb)
  ·by_cases hb:b=a
   ·have z':=(if_pos hb).symm.trans z
    cases z'
    subst hb
    exact ⟨ha,by rw [List.length_map]; exact hl,vs,_,rv,ha⟩
   ·have z':=(if_neg hb).symm.trans z
    cases z'
  ·by_cases hb:b=a
   ·exact hb
   ·exact absurd (if_neg hb) z
end L2
namespace L2
open PySem PySem.Spec PyProof.Rows
theorem walk_of {l:PySem.W.OpenLaw} {n k:Nat} {q:Program} {loose:List Str} {XP:(Str->Option Value)->Heap->Prop} {YP:World->Heap->Prop} {d:DefRec} {K:Params->PySem.W.Frag} {CX:World->Ds} {sp:World->Sp} {x:Str}
  (hn:l.most=some n) (hn2:n<=sizeLine) (hdf:d.params.defaults=[]) (hr:AL k callerA)
  (hY:∀ (w:World) (h:Heap),YP w h->(K w.params).In h)
  (F:∀ (w:World) (mg:Str->Option Value) (fa:Addr) (h:Heap),(K w.params).In h->h.Ns mainGlobals mg->mg d.name=some (.ref fa)->
   ∃ fd:FuncData,(∀ (s:Shared) (u:Value),BindsTo s fd ⟨[u],[]⟩ [(x,u)]) /\
    ∀ base:Heap,(K w.params).In base->base.Ns mainGlobals mg->AM l.prog w (K w.params) mg base (CX w) k fa fd [x] (sp w))
  (hsp:∀ (w:World) (H:Hp) (a:Addr) (ns:List Int),ns.length<=n->Nj H->A9 (K w.params) H a (ns.map V.int)->sp w [.ref a] H (λv _=>v=.bl true) λ_ _ _=>False)
  (hCX:∀ (w:World) (H:Hp) (s:Shared) (e:Value) (s':Shared),CX w [] H s (λ_ _ _=>False) e s'->False) :
  PySem.W.WalkO q loose XP YP l.row.toRowW d [] (λf vs=>PySem.call f vs):=by
 refine Att.attach_call hn hdf λw s₀ s₁ mg mb fa o pm cd doc a vs ns G Y ho hd hcd hmg hobj hints hlen hg=>?_
 have KX:=hY w _ Y
 obtain ⟨fd,hb,hF⟩:=F w mg fa _ KX G.T.g hmg
 exact YY KX G.T.g G.T.b G.T.builtins G.T.nolimit hg hobj hints (Nat.le_trans hlen hn2) hr hF hb (λH hO hS=>hsp w H a ns hlen hO hS) λH e s'=>hCX w H s₁ e s'
end L2
namespace L2
open PySem PySem.Spec PyProof.Rows
def Bj (s:Stmt) (j:Nat):Stmt:=match s with
 | .ClassDef _ _ _ body _ _ _ _ _ _ _=>body.getD j (.Pass ⟨0,0,0,0⟩)
 | _=>.Pass ⟨0,0,0,0⟩
def Dw (s:Stmt):Arguments:=match s with
 | .FunctionDef _ a _ _ _ _ _ _ _ _=>a
 | _=>{ posonlyargs:=[],args:=[],vararg:=none,kwonlyargs:=[],kw_defaults:=[],kwarg:=none,defaults:=[] }
def CQ (s:Stmt):List Stmt:=match s with
 | .FunctionDef _ _ b _ _ _ _ _ _ _=>b
 | _=>[]
def An (s:Stmt):Scope:=match s with
 | .FunctionDef _ _ _ _ _ _ sc _ _ _=>sc
 | _=>{ kind:=.function,names:=[],isGenerator:=false,isCoroutine:=false }
abbrev AQ:Ds:=λ_ _ _ _ _ _=>False
abbrev E0:XK:=λ_ _ _=>False
theorem Gf {X:Cx}:FL AQ X E0:=λ_ _ _ _ _ _ _ h=>h.elim
structure As (K:PySem.W.Frag) (x qual:Str) (st:Stmt) (f:Addr) (fd:FuncData):Prop where
 ex:∃ (oc:Value) (od:Option Addr) (kV doc pm:Value) (an:Option Addr) (cdv ct:Value) (osl:Array (Option Value)),
  fd=PySem.W.fnOf x qual (Dw st) (CQ st) (An st) .none kV doc pm an cdv ct/\K.lookup f=some ⟨oc,od,.func fd,osl⟩/\PySem.W.codeIn K cdv qual=true
 kp:PySem.W.keepIn K (.ref f)=true
section
variable {P:Program} {w:World} {K:PySem.W.Frag} {mg:Str->Option Value} {base:Heap}
theorem As.ok {x qual:Str} {st:Stmt} {f:Addr} {fd:FuncData} {N ps:List Str} {k:Nat} {sp:Sp} (F:As K x qual st f fd) (S:Av N ps (An st)) (len:∀ vs H Q E,sp vs H Q E->vs.length=ps.length)
  (hbody:∀ (cdv:Value) (A:Around) (outer:List Env) (s:Shared) (H:Hp) (vs:List V) (Q:VK) (E:XK),AL k (A.deeper (envOfC qual (An st) s.heap.objs.size f cdv))->sp vs H Q E->
   ∃ t,PSs (EH AQ P w K mg base N qual (An st) f cdv A outer s H E).nox (CQ st) t/\t { nx:=λ_ H'=>Q .non H',rt:=Q } (start N vs) H):AM P w K mg base AQ (k+1) f fd ps sp:=by
 obtain ⟨oc,od,kV,doc,pm,an,cdv,ct,osl,rfl,lk,hcd⟩:=F.ex
 refine QZ lk hcd S len λA outer s H vs Q E hr hsp=>?_
 obtain ⟨t,h,q⟩:=hbody cdv A outer s H vs Q E hr hsp
 exact ⟨t,h.nox,q⟩
theorem As.binds {x qual:Str} {st:Stmt} {f:Addr} {fd:FuncData} {ps:List Str} (F:As K x qual st f fd)
  (h:∀ (kV doc pm:Value) (an:Option Addr) (cdv ct:Value) (us:List Value),us.length=ps.length->bindArgs (PySem.W.fnOf x qual (Dw st) (CQ st) (An st) .none kV doc pm an cdv ct) ⟨us,[]⟩=pure (ps.zip us)):Binds K fd ps []:=by
 obtain ⟨oc,od,kV,doc,pm,an,cdv,ct,osl,rfl,lk,hcd⟩:=F.ex
 exact .all (h kV doc pm an cdv ct)
theorem QW {x qual:Str} {st:Stmt} {f:Addr} {oc:Value} {od an:Option Addr} {osl:Array (Option Value)} {kV doc pm cdv ct:Value} (l:K.lookup f=some ⟨oc,od,.func (PySem.W.fnOf x qual (Dw st) (CQ st) (An st) .none kV doc pm an cdv ct),osl⟩)
  (c:PySem.W.codeIn K cdv qual=true) (k:PySem.W.keepIn K (.ref f)=true):As K x qual st f (PySem.W.fnOf x qual (Dw st) (CQ st) (An st) .none kV doc pm an cdv ct):=⟨⟨oc,od,kV,doc,pm,an,cdv,ct,osl,rfl,l,c⟩,k⟩
end
theorem Zw {A:Around} {k:Nat} (hr:AL k A):A.units+1<cLine:=Nat.lt_of_le_of_lt (Nat.add_le_add_left (by decide:1<=64) _) hr.units
section
variable {X:Cx}
end
theorem IS {A B:Prop} (h:B):if false=true then A else B:=by
 rw [if_neg Bool.false_ne_true]
 exact h
theorem IR {A B:Prop} (h:A):if true=true then A else B:=by
 rw [if_pos rfl]
 exact h
def BB (H H':Hp):Prop:=∀ b o,H b=some o->H' b=some o
theorem BB.refl (H:Hp):BB H H:=λ_ _ h=>h
theorem BB.trans {H H1 H2:Hp} (a:BB H H1) (b:BB H1 H2):BB H H2:=λc o h=>b c o (a c o h)
theorem BB.free {H H':Hp} (e:BB H H') {l:Addr} (h:H' l=Option.none):H l=Option.none:=by
 cases q:H l with
 | none=>rfl
 | some o=>
  rw [e l o q] at h
  cases h
theorem BB.seq {K:PySem.W.Frag} {H H':Hp} {a:Addr} {xs:List V} (e:BB H H') (h:A9 K H a xs):A9 K H' a xs:=by
 rcases h with (h | ⟨o,h⟩) | h
 ·exact .inl (.inl (e _ _ h))
 ·exact .inl (.inr ⟨o,e _ _ h⟩)
 ·exact .inr h
end L2
namespace L2
open PySem PySem.Spec PyProof.Rows
section
variable {κ:Type} [DecidableEq κ]
end
section
variable {P:Program} {w:World} {H:Hp} {h:Heap} {a:Addr}
end
section
variable {X:Cx} {pins:List (Addr×Obj)} {σ:St} {H:Hp} {s:Shared} {a:Addr} {y v:V} {u r:Value} {o:Option V} {A:Around} {E:Value->Shared->Prop}
end
section
variable {X:Cx} {pins:List (Addr×Obj)} {σ:St} {H:Hp} {s:Shared} {a:Addr} {kvs:List (AY×V)} {k:AY} {u:Value} {A:Around} {E:Value->Shared->Prop}
end
section
variable {X:Cx} {o i e value:Expr} {pos pos' tpos:Pos} {td ty tv:TE}
end
section
variable {X:Cx} {pos:Pos}
end
def SZ:List (TE×TE)->St->Hp->(List (V×V)->Hp->Prop)->Prop
 | [],_,H,Q=>Q [] H
 | (tk,tv)::r,σ,H,Q=>tk σ H λx H1=>tv σ H1 λy H2=>SZ r σ H2 λps H3=>Q ((x,y)::ps) H3
structure M1 (X:Cx) (o:Expr) (m:Str) (apos:Pos) (e:Expr) (cpos:Pos):Prop where
 base:attributeBase o m X.env (eval o X.env)=eval o X.env
 ME:((backTo cpos (starEach [e] X.env)).all (λx=>!x.1)&&(backToKw cpos (keywordEach [] X.env)).all (λx=>x.1.isSome)
  && decide (([e]:List Expr).length+([]:List Keyword).length+(if ([]:List Keyword).isEmpty then 0 else 1)<30))=true
 line:(apos.endLine==cpos.line)=true
 trees:backTo cpos (starEach [e] X.env)=[(false,eval e X.env)]
structure M2 (X:Cx) (o:Expr) (m:Str) (apos:Pos) (e f:Expr) (cpos:Pos):Prop where
 base:attributeBase o m X.env (eval o X.env)=eval o X.env
 ME:((backTo cpos (starEach [e,f] X.env)).all (λx=>!x.1)&&(backToKw cpos (keywordEach [] X.env)).all (λx=>x.1.isSome)
  && decide (([e,f]:List Expr).length+([]:List Keyword).length+(if ([]:List Keyword).isEmpty then 0 else 1)<30))=true
 line:(apos.endLine==cpos.line)=true
 trees:backTo cpos (starEach [e,f] X.env)=[(false,eval e X.env),(false,eval f X.env)]
section
variable {X:Cx} {pins:List (Addr×Obj)} {σ:St} {H:Hp} {s:Shared} {a:Addr} {y d:V} {u r:Value} {o:Option V} {A:Around} {E:Value->Shared->Prop}
end
section
variable {X:Cx} {o e f:Expr} {apos cpos:Pos} {td ty tx:TE}
end
section
variable {X:Cx} {pins:List (Addr×Obj)} {σ:St} {H:Hp} {s:Shared} {a:Addr} {kvs:List (AY×V)} {A:Around} {E:Value->Shared->Prop}
end
section
variable {X:Cx} {pins:List (Addr×Obj)} {σ:St} {H:Hp} {s:Shared} {a:Addr} {y:V} {u:Value} {A:Around} {E:Value->Shared->Prop}
end
section
variable {X:Cx}
end
section
variable {κ:Type} [DecidableEq κ]
end
end L2
namespace DL
open PySem PySem.Spec PyProof.Rows L2
inductive D where
 | non | bl (b:Bool) | int (i:Int) | str (x:Str) | tup (xs:List D) | lst (xs:List D) | scr (xs:List D) | ptr (n:Nat) | ty (n:String) | fn (a:Addr) | dct (ks:List AY) (xs:List D)
structure Wd where
 g:Hp
 l:List Addr
structure Ag (G G':Wd):Prop where
 g:BB G.g G'.g
 l:∃ t,G'.l=G.l++t
theorem Ag.refl (G:Wd):Ag G G:=⟨BB.refl _,[],(List.append_nil _).symm⟩
theorem Ag.trans {G G' G'':Wd} (a:Ag G G') (b:Ag G' G''):Ag G G'':=⟨a.g.trans b.g,by
 obtain ⟨t,e⟩:=a.l; obtain ⟨u,e'⟩:=b.l; exact ⟨t++u,by rw [e',e,List.append_assoc]⟩⟩
theorem Ag.at {G G':Wd} {n:Nat} {a:Addr} (e:Ag G G') (h:G.l[n]?=some a):G'.l[n]?=some a:=by
 obtain ⟨t,e⟩:=e.l
 rw [e,List.getElem?_append_left (List.getElem?_eq_some_iff.mp h).1,h]
mutual
inductive Is (K:PySem.W.Frag) (G:Wd):D->V->Prop
 | non:Is K G .non .non
 | bl (b:Bool):Is K G (.bl b) (.bl b)
 | int (i:Int):Is K G (.int i) (.int i)
 | str (x:Str):Is K G (.str x) (.str x)
 | tup {a:Addr} {ds:List D} {vs:List V} (h:Bv K G.g a vs) (r:Am K G ds vs):Is K G (.tup ds) (.ref a)
 | lst {a:Addr} {ds:List D} {vs:List V} (h:G.g a=some (.lst vs)) (r:Am K G ds vs):Is K G (.lst ds) (.ref a)
 | scr {a:Addr} {ds:List D} {vs:List V} (h:A9 K G.g a vs) (r:Am K G ds vs):Is K G (.scr ds) (.ref a)
 | ptr {a:Addr} (n:Nat) (h:G.l[n]?=some a):Is K G (.ptr n) (.ref a)
 | ty (n:String):Is K G (.ty n) (.ty n)
 | fn (a:Addr):Is K G (.fn a) (.ref a)
 | dct {a:Addr} {ks:List AY} {ds:List D} {vs:List V} {ob:Obj} (h:G.g a=some (.frz ob (.dK (ks.zip vs)))) (hl:ks.length=vs.length) (r:Am K G ds vs):Is K G (.dct ks ds) (.ref a)
inductive Am (K:PySem.W.Frag) (G:Wd):List D->List V->Prop
 | nil:Am K G [] []
 | cons {d:D} {v:V} {ds:List D} {vs:List V} (h:Is K G d v) (r:Am K G ds vs):Am K G (d::ds) (v::vs)
end
theorem DB {K:PySem.W.Frag} {H H':Hp} {a:Addr} {xs:List V} (e:BB H H') (h:Bv K H a xs):Bv K H' a xs:=by
 rcases h with (h | ⟨o,h⟩) | h
 ·exact .inl (.inl (e _ _ h))
 ·exact .inl (.inr ⟨o,e _ _ h⟩)
 ·exact .inr h
mutual
theorem Is.ext {K:PySem.W.Frag} {G G':Wd} (e:Ag G G'):∀ {d:D} {v:V},Is K G d v->Is K G' d v
 | _,_,.non=>.non
 | _,_,.bl b=>.bl b
 | _,_,.int i=>.int i
 | _,_,.str x=>.str x
 | _,_,.tup h r=>.tup (DB e.g h) (Am.ext e r)
 | _,_,.lst h r=>.lst (e.g _ _ h) (Am.ext e r)
 | _,_,.scr h r=>.scr (e.g.seq h) (Am.ext e r)
 | _,_,.ptr n h=>.ptr n (e.at h)
 | _,_,.ty n=>.ty n
 | _,_,.fn n=>.fn n
 | _,_,.dct h hl r=>.dct (e.g _ _ h) hl (Am.ext e r)
theorem Am.ext {K:PySem.W.Frag} {G G':Wd} (e:Ag G G'):∀ {ds:List D} {vs:List V},Am K G ds vs->Am K G' ds vs
 | _,_,.nil=>.nil
 | _,_,.cons h r=>.cons (Is.ext e h) (Am.ext e r)
end
section
variable {K:PySem.W.Frag} {G G':Wd}
theorem Am.length:∀ {ds:List D} {vs:List V},Am K G ds vs->ds.length=vs.length
 | _,_,.nil=>rfl
 | _,_,.cons _ r=>by rw [List.length_cons,List.length_cons,r.length]
theorem Am.append:∀ {ds es:List D} {vs us:List V},Am K G ds vs->Am K G es us->Am K G (ds++es) (vs++us)
 | _,_,_,_,.nil,q=>q
 | _,_,_,_,.cons h r,q=>.cons h (Am.append r q)
theorem Am.get:∀ {ds:List D} {vs:List V} {i:Nat} {d:D},Am K G ds vs->ds[i]?=some d->∃ v,vs[i]?=some v/\Is K G d v
 | _,_,_,_,.nil,e=>by simp at e
 | _,_,0,_,.cons h r,e=>by simp at e; subst e; exact ⟨_,rfl,h⟩
 | _,_,i+1,d,.cons h r,e=>by
  obtain ⟨v,e1,h1⟩:=Am.get (i:=i) (d:=d) r (by simpa using e)
  exact ⟨v,by simpa using e1,h1⟩
theorem Am.getV:∀ {ds:List D} {vs:List V} {i:Nat} {v:V},Am K G ds vs->vs[i]?=some v->∃ d,ds[i]?=some d/\Is K G d v
 | _,_,_,_,.nil,e=>by simp at e
 | _,_,0,_,.cons h r,e=>by simp at e; subst e; exact ⟨_,rfl,h⟩
 | _,_,i+1,d,.cons h r,e=>by
  obtain ⟨v,e1,h1⟩:=Am.getV (i:=i) (v:=d) r (by simpa using e)
  exact ⟨v,by simpa using e1,h1⟩
theorem Am.take:∀ {ds:List D} {vs:List V} (n:Nat),Am K G ds vs->Am K G (ds.take n) (vs.take n)
 | _,_,0,_=>.nil
 | _,_,_+1,.nil=>.nil
 | _,_,n+1,.cons h r=>.cons h (Am.take n r)
theorem Am.drop:∀ {ds:List D} {vs:List V} (n:Nat),Am K G ds vs->Am K G (ds.drop n) (vs.drop n)
 | _,_,0,h=>h
 | _,_,_+1,.nil=>.nil
 | _,_,n+1,.cons h r=>Am.drop n r
theorem Am.ints:∀ {ns:List Int},Am K G (ns.map D.int) (ns.map V.int)
 | []=>.nil
 | n::ns=>.cons (.int n) (Am.ints (ns:=ns))
theorem Am.toInts:∀ {ns:List Int} {vs:List V},Am K G (ns.map D.int) vs->vs=ns.map V.int
 | [],_,.nil=>rfl
 | n::ns,_,.cons h r=>by cases h; rw [Am.toInts r]; rfl
end
def _root_.L2.ctxOf (o:Obj):Option Value:=match o.data with | .fields vs=>vs[2]? | _=>none
inductive MO where
 | lst (xs:List D)
 | ins (C:Addr) (fs:List (Str×D))
 | exc (C:Addr) (fs:List (Str×D)) (h:Option Addr:=none)
 | dct (ks:List AY) (xs:List D)
 | pin (ob:Obj) (vs:List V) (ks:List AY) (xs:List D)
abbrev Af:=List (Option MO)
inductive BE (K:PySem.W.Frag) (G:Wd):List (Str×D)->List (Str×V)->Prop
 | nil:BE K G [] []
 | cons {f:Str} {d:D} {v:V} {fs:List (Str×D)} {vs:List (Str×V)} (h:Is K G d v) (r:BE K G fs vs):BE K G ((f,d)::fs) ((f,v)::vs)
theorem BE.ext {K:PySem.W.Frag} {G G':Wd} (e:Ag G G'):∀ {fs:List (Str×D)} {vs:List (Str×V)},BE K G fs vs->BE K G' fs vs
 | _,_,.nil=>.nil
 | _,_,.cons h r=>.cons (h.ext e) (BE.ext e r)
def C4 (K:PySem.W.Frag) (G:Wd) (H:Hp) (p:Addr):MO->Prop
 | .lst xs=>∃ vs,H p=some (.lst vs)/\Am K G xs vs
 | .ins C fs=>∃ dx vs,H p=some (.ins C dx vs)/\BE K G fs vs
 | .exc C fs h=>∃ ob,H p=some (.ext λh=>h.get? p=some ob)/\(ob.cls=.ref C/\∃ ws,ob.data=.fields ws)/\(fs=[]\/∃ dx vs,ob.dict=some dx/\G.g dx=some (.xd vs)/\BE K G fs vs)/\∀ a,h=some a->p=a/\L2.ctxOf ob=some .none
 | .dct ks xs=>∃ vs,H p=some (.dK (ks.zip vs))/\ks.length=vs.length/\Am K G xs vs
 | .pin ob vs ks xs=>H p=some (.frz ob (.dK (ks.zip vs)))/\ks.length=vs.length/\Am K G xs vs
structure SA (K:PySem.W.Frag) (G:Wd) (H:Hp) (O:Af):Prop where
 sub:BB G.g H
 len:G.l.length=O.length
 nd:G.l.Nodup
 liv:∀ a∈G.l,∃ o,H a=some o
 mt:∀ (n:Nat) (m:MO),O[n]?=some (some m)->∃ a,G.l[n]?=some a/\G.g a=none/\C4 K G H a m
section
variable {K:PySem.W.Frag} {G G':Wd} {H H':Hp} {O:Af}
theorem C4.ext {p:Addr} {m:MO} (e:Ag G G') (q:H' p=H p) (h:C4 K G H p m):C4 K G' H' p m:=by
 cases m with
 | lst xs=>obtain ⟨vs,h1,h2⟩:=h; exact ⟨vs,by rw [q]; exact h1,h2.ext e⟩
 | ins C fs=>obtain ⟨dx,vs,h1,h2⟩:=h; exact ⟨dx,vs,by rw [q]; exact h1,h2.ext e⟩
 | exc C fs ha=>
  obtain ⟨ob,h1,h2,h3,h4⟩:=h
  refine ⟨ob,by rw [q]; exact h1,h2,h3.imp id ?_,h4⟩
  rintro ⟨dx,vs,a1,a2,a3⟩
  exact ⟨dx,vs,a1,e.g _ _ a2,a3.ext e⟩
 | dct ks xs=>obtain ⟨vs,h1,hl,h2⟩:=h; exact ⟨vs,by rw [q]; exact h1,hl,h2.ext e⟩
 | pin ob vs ks xs=>obtain ⟨h1,hl,h2⟩:=h; exact ⟨by rw [q]; exact h1,hl,h2.ext e⟩
theorem C4.some {p:Addr} {m:MO} (h:C4 K G H p m):∃ o,H p=some o:=by
 cases m with
 | lst xs=>obtain ⟨vs,h1,h2⟩:=h; exact ⟨_,h1⟩
 | ins C fs=>obtain ⟨dx,vs,h1,h2⟩:=h; exact ⟨_,h1⟩
 | exc C fs ha=>obtain ⟨ob,h1,_⟩:=h; exact ⟨_,h1⟩
 | dct ks xs=>obtain ⟨vs,h1,_⟩:=h; exact ⟨_,h1⟩
 | pin ob vs ks xs=>exact ⟨_,h.1⟩
theorem SA.free {p:Addr} (s:SA K G H O) (h:H p=none):G.g p=none:=s.sub.free h
theorem SA.grow (s:SA K G H O) (e:BB H H'):SA K G H' O:=
 ⟨s.sub.trans e,s.len,s.nd,λa ha=>let ⟨o,h⟩:=s.liv a ha; ⟨o,e _ _ h⟩,λn m h=>by
  obtain ⟨a,h1,h2,h3⟩:=s.mt n m h
  obtain ⟨o,h4⟩:=h3.some
  exact ⟨a,h1,h2,h3.ext (Ag.refl _) (by rw [h4,e _ _ h4])⟩⟩
theorem GZ {p:Addr} {o:HO} (h:H p=none):BB H (AI H p o):=λb u q=>by
 rw [A4]; exact q
 rintro rfl; rw [h] at q; cases q
theorem SA.laid {p:Addr} {o:HO} (s:SA K G H O) (h:H p=none):Ag G ⟨AI G.g p o,G.l⟩/\SA K ⟨AI G.g p o,G.l⟩ (AI H p o) O:=by
 have e:Ag G ⟨AI G.g p o,G.l⟩:=⟨GZ (s.free h),[],(List.append_nil _).symm⟩
 refine ⟨e,⟨λb u q=>?_,s.len,s.nd,λa ha=>let ⟨o,q⟩:=s.liv a ha; ⟨o,GZ h _ _ q⟩,λn m hq=>?_⟩⟩
 ·by_cases hb:b=p
  ·subst hb
   have q:AI G.g b o b=some u:=q
   rw [BF] at q; rw [BF]; exact q
  ·have q:AI G.g p o b=some u:=q
   rw [A4 hb] at q ⊢; exact s.sub b u q
 ·obtain ⟨a,h1,h2,h3⟩:=s.mt n m hq
  have ne:a≠p:=by
   rintro rfl; obtain ⟨o,h4⟩:=h3.some; rw [h] at h4; cases h4
  exact ⟨a,h1,by show AI G.g p o a=none; rw [A4 ne]; exact h2,h3.ext e (A4 ne)⟩
theorem SA.new {p:Addr} {o:HO} {m:MO} (s:SA K G H O) (h:H p=none) (r:C4 K ⟨G.g,G.l++[p]⟩ (AI H p o) p m):Ag G ⟨G.g,G.l++[p]⟩/\SA K ⟨G.g,G.l++[p]⟩ (AI H p o) (O++[some m]):=by
 have e:Ag G ⟨G.g,G.l++[p]⟩:=⟨BB.refl _,[p],rfl⟩
 have hp:p∉G.l:=λz=>by obtain ⟨o,q⟩:=s.liv p z; rw [h] at q; cases q
 refine ⟨e,⟨s.sub.trans (GZ h),?_,?_,?_,?_⟩⟩
 ·simp [s.len]
 ·exact List.nodup_append.mpr ⟨s.nd,List.nodup_cons.mpr ⟨List.not_mem_nil,List.nodup_nil⟩,λa ha b hb=>by
   rw [List.mem_singleton] at hb; subst hb; rintro rfl; exact hp ha⟩
 ·intro a ha
  rcases List.mem_append.mp ha with ha | ha
  ·obtain ⟨u,q⟩:=s.liv a ha; exact ⟨u,GZ h _ _ q⟩
  ·rw [List.mem_singleton] at ha; subst ha; exact ⟨_,BF⟩
 ·intro n m' hq
  by_cases hn:n<O.length
  ·rw [List.getElem?_append_left hn] at hq
   obtain ⟨a,h1,h2,h3⟩:=s.mt n m' hq
   have ne:a≠p:=by rintro rfl; exact hp (List.mem_of_getElem? h1)
   exact ⟨a,e.at h1,h2,h3.ext e (A4 ne)⟩
  ·have e1:n=O.length:=by
    have:=(List.getElem?_eq_some_iff.mp hq).1
    rw [List.length_append,List.length_singleton] at this
    omega
   subst e1
   rw [List.getElem?_append_right (Nat.le_refl _),Nat.sub_self] at hq
   cases hq
   exact ⟨p,by show (G.l++[p])[O.length]?=_; rw [<- s.len,List.getElem?_append_right (Nat.le_refl _),Nat.sub_self]; rfl,s.free h,r⟩
theorem SA.put {n:Nat} {p:Addr} {o:HO} {m m':MO} (s:SA K G H O) (h:O[n]?=some (some m)) (hp:G.l[n]?=some p) (r:C4 K G (AI H p o) p m'):SA K G (AI H p o) (O.set n (some m')):=by
 obtain ⟨a,h1,h2,h3⟩:=s.mt n m h
 obtain rfl:p=a:=Option.some.inj (hp.symm.trans h1)
 refine ⟨λb u q=>?_,by simp [s.len],s.nd,λb hb=>?_,λk m2 hk=>?_⟩
 ·rw [A4]; exact s.sub b u q
  rintro rfl; rw [h2] at q; cases q
 ·by_cases hbp:b=p
  ·subst hbp; exact ⟨_,BF⟩
  ·obtain ⟨u,q⟩:=s.liv b hb; exact ⟨u,by rw [A4 hbp]; exact q⟩
 ·by_cases hkn:n=k
  ·subst hkn
   rw [List.getElem?_set_self (List.getElem?_eq_some_iff.mp h).1] at hk
   cases hk
   exact ⟨p,hp,h2,r⟩
  ·rw [List.getElem?_set_ne hkn] at hk
   obtain ⟨b,g1,g2,g3⟩:=s.mt k m2 hk
   have ne:b≠p:=by
    rintro rfl
    exact hkn ((List.getElem?_inj (List.getElem?_eq_some_iff.mp hp).1 s.nd).mp (hp.trans g1.symm))
   exact ⟨b,g1,g2,g3.ext (Ag.refl _) (A4 ne)⟩
end
abbrev Aj:=List (Option D)
structure AF (K:PySem.W.Frag) (G:Wd) (σ:L2.St) (ρ:Aj):Prop where
 len:σ.length=ρ.length
 get:∀ (i:Nat) (d:D),ρ[i]?=some (some d)->∃ v,σ[i]?=some (some v)/\Is K G d v
theorem AF.ext {K:PySem.W.Frag} {G G':Wd} {σ:L2.St} {ρ:Aj} (e:Ag G G') (h:AF K G σ ρ):AF K G' σ ρ:=
 ⟨h.len,λi d q=>let ⟨v,h1,h2⟩:=h.get i d q; ⟨v,h1,h2.ext e⟩⟩
theorem AF.set {K:PySem.W.Frag} {G:Wd} {σ:L2.St} {ρ:Aj} {d:D} {v:V} (i:Nat) (h:AF K G σ ρ) (q:Is K G d v):AF K G (σ.set i (some v)) (ρ.set i (some d)):=by
 refine ⟨by simp [h.len],λj e hj=>?_⟩
 by_cases hij:i=j
 ·subst hij
  by_cases hl:i<ρ.length
  ·rw [List.getElem?_set_self hl] at hj
   cases hj
   exact ⟨v,List.getElem?_set_self (by rw [h.len]; exact hl),q⟩
  ·rw [List.getElem?_eq_none (by simp; omega)] at hj; cases hj
 ·rw [List.getElem?_set_ne hij] at hj ⊢
  exact h.get j e hj
def Ev (X:Cx) (ρ:Aj) (O:Af) (e:Expr) (R:D->Af->Prop):Prop:=
 ∀ G,PE X e (λσ H Q=>SA X.K G H O/\AF X.K G σ ρ/\∀ v d O' G' H',Ag G G'->SA X.K G' H' O'->Is X.K G' d v->R d O'->Q v H')
def Ac (X:Cx) (ρ:Aj) (O:Af) (e:Expr) (d:D):Prop:=
 ∀ G,PE X e (λσ H Q=>SA X.K G H O/\AF X.K G σ ρ/\∀ v G' H',Ag G G'->SA X.K G' H' O->Is X.K G' d v->Q v H')
def Bk (X:Cx) (ρ:Aj) (O:Af) (e:Expr) (b:Bool):Prop:=
 ∀ G,PT X e (λσ H Q=>SA X.K G H O/\AF X.K G σ ρ/\∀ G' H',Ag G G'->SA X.K G' H' O->Q b H')
def B9 (X:Cx) (ρ:Aj) (O:Af) (e:Expr) (b:Bool):Prop:=
 ∀ G,PW X e (λσ H Q=>SA X.K G H O/\AF X.K G σ ρ/\∀ G' H',Ag G G'->SA X.K G' H' O->Q b H')
def Ek (X:Cx) (ρ:Aj) (O:Af) (es:List Expr) (R:List D->Af->Prop):Prop:=
 ∀ G,PA X es (λσ H Q=>SA X.K G H O/\AF X.K G σ ρ/\∀ vs ds O' G' H',Ag G G'->SA X.K G' H' O'->Am X.K G' ds vs->R ds O'->Q vs H')
theorem _root_.L2.PE.imp {X:Cx} {e:Expr} {t u:TE} (h:PE X e t) (k:∀ σ H Q,u σ H Q->t σ H Q):PE X e u:=λpins s σ H Q I q=>h pins s σ H Q I (k _ _ _ q)
theorem _root_.L2.PT.imp {X:Cx} {e:Expr} {t u:TT} (h:PT X e t) (k:∀ σ H Q,u σ H Q->t σ H Q):PT X e u:=λpins s σ H Q I q=>h pins s σ H Q I (k _ _ _ q)
theorem _root_.L2.PA.imp {X:Cx} {es:List Expr} {t u:TA} (h:PA X es t) (k:∀ σ H Q,u σ H Q->t σ H Q):PA X es u:=λpos pins s σ H Q I q=>h pos pins s σ H Q I (k _ _ _ q)
theorem _root_.L2.PS.imp {X:Cx} {e:Stmt} {t u:TS} (h:PS X e t) (k:∀ D σ H,u D σ H->t D σ H):PS X e u:=λpins s σ H D I q=>h pins s σ H D I (k _ _ _ q)
theorem _root_.L2.PSs.imp {X:Cx} {e:List Stmt} {t u:TS} (h:PSs X e t) (k:∀ D σ H,u D σ H->t D σ H):PSs X e u:=λpins s σ H D I q=>h pins s σ H D I (k _ _ _ q)
section
variable {X:Cx} {ρ:Aj} {O:Af} {e a b c:Expr} {d da db:D} {R:D->Af->Prop} {pos:Pos}
theorem Ac.ev (h:Ac X ρ O e d) (r:R d O):Ev X ρ O e R:=λG=>(h G).imp λσ H Q ⟨s,n,k⟩=>⟨s,n,λv G' H' e1 s' i=>k v d O G' H' e1 s' i r⟩
theorem Ev.evp (h:Ev X ρ O e λd' O'=>d'=d/\O'=O):Ac X ρ O e d:=λG=>(h G).imp λσ H Q ⟨s,n,k⟩=>⟨s,n,λv d' O' G' H' e1 s' i r=>by obtain ⟨rfl,rfl⟩:=r; exact k v G' H' e1 s' i⟩
theorem Ac.cast {d':D} (h:Ac X ρ O e d) (q:d=d'):Ac X ρ O e d':=q ▸ h
theorem B9.t (h:B9 X ρ O e b'):Bk X ρ O e b':=λG=>(h G).pt
theorem Bk.cast {k k':Bool} (h:Bk X ρ O e k) (q:k=k'):Bk X ρ O e k':=q ▸ h
theorem Aa (i:Nat) {x:Str} {p:Pos} (hr:ρ[i]?=some (some d):=by rfl) (hN:X.N[i]?=some x:=by rfl) (hv:EK X.env.scope x:=by first | exact Or.inl rfl | exact Or.inr (Or.inl rfl) | exact Or.inr (Or.inr rfl))
  (hd:(x==("__debug__" : Str))=false:=by decide) (hcd:(x==("__classdict__" : Str))=false:=by decide):Ac X ρ O (.Name x p) d:=λG=>
 PE.imp (VU hN hv hd hcd) λσ H Q ⟨s,n,k⟩=>by
  obtain ⟨v,e1,i1⟩:=n.get i d hr
  exact ⟨v,e1,k v G H (Ag.refl _) s i1⟩
theorem Ai {i:Int} {j:Nat}:Ac X ρ O (.Constant (.int i) j pos) (.int i):=λG=>PE.imp V4 λσ H Q ⟨s,n,k⟩=>k _ G H (Ag.refl _) s (.int i)
theorem Fd {i:Bool} {j:Nat}:Ac X ρ O (.Constant (.bool i) j pos) (.bl i):=λG=>PE.imp V8 λσ H Q ⟨s,n,k⟩=>k _ G H (Ag.refl _) s (.bl i)
theorem CY {j:Nat}:Ac X ρ O (.Constant .none j pos) .non:=λG=>PE.imp V0 λσ H Q ⟨s,n,k⟩=>k _ G H (Ag.refl _) s .non
theorem CM {x:Str} {j:Nat}:Ac X ρ O (.Constant (.str x) j pos) (.str x):=λG=>PE.imp VW λσ H Q ⟨s,n,k⟩=>k _ G H (Ag.refl _) s (.str x)
def Bg (X:Cx) (O:Af) (f:Value->Value->Sem Value) (da db d:D):Prop:=
 ∀ G,BQ X f (λv u H Q=>SA X.K G H O/\Is X.K G da v/\Is X.K G db u/\∀ w G' H',Ag G G'->SA X.K G' H' O->Is X.K G' d w->Q w H')
theorem Bg.of {f:Value->Value->Sem Value} {r:R2} (ho:BQ X f r)
  (k:∀ G v u H Q,SA X.K G H O->Is X.K G da v->Is X.K G db u->(∀ w G' H',Ag G G'->SA X.K G' H' O->Is X.K G' d w->Q w H')->r v u H Q):Bg X O f da db d:=
 λG pins s σ H x y v u Q I rx ry ⟨h1,h2,h3,h4⟩=>ho pins s σ H x y v u Q I rx ry (k G _ _ _ _ h1 h2 h3 h4)
theorem Ak {op:Operator} (ha:Ac X ρ O a da) (hb:Ac X ρ O b db) (ho:Bg X O (binaryOp op) da db d):Ac X ρ O (.BinOp a op b pos) d:=λG pins s σ H Q I ⟨h1,h2,h3⟩=>
 wpAny_BinOp (HB (ta:=λσ H Q=>SA X.K G H O/\AF X.K G σ ρ/\∀ v G' H',Ag G G'->SA X.K G' H' O->Is X.K G' da v->Q v H') (ha G)
  (tb:=λσ H Q=>∃ G1 v0,SA X.K G1 H O/\AF X.K G1 σ ρ/\∀ v G' H',Ag G1 G'->SA X.K G' H' O->Is X.K G' db v->Q v H') (λpins s σ H Q I ⟨G1,_,q⟩=>hb G1 pins s σ H Q I q) I
  (R:=λx y H2=>∃ G2,Ag G G2/\SA X.K G2 H2 O/\Is X.K G2 da x/\Is X.K G2 db y)
  ⟨h1,h2,λv G1 H1 e1 s1 i1=>⟨G1,(0:Nat),s1,h2.ext e1,λu G2 H2 e2 s2 i2=>⟨G2,e1.trans e2,s2,i1.ext e2,i2⟩⟩⟩
  λv u s2 x y H2 I2 rx ry ⟨G2,e2,s2',i1,i2⟩=>ho G2 pins s2 σ H2 x y v u Q I2 rx ry ⟨s2',i1,i2,λw G3 H3 e3 s3 i3=>h3 w G3 H3 (e2.trans e3) s3 i3⟩)
theorem Qk {f:Value->Value->Sem Value} {g:Int->Int->Int} {i j:Int} (ho:BQ X f (D3 λi j=>.int (g i j))):Bg X O f (.int i) (.int j) (.int (g i j)):=
 .of ho λG v u H Q s h1 h2 k=>by cases h1; cases h2; exact ⟨i,j,rfl,rfl,k _ G H (Ag.refl _) s (.int _)⟩
theorem IH {f:Value->Value->Sem Value} {C:Int->Int->Prop} {g:Int->Int->Int} {i j:Int} (ho:BQ X f (rI C λi j=>.int (g i j))) (hc:C i j):Bg X O f (.int i) (.int j) (.int (g i j)):=
 .of ho λG v u H Q s h1 h2 k=>by cases h1; cases h2; exact ⟨i,j,rfl,rfl,hc,k _ G H (Ag.refl _) s (.int _)⟩
theorem II {f:Value->Value->Sem Value} {g:Int->Int->Bool} {i j:Int} (ho:BQ X f (D3 λi j=>.bl (g i j))):Bg X O f (.int i) (.int j) (.bl (g i j)):=
 .of ho λG v u H Q s h1 h2 k=>by cases h1; cases h2; exact ⟨i,j,rfl,rfl,k _ G H (Ag.refl _) s (.bl _)⟩
theorem Bs {i j:Int}:Bg X O (binaryOp .Add) (.int i) (.int j) (.int (i+j)):=Qk Ws
theorem CV {i j:Int}:Bg X O (binaryOp .Sub) (.int i) (.int j) (.int (i-j)):=Qk Wb
theorem Wg:BQ X (binaryOp .Mult) (rI IntMulOk λi j=>.int (i*j)):=IE λ_ _ _ _ _ _ _ hc q=>mul_int q hc
theorem A8 {i j:Int} (h:IntMulOk i j):Bg X O (binaryOp .Mult) (.int i) (.int j) (.int (i*j)):=IH Wg h
theorem DU {i j:Int} (h:R8 i j):Bg X O (binaryOp .FloorDiv) (.int i) (.int j) (.int (i/j)):=IH Wp h
theorem Ca {i j:Int} (h:0<j):Bg X O (binaryOp .Mod) (.int i) (.int j) (.int (i%j)):=IH (C:=λ_ j=>0<j) Wh h
theorem Qj {i j:Int} (h:R7 i j):Bg X O (binaryOp .Pow) (.int i) (.int j) (.int (i ^ j.toNat)):=IH Wc h
theorem Rx {i j:Int}:Bg X O (compareOp .Lt) (.int i) (.int j) (.bl (decide (i<j))):=II Wi
theorem DX {i j:Int}:Bg X O (compareOp .LtE) (.int i) (.int j) (.bl (decide (i<=j))):=II Wj
theorem Gx {i j:Int}:Bg X O (compareOp .Gt) (.int i) (.int j) (.bl (decide (j<i))):=II Wn
theorem Q1j {i j:Int}:Bg X O (compareOp .GtE) (.int i) (.int j) (.bl (decide (j<=i))):=II Wo
theorem Rq {i j:Int}:decide (V.int i=V.int j)=decide (i=j):=by
 by_cases h:i=j
 ·subst h; rw [decide_eq_true rfl,decide_eq_true rfl]
 ·rw [decide_eq_false h,decide_eq_false]; intro z; injection z with z; exact h z
theorem CC {i j:Int}:Bg X O (compareOp .Eq) (.int i) (.int j) (.bl (decide (i=j))):=
 .of Qg λG v u H Q s h1 h2 k=>by cases h1; cases h2; exact ⟨rfl,by rw [Rq]; exact k _ G H (Ag.refl _) s (.bl _)⟩
theorem Gw {i j:Int}:Bg X O (compareOp .NotEq) (.int i) (.int j) (.bl (!decide (i=j))):=
 .of Qf λG v u H Q s h1 h2 k=>by cases h1; cases h2; exact ⟨rfl,by rw [Rq]; exact k _ G H (Ag.refl _) s (.bl _)⟩
def CK:D->Bool
 | .non=>true
 | _=>false
theorem QN {K:PySem.W.Frag} {G:Wd} {v:V} (h:Is K G d v):decide (v=V.non)=CK d:=by
 cases h <;> first | rfl | exact decide_eq_false (λz=>by cases z)
theorem EI:Bg X O (compareOp .Is) da .non (.bl (CK da)):=
 .of Wk λG v u H Q s h1 h2 k=>by cases h2; exact ⟨rfl,by rw [QN h1]; exact k _ G H (Ag.refl _) s (.bl _)⟩
theorem MS:Bg X O (compareOp .IsNot) da .non (.bl (!CK da)):=
 .of Wf λG v u H Q s h1 h2 k=>by cases h2; exact ⟨rfl,by rw [QN h1]; exact k _ G H (Ag.refl _) s (.bl _)⟩
theorem CA {op:CmpOp} (ha:Ac X ρ O a da) (hb:Ac X ρ O b db) (ho:Bg X O (compareOp op) da db d) (hm:behindInMarks op b=false:=by first | exact Qp _ | (with_unfolding_all rfl)):Ac X ρ O (.Compare a [op] [b] pos) d:=λG pins s σ H Q I ⟨h1,h2,h3⟩=>
 wpAny_Compare1 (HB (ta:=λσ H Q=>SA X.K G H O/\AF X.K G σ ρ/\∀ v G' H',Ag G G'->SA X.K G' H' O->Is X.K G' da v->Q v H') (ha G)
  (tb:=λσ H Q=>∃ G1 v0,SA X.K G1 H O/\AF X.K G1 σ ρ/\∀ v G' H',Ag G1 G'->SA X.K G' H' O->Is X.K G' db v->Q v H') (λpins s σ H Q I ⟨G1,_,q⟩=>hb G1 pins s σ H Q I q) I
  (R:=λx y H2=>∃ G2,Ag G G2/\SA X.K G2 H2 O/\Is X.K G2 da x/\Is X.K G2 db y)
  ⟨h1,h2,λv G1 H1 e1 s1 i1=>⟨G1,(0:Nat),s1,h2.ext e1,λu G2 H2 e2 s2 i2=>⟨G2,e1.trans e2,s2,i1.ext e2,i2⟩⟩⟩
  λv u s2 x y H2 I2 rx ry ⟨G2,e2,s2',i1,i2⟩=>ho G2 pins s2 σ H2 x y v u Q I2 rx ry ⟨s2',i1,i2,λw G3 H3 e3 s3 i3=>h3 w G3 H3 (e2.trans e3) s3 i3⟩) hm
theorem A1 {op:CmpOp} {k:Bool} (ha:Ac X ρ O a da) (hb:Ac X ρ O b db) (ho:Bg X O (compareOp op) da db (.bl k)) (hm:behindInMarks op b=false:=by first | exact Qp _ | (with_unfolding_all rfl)):Bk X ρ O (.Compare a [op] [b] pos) k:=λG pins s σ H Q I ⟨h1,h2,h3⟩=>by
 refine wpAny_isTrue_Compare1 (Az (ha G pins s σ H _ I ⟨h1,h2,λv G1 H1 e1 s1 i1=>(⟨G1,e1,s1,i1⟩:∃ G1,Ag G G1/\SA X.K G1 H1 O/\Is X.K G1 da v)⟩) λv s1 ⟨x,H1,I1,r1,G1,e1,sa1,i1⟩=>
  Az (hb G1 pins s1 σ H1 _ I1 ⟨sa1,h2.ext e1,λu G2 H2 e2 s2 i2=>(⟨G2,e2,s2,i2⟩:∃ G2,Ag G1 G2/\SA X.K G2 H2 O/\Is X.K G2 db u)⟩) λu s2 ⟨y,H2,I2,r2,G2,e2,sa2,i2⟩=>
  Az (ho G2 pins s2 σ H2 x y v u _ I2 r1 r2 ⟨sa2,i1.ext e2,i2,λw G3 H3 e3 s3 i3=>(⟨G3,e3,s3,i3⟩:∃ G3,Ag G2 G3/\SA X.K G3 H3 O/\Is X.K G3 (.bl k) w)⟩) λc s3 ⟨z,H3,I3,r3,G3,e3,sa3,i3⟩=>?_) hm
 cases i3
 cases r3
 exact wpAny_truthy_bool ⟨H3,I3,h3 G3 H3 ((e1.trans e2).trans e3) sa3⟩
theorem Cb {k:Bool} (ha:Ac X ρ O a (.bl k)) (he:∀ whole,isTrue a X.env whole=(do let v <- whole; standAt a.pos; holding [v] (truthy v)):=by intro _; rfl):Bk X ρ O a k:=λG=>
 (PR (ha G) he).imp λσ H Q ⟨h1,h2,h3⟩=>⟨h1,h2,λv G' H' e1 s1 i1=>by cases i1; exact ⟨k,rfl,h3 G' H' e1 s1⟩⟩
theorem Ct {k:Bool} (ha:Bk X ρ O a k):Bk X ρ O (.UnaryOp .Not a pos) (!k):=λG=>
 (PU (ha G)).imp λσ H Q ⟨h1,h2,h3⟩=>⟨h1,h2,λG' H' e1 s1=>h3 G' H' e1 s1⟩
theorem MG {k:Bool} (ha:Bk X ρ O a k):B9 X ρ O (.BoolOp .And [a] pos) k:=λG=>Vm (ha G)
theorem D9 {k:Bool} (ha:Bk X ρ O a k):B9 X ρ O (.BoolOp .Or [a] pos) k:=λG=>Vl (ha G)
theorem Jf {k l:Bool} {rest:List Expr} (ha:Bk X ρ O a k) (hb:k=true->B9 X ρ O (.BoolOp .And (b::rest) pos) l):B9 X ρ O (.BoolOp .And (a::b::rest) pos) (k&&l):=λG wh pins s σ H Q I ⟨h1,h2,h3⟩=>by
 refine isTrue_and (Az (ha G pins s σ H (λc H1=>c=k/\∃ G1,Ag G G1/\SA X.K G1 H1 O) I ⟨h1,h2,λG1 H1 e1 s1=>⟨rfl,G1,e1,s1⟩⟩) ?_)
 rintro c s1 ⟨H1,I1,rfl,G1,e1,sa1⟩
 cases c with
 | false=>exact ⟨H1,I1,h3 G1 H1 e1 sa1⟩
 | true=>exact hb rfl G1 wh pins s1 σ H1 Q I1 ⟨sa1,h2.ext e1,λG2 H2 e2 s2=>h3 G2 H2 (e1.trans e2) s2⟩
theorem Ea {k l:Bool} {rest:List Expr} (ha:Bk X ρ O a k) (hb:k=false->B9 X ρ O (.BoolOp .Or (b::rest) pos) l):B9 X ρ O (.BoolOp .Or (a::b::rest) pos) (k||l):=λG wh pins s σ H Q I ⟨h1,h2,h3⟩=>by
 refine isTrue_or (Az (ha G pins s σ H (λc H1=>c=k/\∃ G1,Ag G G1/\SA X.K G1 H1 O) I ⟨h1,h2,λG1 H1 e1 s1=>⟨rfl,G1,e1,s1⟩⟩) ?_)
 rintro c s1 ⟨H1,I1,rfl,G1,e1,sa1⟩
 cases c with
 | true=>exact ⟨H1,I1,h3 G1 H1 e1 sa1⟩
 | false=>exact hb rfl G1 wh pins s1 σ H1 Q I1 ⟨sa1,h2.ext e1,λG2 H2 e2 s2=>h3 G2 H2 (e1.trans e2) s2⟩
theorem Dl {op:BoolOp} (ha:Ac X ρ O a d):Ac X ρ O (.BoolOp op [a] pos) d:=λG=>VY (ha G)
theorem DH {k l:Bool} {rest:List Expr} (ha:Ac X ρ O a (.bl k)) (hb:k=true->Ac X ρ O (.BoolOp .And (b::rest) pos) (.bl l)):Ac X ρ O (.BoolOp .And (a::b::rest) pos) (.bl (k&&l)):=λG pins s σ H Q I ⟨h1,h2,h3⟩=>by
 refine BoolOp_and (Az (ha G pins s σ H (λv H1=>∃ G1,Ag G G1/\SA X.K G1 H1 O/\Is X.K G1 (.bl k) v) I ⟨h1,h2,λv G1 H1 e1 s1 i1=>⟨G1,e1,s1,i1⟩⟩) ?_)
 rintro v s1 ⟨x,H1,I1,r1,G1,e1,sa1,i1⟩
 cases i1
 cases r1
 refine wpAny_truthy_bool ?_
 cases k with
 | false=>exact ⟨.bl false,H1,I1,rfl,h3 _ G1 H1 e1 sa1 (.bl _)⟩
 | true=>exact hb rfl G1 pins s1 σ H1 Q I1 ⟨sa1,h2.ext e1,λw G2 H2 e2 s2 i2=>h3 w G2 H2 (e1.trans e2) s2 i2⟩
theorem Jg {k l:Bool} {rest:List Expr} (ha:Ac X ρ O a (.bl k)) (hb:k=false->Ac X ρ O (.BoolOp .Or (b::rest) pos) (.bl l)):Ac X ρ O (.BoolOp .Or (a::b::rest) pos) (.bl (k||l)):=λG pins s σ H Q I ⟨h1,h2,h3⟩=>by
 refine BoolOp_or (Az (ha G pins s σ H (λv H1=>∃ G1,Ag G G1/\SA X.K G1 H1 O/\Is X.K G1 (.bl k) v) I ⟨h1,h2,λv G1 H1 e1 s1 i1=>⟨G1,e1,s1,i1⟩⟩) ?_)
 rintro v s1 ⟨x,H1,I1,r1,G1,e1,sa1,i1⟩
 cases i1
 cases r1
 refine wpAny_truthy_bool ?_
 cases k with
 | true=>exact ⟨.bl true,H1,I1,rfl,h3 _ G1 H1 e1 sa1 (.bl _)⟩
 | false=>exact hb rfl G1 pins s1 σ H1 Q I1 ⟨sa1,h2.ext e1,λw G2 H2 e2 s2 i2=>h3 w G2 H2 (e1.trans e2) s2 i2⟩
theorem Q8 {k:Bool} (ha:Ac X ρ O a (.bl k)):Ac X ρ O (.UnaryOp .Not a pos) (.bl (!k)):=λG=>(VZ (ha G)).imp λσ H Q ⟨h1,h2,h3⟩=>⟨h1,h2,λv G1 H1 e1 s1 i1=>by
 cases i1
 exact ⟨k,rfl,h3 _ G1 H1 e1 s1 (.bl _)⟩⟩
theorem Q0g {k:Bool} (hc:Bk X ρ O c k) (ha:k=true->Ac X ρ O a da) (hb:k=false->Ac X ρ O b db):Ac X ρ O (.IfExp c a b pos) (if k=true then da else db):=λG pins s σ H Q I ⟨h1,h2,h3⟩=>by
 cases k with
 | true=>
  exact (Qb (tA:=λσ H Q=>SA X.K G H O/\AF X.K G σ ρ/\∀ G' H',Ag G G'->SA X.K G' H' O->Q true H') (hc G) (λpins s σ H Q I (q:∃ G1,SA X.K G1 H O/\AF X.K G1 σ ρ/\∀ v G' H',Ag G1 G'->SA X.K G' H' O->Is X.K G' da v->Q v H')=>let ⟨G1,q⟩:=q; ha rfl G1 pins s σ H Q I q)
   (λpins s σ H Q I (q:False)=>q.elim)) pins s σ H Q I ⟨h1,h2,λG1 H1 e1 s1=>IR ⟨G1,s1,h2.ext e1,λv G2 H2 e2 s2 i2=>h3 v G2 H2 (e1.trans e2) s2 i2⟩⟩
 | false=>
  exact (Qb (tA:=λσ H Q=>SA X.K G H O/\AF X.K G σ ρ/\∀ G' H',Ag G G'->SA X.K G' H' O->Q false H') (hc G) (λpins s σ H Q I (q:False)=>q.elim)
   (λpins s σ H Q I (q:∃ G1,SA X.K G1 H O/\AF X.K G1 σ ρ/\∀ v G' H',Ag G1 G'->SA X.K G' H' O->Is X.K G' db v->Q v H')=>let ⟨G1,q⟩:=q; hb rfl G1 pins s σ H Q I q)) pins s σ H Q I ⟨h1,h2,λG1 H1 e1 s1=>IS ⟨G1,s1,h2.ext e1,λv G2 H2 e2 s2 i2=>h3 v G2 H2 (e1.trans e2) s2 i2⟩⟩
theorem Q0l {op op':CmpOp} {k l:Bool} {dc:D} (ha:Ac X ρ O a da) (hb:Ac X ρ O b db) (hc:Ac X ρ O c dc) (ho:Bg X O (compareOp op) da db (.bl k)) (ho':k=true->Bg X O (compareOp op') db dc (.bl l))
  (hm:lastMarks [op,op'] [b,c]=false:=by with_unfolding_all rfl):Ac X ρ O (.Compare a [op,op'] [b,c] pos) (.bl (k&&l)):=λG pins s σ H Q I ⟨h1,h2,h3⟩=>by
 refine Compare_chain (Az (ha G pins s σ H (λv H1=>∃ G1,Ag G G1/\SA X.K G1 H1 O/\Is X.K G1 da v) I ⟨h1,h2,λv G1 H1 e1 s1 i1=>⟨G1,e1,s1,i1⟩⟩) ?_) hm
 rintro v s1 ⟨x,H1,I1,r1,G1,e1,sa1,i1⟩
 refine chain_link (Az (hb G1 pins s1 σ H1 (λv H2=>∃ G2,Ag G1 G2/\SA X.K G2 H2 O/\Is X.K G2 db v) I1 ⟨sa1,h2.ext e1,λv G2 H2 e2 s2 i2=>⟨G2,e2,s2,i2⟩⟩) ?_)
 rintro u s2 ⟨y,H2,I2,r2,G2,e2,sa2,i2⟩
 refine Az (ho G2 pins s2 σ H2 x y v u (λw H3=>∃ G3,Ag G2 G3/\SA X.K G3 H3 O/\Is X.K G3 (.bl k) w) I2 r1 r2 ⟨sa2,i1.ext e2,i2,λw G3 H3 e3 s3 i3=>⟨G3,e3,s3,i3⟩⟩) ?_
 rintro w s3 ⟨z,H3,I3,r3,G3,e3,sa3,i3⟩
 cases i3
 cases r3
 refine wpAny_truthy_bool ?_
 cases k with
 | false=>exact ite_ff ⟨.bl false,H3,I3,rfl,h3 _ G3 H3 ((e1.trans e2).trans e3) sa3 (.bl _)⟩
 | true=>
  refine ite_tt (chain_last (Az (hc G3 pins s3 σ H3 (λv H4=>∃ G4,Ag G3 G4/\SA X.K G4 H4 O/\Is X.K G4 dc v) I3 ⟨sa3,h2.ext ((e1.trans e2).trans e3),λv G4 H4 e4 s4 i4=>⟨G4,e4,s4,i4⟩⟩) ?_))
  rintro q s4 ⟨z',H4,I4,r4,G4,e4,sa4,i4⟩
  exact ho' rfl G4 pins s4 σ H4 y z' u q Q I4 r2 r4 ⟨sa4,i2.ext (e3.trans e4),i4,λw G5 H5 e5 s5 i5=>h3 w G5 H5 ((((e1.trans e2).trans e3).trans e4).trans e5) s5 i5⟩
theorem Q0q {op op':CmpOp} {k l:Bool} {dc:D} (ha:Ac X ρ O a da) (hb:Ac X ρ O b db) (hc:Ac X ρ O c dc) (ho:Bg X O (compareOp op) da db (.bl k)) (ho':k=true->Bg X O (compareOp op') db dc (.bl l))
  (hm:lastMarks [op,op'] [b,c]=false:=by with_unfolding_all rfl):Bk X ρ O (.Compare a [op,op'] [b,c] pos) (k&&l):=λG pins s σ H Q I ⟨h1,h2,h3⟩=>by
 refine isTrue_chain (Az (ha G pins s σ H (λv H1=>∃ G1,Ag G G1/\SA X.K G1 H1 O/\Is X.K G1 da v) I ⟨h1,h2,λv G1 H1 e1 s1 i1=>⟨G1,e1,s1,i1⟩⟩) ?_) hm
 rintro v s1 ⟨x,H1,I1,r1,G1,e1,sa1,i1⟩
 refine test_link (Az (hb G1 pins s1 σ H1 (λv H2=>∃ G2,Ag G1 G2/\SA X.K G2 H2 O/\Is X.K G2 db v) I1 ⟨sa1,h2.ext e1,λv G2 H2 e2 s2 i2=>⟨G2,e2,s2,i2⟩⟩) ?_)
 rintro u s2 ⟨y,H2,I2,r2,G2,e2,sa2,i2⟩
 refine Az (ho G2 pins s2 σ H2 x y v u (λw H3=>∃ G3,Ag G2 G3/\SA X.K G3 H3 O/\Is X.K G3 (.bl k) w) I2 r1 r2 ⟨sa2,i1.ext e2,i2,λw G3 H3 e3 s3 i3=>⟨G3,e3,s3,i3⟩⟩) ?_
 rintro w s3 ⟨z,H3,I3,r3,G3,e3,sa3,i3⟩
 cases i3
 cases r3
 refine wpAny_truthy_bool ?_
 cases k with
 | false=>exact ite_ff ⟨H3,I3,h3 G3 H3 ((e1.trans e2).trans e3) sa3⟩
 | true=>
  refine ite_tt (test_last (Az (hc G3 pins s3 σ H3 (λv H4=>∃ G4,Ag G3 G4/\SA X.K G4 H4 O/\Is X.K G4 dc v) I3 ⟨sa3,h2.ext ((e1.trans e2).trans e3),λv G4 H4 e4 s4 i4=>⟨G4,e4,s4,i4⟩⟩) ?_))
  rintro q s4 ⟨z',H4,I4,r4,G4,e4,sa4,i4⟩
  refine Az (ho' rfl G4 pins s4 σ H4 y z' u q (λw H5=>∃ G5,Ag G4 G5/\SA X.K G5 H5 O/\Is X.K G5 (.bl l) w) I4 r2 r4 ⟨sa4,i2.ext (e3.trans e4),i4,λw G5 H5 e5 s5 i5=>⟨G5,e5,s5,i5⟩⟩) ?_
  rintro q' s5 ⟨z2,H5,I5,r5,G5,e5,sa5,i5⟩
  cases i5
  cases r5
  exact wpAny_truthy_bool ⟨H5,I5,h3 G5 H5 ((((e1.trans e2).trans e3).trans e4).trans e5) sa5⟩
end
def LV (O:Af) (d:D) (xs:List D):Prop:=d=.lst xs\/d=.scr xs\/∃ n,d=.ptr n/\O[n]?=some (some (.lst xs))
def LT (O:Af) (d:D) (xs:List D):Prop:=LV O d xs\/d=.tup xs
theorem LV.sq {K:PySem.W.Frag} {G:Wd} {H:Hp} {O:Af} {d:D} {xs:List D} {v:V} (h:LV O d xs) (s:SA K G H O) (i:Is K G d v):∃ a vs,v=.ref a/\A9 K H a vs/\Am K G xs vs:=by
 rcases h with rfl | rfl | ⟨p,rfl,h⟩
 ·cases i with | lst h r=>exact ⟨_,_,rfl,A9.of (s.sub _ _ h),r⟩
 ·cases i with | scr h r=>exact ⟨_,_,rfl,s.sub.seq h,r⟩
 ·cases i with
  | ptr _ q=>
   obtain ⟨a,e,_,vs,h1,h2⟩:=s.mt p _ h
   obtain rfl:=Option.some.inj (q.symm.trans e)
   exact ⟨_,vs,rfl,A9.of h1,h2⟩
theorem FZ {K:PySem.W.Frag} {G:Wd} {H:Hp} {O:Af} {xs:List D} {v:V} (s:SA K G H O) (i:Is K G (.tup xs) v):∃ a vs,v=.ref a/\Bv K H a vs/\Am K G xs vs:=by
 cases i with | tup h r=>exact ⟨_,_,rfl,DB s.sub h,r⟩
def BK (X:Cx) (ρ:Aj) (O:Af) (es:List Expr) (ds:List D):Prop:=
 ∀ G,PA X es (λσ H Q=>SA X.K G H O/\AF X.K G σ ρ/\∀ vs G' H',Ag G G'->SA X.K G' H' O->Am X.K G' ds vs->Q vs H')
section
variable {X:Cx} {ρ:Aj} {O:Af} {e a b c:Expr} {es:List Expr} {d da db:D} {ds:List D} {R:D->Af->Prop} {pos p:Pos} {x:Str}
theorem Ae:BK X ρ O [] []:=λG=>PA.imp He λσ H Q ⟨h1,h2,h3⟩=>h3 _ G H (Ag.refl _) h1 .nil
theorem Ab (he:Ac X ρ O e d) (hs:BK X ρ O es ds) (hst:starEach (e::es) X.env=(false,eval e X.env)::starEach es X.env:=by rfl):BK X ρ O (e::es) (d::ds):=λG=>
 PA.imp (Fr (he G) (t:=λσ H Q=>∃ G1,SA X.K G1 H O/\AF X.K G1 σ ρ/\∀ vs G' H',Ag G1 G'->SA X.K G' H' O->Am X.K G' ds vs->Q vs H') (λpos pins s σ H Q I ⟨G1,q⟩=>hs G1 pos pins s σ H Q I q) hst)
  λσ H Q ⟨h1,h2,h3⟩=>⟨h1,h2,λv G1 H1 e1 s1 i1=>⟨G1,s1,h2.ext e1,λvs G2 H2 e2 s2 i2=>h3 _ G2 H2 (e1.trans e2) s2 (.cons (i1.ext e2) i2)⟩⟩
theorem Fe {R:List D->Af->Prop} (he:Ev X ρ O e λd O1=>Ek X ρ O1 es λds O2=>R (d::ds) O2) (hst:starEach (e::es) X.env=(false,eval e X.env)::starEach es X.env:=by rfl):Ek X ρ O (e::es) R:=λG=>
 PA.imp (Fr (he G) (t:=λσ H Q=>∃ G1 d O1,SA X.K G1 H O1/\AF X.K G1 σ ρ/\(Ek X ρ O1 es λds O2=>R (d::ds) O2)/\∀ vs ds O2 G' H',Ag G1 G'->SA X.K G' H' O2->Am X.K G' ds vs->R (d::ds) O2->Q vs H') (λpos pins s σ H Q I ⟨G1,d,O1,q1,q2,q3,q4⟩=>q3 G1 pos pins s σ H Q I ⟨q1,q2,q4⟩) hst)
  λσ H Q ⟨h1,h2,h3⟩=>⟨h1,h2,λv d O1 G1 H1 e1 s1 i1 r1=>⟨G1,d,O1,s1,h2.ext e1,r1,λvs ds O2 G2 H2 e2 s2 i2 r2=>h3 _ (d::ds) O2 G2 H2 (e1.trans e2) s2 (.cons (i1.ext e2) i2) r2⟩⟩
theorem BK.as {R:List D->Af->Prop} (h:BK X ρ O es ds) (r:R ds O):Ek X ρ O es R:=λG=>PA.imp (h G) λσ H Q ⟨h1,h2,h3⟩=>⟨h1,h2,λvs G' H' e1 s1 i1=>h3 vs ds O G' H' e1 s1 i1 r⟩
theorem Cr {x1:Nat} (h:BK X ρ O es ds) (hz:ds.length<=sizeLine:=by exact Nat.le_of_ble_eq_true rfl):Ac X ρ O (.Tuple es x1 pos) (.tup ds):=λG=>
 PE.imp (P8 (h G)) λσ H Q ⟨h1,h2,h3⟩=>⟨h1,h2,λvs G1 H1 e1 s1 i1=>⟨by rw [<- i1.length]; exact hz,λp hp=>by
  obtain ⟨e2,s2⟩:=s1.laid (o:=.tup vs) hp
  exact h3 _ _ _ (e1.trans e2) s2 (.tup (Bv.of BF) (i1.ext e2))⟩⟩
theorem Ji (h:BK X ρ O es ds) (hz:ds.length<=sizeLine:=by exact Nat.le_of_ble_eq_true rfl):Ac X ρ O (.List es pos) (.lst ds):=λG=>
 PE.imp (Qa (h G)) λσ H Q ⟨h1,h2,h3⟩=>⟨h1,h2,λvs G1 H1 e1 s1 i1=>⟨by rw [<- i1.length]; exact hz,λp hp=>by
  obtain ⟨e2,s2⟩:=s1.laid (o:=.lst vs) hp
  exact h3 _ _ _ (e1.trans e2) s2 (.lst BF (i1.ext e2))⟩⟩
theorem Jh (h:BK X ρ O es ds) (k:R (.ptr O.length) (O++[some (.lst ds)])) (hz:ds.length<=sizeLine:=by exact Nat.le_of_ble_eq_true rfl):Ev X ρ O (.List es pos) R:=λG=>
 PE.imp (Qa (h G)) λσ H Q ⟨h1,h2,h3⟩=>⟨h1,h2,λvs G1 H1 e1 s1 i1=>⟨by rw [<- i1.length]; exact hz,λp hp=>by
  have e:Ag G1 ⟨G1.g,G1.l++[p]⟩:=⟨BB.refl _,[p],rfl⟩
  obtain ⟨e2,s2⟩:=s1.new (m:=.lst ds) hp ⟨vs,BF,i1.ext e⟩
  refine h3 _ _ _ _ _ (e1.trans e2) s2 (.ptr _ ?_) k
  rw [<- s1.len,List.getElem?_append_right (Nat.le_refl _),Nat.sub_self]; rfl⟩⟩
theorem QK {xs:List D} {vs:List V} {K:PySem.W.Frag} {G:Wd} {i:Int} (r:Am K G xs vs) (h:Be xs i=some d):∃ v,Be vs i=some v/\Is K G d v:=by
 unfold Be at h ⊢
 rw [<- r.length]
 cases q:Fa xs.length i with
 | none=>rw [q] at h; cases h
 | some j=>
  rw [q] at h
  exact r.get h
theorem Fc {xs:List D} {i:Int} (ha:Ac X ρ O a da) (hl:LV O da xs) (hb:Ac X ρ O b (.int i)) (hi:Be xs i=some d) (hs:Ni b:=by intro _ _; rfl):Ac X ρ O (.Subscript a b pos) d:=λG pins s σ H Q I ⟨h1,h2,h3⟩=>
 Subscript_ (HB (ta:=λσ H Q=>SA X.K G H O/\AF X.K G σ ρ/\∀ v G' H',Ag G G'->SA X.K G' H' O->Is X.K G' da v->Q v H') (ha G)
  (tb:=λσ H Q=>∃ G1,SA X.K G1 H O/\AF X.K G1 σ ρ/\∀ v G' H',Ag G1 G'->SA X.K G' H' O->Is X.K G' (.int i) v->Q v H') (λpins s σ H Q I ⟨G1,q⟩=>hb G1 pins s σ H Q I q) I
  (R:=λx y H2=>∃ G2,Ag G G2/\SA X.K G2 H2 O/\Is X.K G2 da x/\Is X.K G2 (.int i) y)
  ⟨h1,h2,λv G1 H1 e1 s1 i1=>⟨G1,s1,h2.ext e1,λu G2 H2 e2 s2 i2=>⟨G2,e1.trans e2,s2,i1.ext e2,i2⟩⟩⟩
  λv u s2 x y H2 I2 rx ry ⟨G2,e2,s2',i1,i2⟩=>by
   obtain ⟨p,vs,rfl,q,r⟩:=hl.sq s2' i1
   cases i2
   obtain ⟨w,hw,iw⟩:=QK r hi
   exact Y9 a b pins s2 σ H2 _ _ v u Q I2 rx ry ⟨p,vs,i,w,rfl,rfl,q,hw,h3 w G2 H2 e2 s2' iw⟩ (hs _ _))
theorem B2 {xs:List D} {i:Int} (ha:Ac X ρ O a (.tup xs)) (hb:Ac X ρ O b (.int i)) (hi:Be xs i=some d) (hs:Ni b:=by intro _ _; rfl):Ac X ρ O (.Subscript a b pos) d:=λG pins s σ H Q I ⟨h1,h2,h3⟩=>
 Subscript_ (HB (ta:=λσ H Q=>SA X.K G H O/\AF X.K G σ ρ/\∀ v G' H',Ag G G'->SA X.K G' H' O->Is X.K G' (.tup xs) v->Q v H') (ha G)
  (tb:=λσ H Q=>∃ G1,SA X.K G1 H O/\AF X.K G1 σ ρ/\∀ v G' H',Ag G1 G'->SA X.K G' H' O->Is X.K G' (.int i) v->Q v H') (λpins s σ H Q I ⟨G1,q⟩=>hb G1 pins s σ H Q I q) I
  (R:=λx y H2=>∃ G2,Ag G G2/\SA X.K G2 H2 O/\Is X.K G2 (.tup xs) x/\Is X.K G2 (.int i) y)
  ⟨h1,h2,λv G1 H1 e1 s1 i1=>⟨G1,s1,h2.ext e1,λu G2 H2 e2 s2 i2=>⟨G2,e1.trans e2,s2,i1.ext e2,i2⟩⟩⟩
  λv u s2 x y H2 I2 rx ry ⟨G2,e2,s2',i1,i2⟩=>by
   obtain ⟨p,vs,rfl,q,r⟩:=FZ s2' i1
   cases i2
   obtain ⟨w,hw,iw⟩:=QK r hi
   exact Y8 a b pins s2 σ H2 _ _ v u Q I2 rx ry ⟨p,vs,i,w,rfl,rfl,q,hw,h3 w G2 H2 e2 s2' iw⟩ (hs _ _))
def GT (xs:List D) (lo hi:Option Int):List D:=(xs.drop (HT.sIx xs.length 0 lo)).take (HT.sIx xs.length xs.length hi-HT.sIx xs.length 0 lo)
theorem Q0N {xs:List D} {vs:List V} {K:PySem.W.Frag} {G:Wd} {lo hi:Option Int} (r:Am K G xs vs):Am K G (GT xs lo hi) (FG vs lo hi):=by
 unfold GT FG
 rw [<- r.length]
 exact (r.drop _).take _
def GF (X:Cx) (ρ:Aj) (O:Af) (e:Option Expr) (i:Option Int):Prop:=
 ∀ G,PO X e (λσ H Q=>SA X.K G H O/\AF X.K G σ ρ/\∀ G' H',Ag G G'->SA X.K G' H' O->Q i H')
theorem _root_.L2.PO.imp {X:Cx} {e:Option Expr} {t u:TO} (h:PO X e t) (k:∀ σ H Q,u σ H Q->t σ H Q):PO X e u:=λpins s σ H Q I q=>h pins s σ H Q I (k _ _ _ q)
theorem Rh:GF X ρ O none none:=λG=>PO.imp VJ λσ H Q ⟨h1,h2,h3⟩=>h3 G H (Ag.refl _) h1
theorem Jl {i:Int} (h:Ac X ρ O e (.int i)):GF X ρ O (some e) (some i):=λG=>PO.imp (VI (h G)) λσ H Q ⟨h1,h2,h3⟩=>⟨h1,h2,λv G1 H1 e1 s1 i1=>by cases i1; exact ⟨i,rfl,h3 G1 H1 e1 s1⟩⟩
theorem Z9 {xs:List D} {lo hi:Option Expr} {l u:Option Int} {p2:Pos} (ha:Ac X ρ O a da) (hx:LV O da xs) (hl:GF X ρ O lo l) (hh:GF X ρ O hi u):Ac X ρ O (.Subscript a (.Slice lo hi none p2) pos) (.lst (GT xs l u)):=λG=>
 PE.imp (VX TK (ha G) (tl:=λσ H Q=>∃ G1,SA X.K G1 H O/\AF X.K G1 σ ρ/\∀ G' H',Ag G1 G'->SA X.K G' H' O->Q l H') (λpins s σ H Q I ⟨G1,q⟩=>hl G1 pins s σ H Q I q)
  (th:=λσ H Q=>∃ G1,SA X.K G1 H O/\AF X.K G1 σ ρ/\∀ G' H',Ag G1 G'->SA X.K G' H' O->Q u H') (λpins s σ H Q I ⟨G1,q⟩=>hh G1 pins s σ H Q I q)) λσ H Q ⟨h1,h2,h3⟩=>
  ⟨h1,h2,λv G1 H1 e1 s1 i1=>⟨G1,s1,h2.ext e1,λG2 H2 e2 s2=>⟨G2,s2,(h2.ext e1).ext e2,λG3 H3 e3 s3=>by
   obtain ⟨q,vs,rfl,q1,r⟩:=hx.sq s3 (i1.ext (e2.trans e3))
   refine ⟨q,vs,rfl,q1,λz hz=>?_⟩
   obtain ⟨e4,s4⟩:=s3.laid (o:=.lst (FG vs l u)) hz
   exact h3 _ _ _ (((e1.trans e2).trans e3).trans e4) s4 (.lst BF ((Q0N r).ext e4))⟩⟩⟩
theorem Yb {xs ys:List D} (hz:xs.length+ys.length<=sizeLine):Bg X O (binaryOp .Add) (.lst xs) (.lst ys) (.lst (xs++ys)):=
 .of Wq λG v u H Q s h1 h2 k=>by
  cases h1 with
  | lst g1 r1=>
   cases h2 with
   | lst g2 r2=>
    refine ⟨_,_,_,_,rfl,rfl,s.sub _ _ g1,s.sub _ _ g2,by rw [<- r1.length,<- r2.length]; exact hz,λp hp=>?_⟩
    obtain ⟨e4,s4⟩:=s.laid (o:=.lst _) hp
    exact k _ _ _ e4 s4 (.lst BF ((r1.append r2).ext e4))
def BR (X:Cx) (O:Af) (f:Value) (ds:List D) (d:D):Prop:=
 ∀ G,El X f (λvs H Q=>SA X.K G H O/\Am X.K G ds vs/\∀ w G' H',Ag G G'->SA X.K G' H' O->Is X.K G' d w->Q w H')
theorem BR.of {f:Value} {r:List V->Hp->VK->Prop} (ho:El X f r)
  (k:∀ G vs H Q,SA X.K G H O->Am X.K G ds vs->(∀ w G' H',Ag G G'->SA X.K G' H' O->Is X.K G' d w->Q w H')->r vs H Q):BR X O f ds d:=
 λG pins s σ H xs us Q I r ⟨h1,h2,h3⟩=>ho pins s σ H xs us Q I r (k G _ _ _ h1 h2 h3)
theorem AT {id:String} (hm:X.mg x=none) (ha:BK X ρ O (e::es) ds) (hc:BR X O (.builtin id) ds d) (hg:Gl X x:=by rfl) (hv:bootBuiltins x=some (.builtin id):=by first | rfl | decide +kernel) (hn:x ≠ "__name__" := by decide) (hdb:(x==("__debug__" : Str))=false:=by decide)
  (he:starEach (e::es) X.env=(false,eval e X.env)::starEach es X.env:=by rfl) (hpl:(backTo pos (starEach es X.env)).any (·.1)=false:=by rfl):Ac X ρ O (.Call (.Name x p) (e::es) [] pos) d:=λG=>
 PE.imp (Qd (r:=λvs H Q=>∃ G1,SA X.K G1 H O/\Am X.K G1 ds vs/\∀ w G' H',Ag G1 G'->SA X.K G' H' O->Is X.K G' d w->Q w H') (λpins s σ H xs us Q I r ⟨G1,q⟩=>hc G1 pins s σ H xs us Q I r q) hg hm hv (ha G) hn hdb he hpl)
  λσ H Q ⟨h1,h2,h3⟩=>⟨h1,h2,λvs G1 H1 e1 s1 i1=>⟨G1,s1,i1,λw G2 H2 e2 s2 i2=>h3 w G2 H2 (e1.trans e2) s2 i2⟩⟩
theorem BO {T:String} (hm:X.mg x=none) (ha:BK X ρ O (e::es) ds) (hc:BR X O (.type T) ds d) (hg:Gl X x:=by rfl) (hv:bootBuiltins x=some (.type T):=by first | rfl | decide +kernel) (hn:x ≠ "__name__" := by decide) (hdb:(x==("__debug__" : Str))=false:=by decide)
  (he:starEach (e::es) X.env=(false,eval e X.env)::starEach es X.env:=by rfl) (hpl:(backTo pos (starEach es X.env)).any (·.1)=false:=by rfl):Ac X ρ O (.Call (.Name x p) (e::es) [] pos) d:=λG=>
 PE.imp (Qc (r:=λvs H Q=>∃ G1,SA X.K G1 H O/\Am X.K G1 ds vs/\∀ w G' H',Ag G1 G'->SA X.K G' H' O->Is X.K G' d w->Q w H') (λpins s σ H xs us Q I r ⟨G1,q⟩=>hc G1 pins s σ H xs us Q I r q) hg hm hv (ha G) hn hdb he hpl)
  λσ H Q ⟨h1,h2,h3⟩=>⟨h1,h2,λvs G1 H1 e1 s1 i1=>⟨G1,s1,i1,λw G2 H2 e2 s2 i2=>h3 w G2 H2 (e1.trans e2) s2 i2⟩⟩
theorem Dm {xs:List D} (h:LT O d xs):BR X O (.builtin "len") [d] (.int xs.length):=.of Q1x λG vs H Q s i k=>by
 cases i with
 | cons i r=>
  cases r
  rcases h with h | rfl
  ·obtain ⟨p,vs,rfl,q,r⟩:=h.sq s i
   exact ⟨p,vs,rfl,.inl q,by rw [<- r.length]; exact k _ G H (Ag.refl _) s (.int _)⟩
  ·obtain ⟨p,vs,rfl,q,r⟩:=FZ s i
   exact ⟨p,vs,rfl,.inr q,by rw [<- r.length]; exact k _ G H (Ag.refl _) s (.int _)⟩
theorem CD {xs:List D} (h:LT O d xs):BR X O (.type "tuple") [d] (.tup xs):=.of Q1q λG vs H Q s i k=>by
 cases i with
 | cons i r=>
  cases r
  rcases h with h | rfl
  ·obtain ⟨p,vs,rfl,q,r⟩:=h.sq s i
   refine ⟨p,vs,rfl,.inl ⟨q,λl hl=>?_⟩⟩
   obtain ⟨e4,s4⟩:=s.laid (o:=.tup vs) hl
   exact k _ _ _ e4 s4 (.tup (Bv.of BF) (r.ext e4))
  ·obtain ⟨p,vs,rfl,q,r⟩:=FZ s i
   exact ⟨p,vs,rfl,.inr ⟨q,k _ G H (Ag.refl _) s i⟩⟩
theorem Q1F {xs:List D} (h:LT O d xs):BR X O (.type "list") [d] (.lst xs):=.of Q1v λG vs H Q s i k=>by
 cases i with
 | cons i r=>
  cases r
  rcases h with h | rfl
  ·obtain ⟨p,vs,rfl,q,r⟩:=h.sq s i
   refine ⟨p,vs,rfl,.inl q,λl hl=>?_⟩
   obtain ⟨e4,s4⟩:=s.laid (o:=.lst vs) hl
   exact k _ _ _ e4 s4 (.lst BF (r.ext e4))
  ·obtain ⟨p,vs,rfl,q,r⟩:=FZ s i
   refine ⟨p,vs,rfl,.inr q,λl hl=>?_⟩
   obtain ⟨e4,s4⟩:=s.laid (o:=.lst vs) hl
   exact k _ _ _ e4 s4 (.lst BF (r.ext e4))
theorem M0 {i:Int}:BR X O (.builtin "abs") [.int i] (.int (if i<0 then -i else i)):=.of Q1B λG vs H Q s h k=>by
 cases h with | cons h r=>cases r; cases h; exact ⟨i,rfl,k _ G H (Ag.refl _) s (.int _)⟩
theorem Q1E {i j:Int} (hc:X.calm=true:=by rfl):BR X O (.builtin "max") [.int i,.int j] (.int (if j>i then j else i)):=.of (Q1u hc) λG vs H Q s h k=>by
 cases h with | cons h r=>cases r with | cons h' r=>cases r; cases h; cases h'; exact ⟨i,j,rfl,k _ G H (Ag.refl _) s (.int _)⟩
abbrev AH:=List D->Af->(D->Af->Prop)->Prop
def AN (K:PySem.W.Frag) (sp:AH):Sp:=λvs H Q _=>∃ G O ds R,SA K G H O/\Am K G ds vs/\sp ds O R/\∀ v d O' G' H',Ag G G'->SA K G' H' O'->Is K G' d v->R d O'->Q v H'
structure Ah (P:Program) (w:World) (K:PySem.W.Frag) (mg:Str->Option Value) (base:Heap) (k:Nat) (x:Str) (sp:AH):Prop where
 ex:∃ f fd ps,AM P w K mg base AQ k f fd ps (AN K sp)/\mg x=some (.ref f)/\PySem.W.keepIn K (.ref f)=true/\Binds K fd ps []
theorem MK {k:Nat} {sp:AH} (F:Ah X.prog X.w X.K X.mg X.base k x sp) (hr:AL k X.A) (ha:Ek X ρ O (e::es) λds O1=>sp ds O1 R) (hg:Gl X x:=by rfl) (hdb:(x==("__debug__" : Str))=false:=by decide)
  (he:starEach (e::es) X.env=(false,eval e X.env)::starEach es X.env:=by rfl) (hpl:(backTo pos (starEach es X.env)).any (·.1)=false:=by rfl):Ev X ρ O (.Call (.Name x p) (e::es) [] pos) R:=λG=>by
 obtain ⟨f,fd,ps,h1,h2,h3,h4⟩:=F.ex
 refine PE.imp (V6 h1 hr hg h2 h3 h4 .nil Gf (ha G) hdb he hpl) λσ H Q ⟨q1,q2,q3⟩=>⟨q1,q2,λvs ds O1 G1 H1 e1 s1 i1 r1=>?_⟩
 show AN X.K sp (vs++[]) H1 Q E0
 rw [List.append_nil]
 exact ⟨G1,O1,ds,R,s1,i1,r1,λv d O' G' H' e2 s2 i2 r2=>q3 v d O' G' H' (e1.trans e2) s2 i2 r2⟩
theorem Ck {k:Nat} {sp:AH} (F:Ah X.prog X.w X.K X.mg X.base k x sp) (hr:AL k X.A) (ha:BK X ρ O (e::es) ds) (hs:sp ds O R) (hg:Gl X x:=by rfl) (hdb:(x==("__debug__" : Str))=false:=by decide)
  (he:starEach (e::es) X.env=(false,eval e X.env)::starEach es X.env:=by rfl) (hpl:(backTo pos (starEach es X.env)).any (·.1)=false:=by rfl):Ev X ρ O (.Call (.Name x p) (e::es) [] pos) R:=
 MK F hr (ha.as hs) hg hdb he hpl
def Ao (f:List D->D->Prop):AH:=λds O R=>∃ d,f ds d/\R d O
theorem AA {k:Nat} {f:List D->D->Prop} (F:Ah X.prog X.w X.K X.mg X.base k x (Ao f)) (hr:AL k X.A) (ha:BK X ρ O (e::es) ds) (hs:f ds d) (hg:Gl X x:=by rfl) (hdb:(x==("__debug__" : Str))=false:=by decide)
  (he:starEach (e::es) X.env=(false,eval e X.env)::starEach es X.env:=by rfl) (hpl:(backTo pos (starEach es X.env)).any (·.1)=false:=by rfl):Ac X ρ O (.Call (.Name x p) (e::es) [] pos) d:=
 (Ck F hr ha ⟨d,hs,rfl,rfl⟩ hg hdb he hpl).evp
end
structure Bf where
 nx:Aj->Af->Prop
 rt:D->Af->Prop
 bk:Aj->Af->Prop:=λ_ _=>False
 ct:Aj->Af->Prop:=λ_ _=>False
def GD (K:PySem.W.Frag) (G:Wd) (N:Aj->Af->Prop) (n:L2.St->Hp->Prop):Prop:=∀ σ ρ O G' H,Ag G G'->SA K G' H O->AF K G' σ ρ->N ρ O->n σ H
structure DO (K:PySem.W.Frag) (G:Wd) (P:Bf) (E:FQ):Prop where
 nx:GD K G P.nx E.nx
 rt:∀ v d O G' H,Ag G G'->SA K G' H O->Is K G' d v->P.rt d O->E.rt v H
 bk:GD K G P.bk E.bk
 ct:GD K G P.ct E.ct
theorem GD.ext {K:PySem.W.Frag} {G G':Wd} {N:Aj->Af->Prop} {n:L2.St->Hp->Prop} (h:GD K G N n) (e:Ag G G'):GD K G' N n:=λσ ρ O G2 H e2=>h σ ρ O G2 H (e.trans e2)
theorem DO.ext {K:PySem.W.Frag} {G G':Wd} {P:Bf} {E:FQ} (h:DO K G P E) (e:Ag G G'):DO K G' P E:=⟨h.nx.ext e,λv d O G2 H e2=>h.rt v d O G2 H (e.trans e2),h.bk.ext e,h.ct.ext e⟩
def Ex (X:Cx) (ρ:Aj) (O:Af) (st:Stmt) (P:Bf):Prop:=∀ G,PS X st (λE σ H=>SA X.K G H O/\AF X.K G σ ρ/\DO X.K G P E)
def Cm (X:Cx) (ρ:Aj) (O:Af) (st:List Stmt) (P:Bf):Prop:=∀ G,PSs X st (λE σ H=>SA X.K G H O/\AF X.K G σ ρ/\DO X.K G P E)
section
variable {X:Cx} {ρ:Aj} {O:Af} {e a b c:Expr} {es:List Expr} {d da db:D} {ds:List D} {R:D->Af->Prop} {pos p:Pos} {x:Str} {st:Stmt} {rest body orelse:List Stmt} {P:Bf}
theorem Au (h:P.nx ρ O):Cm X ρ O [] P:=λG=>PSs.imp Vx λE σ H ⟨h1,h2,h3⟩=>h3.nx σ ρ O G H (Ag.refl _) h1 h2 h
theorem Ad (h:Ex X ρ O st { P with nx:=λρ' O'=>Cm X ρ' O' rest P }):Cm X ρ O (st::rest) P:=λG=>
 PSs.imp (Vy (h G) (u:=λE σ H=>∃ G1 ρ1 O1,SA X.K G1 H O1/\AF X.K G1 σ ρ1/\Cm X ρ1 O1 rest P/\DO X.K G1 P E) (λpins s σ H E I ⟨G1,ρ1,O1,q1,q2,q3,q4⟩=>q3 G1 pins s σ H E I ⟨q1,q2,q4⟩)) λE σ H ⟨h1,h2,h3⟩=>
  ⟨h1,h2,⟨λσ1 ρ1 O1 G1 H1 e1 s1 n1 q1=>⟨G1,ρ1,O1,s1,n1,q1,h3.ext e1⟩,h3.rt,h3.bk,h3.ct⟩⟩
theorem GI (M:Aj->Af->Prop) (h:Ex X ρ O st { P with nx:=M }) (k:∀ ρ' O',M ρ' O'->Cm X ρ' O' rest P):Cm X ρ O (st::rest) P:=Ad λG=>
 PS.imp (h G) λE σ H ⟨h1,h2,h3⟩=>⟨h1,h2,⟨λσ1 ρ1 O1 G1 H1 e1 s1 n1 q1=>h3.nx σ1 ρ1 O1 G1 H1 e1 s1 n1 (k _ _ q1),h3.rt,h3.bk,h3.ct⟩⟩
theorem AB (h:Ev X ρ O e P.rt):Ex X ρ O (.Return (some e) pos) P:=λG=>PS.imp (VB (h G)) λE σ H ⟨h1,h2,h3⟩=>⟨h1,h2,λv d O' G' H' e1 s1 i1 r1=>h3.rt v d O' G' H' e1 s1 i1 r1⟩
theorem AX (h:Ev X ρ O e λ_ O'=>P.nx ρ O') (hs:swapsWith e none pos.line X.env=pure false:=by rfl):Ex X ρ O (.Expr e pos) P:=λG=>PS.imp (PX (h G) hs) λE σ H ⟨h1,h2,h3⟩=>
 ⟨h1,h2,λv d O' G' H' e1 s1 i1 r1=>h3.nx σ ρ O' G' H' e1 s1 (h2.ext e1) r1⟩
theorem AW {k:Bool} (hc:Bk X ρ O c k) (h1:k=true->Cm X ρ O body P) (h2:k=false->Cm X ρ O orelse P):Ex X ρ O (.If c body orelse pos) P:=λG=>
 PS.imp (PV (hc G) (t:=λE σ H=>∃ G1,k=true/\SA X.K G1 H O/\AF X.K G1 σ ρ/\DO X.K G1 P E) (λpins s σ H E I ⟨G1,z,q⟩=>h1 z G1 pins s σ H E I q)
  (u:=λE σ H=>∃ G1,k=false/\SA X.K G1 H O/\AF X.K G1 σ ρ/\DO X.K G1 P E) (λpins s σ H E I ⟨G1,z,q⟩=>h2 z G1 pins s σ H E I q)) λE σ H ⟨q1,q2,q3⟩=>
  ⟨q1,q2,λG' H' e1 s1=>by
   cases k with
   | true=>exact IR ⟨G',rfl,s1,q2.ext e1,q3.ext e1⟩
   | false=>exact IS ⟨G',rfl,s1,q2.ext e1,q3.ext e1⟩⟩
def Tg (X:Cx) (tg:Expr) (d:D) (ρ ρ':Aj):Prop:=∀ G,PG X tg (λv σ H Q=>Is X.K G d v/\BB G.g H/\AF X.K G σ ρ/\∀ σ',AF X.K G σ' ρ'->Q σ' H)
def Jy (X:Cx) (tg:List Expr) (ds:List D) (ρ ρ':Aj):Prop:=∀ G,HH X tg (λvs σ H Q=>Am X.K G ds vs/\BB G.g H/\AF X.K G σ ρ/\∀ σ',AF X.K G σ' ρ'->Q σ' H)
theorem AC (i:Nat) (hN:X.N.Nodup) (hi:X.N[i]?=some x:=by rfl) (hx:EN X.env.scope x:=by first | exact Or.inl rfl | exact Or.inr rfl) (hf:X.fn x=true\/X.env.scope.names.lookup x=some .local:=by first | exact .inl rfl | exact .inr rfl | assumption):Tg X (.Name x pos) d ρ (ρ.set i (some d)):=λG pins s σ H v u Q I r ⟨h1,h2,h3,h4⟩=>
 VT hN hi hx hf pins s σ H v u Q I r (h4 _ (h3.set i h1))
theorem BU:Jy X [] [] ρ ρ:=λG pins s σ H vs us Q I r ⟨h1,h2,h3,h4⟩=>VQ pins s σ H vs us Q I r ⟨by cases h1; rfl,h4 _ h3⟩
theorem AU {ρ1 ρ2:Aj} (h:Tg X e d ρ ρ1) (k:Jy X es ds ρ1 ρ2) (hs:(assignEach (e::es) X.env).map (·.2)=assign e X.env::(assignEach es X.env).map (·.2):=by rfl):Jy X (e::es) (d::ds) ρ ρ2:=λG pins s σ H vs us Q I r ⟨h1,h2,h3,h4⟩=>by
 cases h1 with
 | cons i1 i2=>
  exact VR (h G) (k G) hs pins s σ H _ us Q I r ⟨_,_,rfl,i1,h2,h3,λσ' n'=>⟨i2,h2,n',h4⟩⟩
theorem BV {ρ1:Aj} {k:Nat} (h:Jy X es ds ρ ρ1) (hc:X.calm=true:=by rfl) (hn:(assignEach es X.env).length=ds.length:=by rfl) (hst:(assignEach es X.env).findIdx? (·.1)=none:=by rfl):Tg X (.Tuple es k pos) (.tup ds) ρ ρ1:=λG pins s σ H v u Q I r ⟨h1,h2,h3,h4⟩=>by
 cases h1 with
 | tup q1 q2=>
  exact VS hc (h G) hn hst pins s σ H _ u Q I r ⟨_,_,rfl,DB h2 q1,by rw [<- q2.length],q2,h2,h3,h4⟩
theorem AJ (i:Nat) (he:Ev X ρ O e λd O'=>P.nx (ρ.set i (some d)) O') (hN:X.N.Nodup) (hi:X.N[i]?=some x:=by rfl) (hx:EN X.env.scope x:=by first | exact Or.inl rfl | exact Or.inr rfl) {p:Pos}
  (hs:swapsWith e (some (.Name x p)) pos.line X.env=pure false:=by rfl) (hf:X.fn x=true\/X.env.scope.names.lookup x=some .local:=by first | exact .inl rfl | exact .inr rfl | assumption):Ex X ρ O (.Assign [.Name x p] e pos) P:=λG=>
 PS.imp (VA hN hi hx (he G) hs hf) λE σ H ⟨h1,h2,h3⟩=>⟨h1,h2,λv d O' G' H' e1 s1 i1 r1=>h3.nx _ _ O' G' H' e1 s1 ((h2.ext e1).set i i1) r1⟩
theorem HU {tg:Expr} {ρ1:Aj} (he:Ac X ρ O e d) (ht:Tg X tg d ρ ρ1) (h:P.nx ρ1 O) (hs:swapsWithSole [tg] e pos.line X.env=pure false:=by rfl) (hw:swappedStores [tg] e X.env=pure none:=by rfl)
  (h1:(assignEach [tg] X.env).map (·.2)=[assign tg X.env]:=by rfl):Ex X ρ O (.Assign [tg] e pos) P:=λG=>
 PS.imp (PY (he G) (g:=λv σ H Q=>∃ G1,Is X.K G1 d v/\BB G1.g H/\AF X.K G1 σ ρ/\∀ σ',AF X.K G1 σ' ρ1->Q σ' H) (λpins s σ H v u Q I r ⟨G1,q⟩=>ht G1 pins s σ H v u Q I r q) hs hw h1) λE σ H ⟨q1,q2,q3⟩=>
  ⟨q1,q2,λv G' H' e1 s1 i1=>⟨G',i1,s1.sub,q2.ext e1,λσ' n'=>q3.nx _ _ O G' H' e1 s1 n' h⟩⟩
theorem HV {q:Nat} {xs:List D} {apos cpos:Pos} (ho:Ac X ρ O a (.ptr q)) (hq:O[q]?=some (some (.lst xs))) (he:Ac X ρ O e d) (hz:xs.length<sizeLine) (h:P.nx ρ (O.set q (some (.lst (xs++[d])))))
  (hbase:attributeBase a ("append" : Str) X.env (eval a X.env)=eval a X.env:=by rfl) (hline:(apos.endLine==cpos.line)=true:=by rfl) (hst:starEach [e] X.env=[(false,eval e X.env)]:=by rfl)
  (hsw:swapsWith (.Call (.Attribute a ("append" : Str) apos) [e] [] cpos) none pos.line X.env=pure false:=by rfl):Ex X ρ O (.Expr (.Call (.Attribute a ("append" : Str) apos) [e] [] cpos) pos) P:=λG=>
 PS.imp (PX (Mg PySem.F.plainAttrs_list PySem.F.slot_list_append PySem.F.type_list_append Yz (ho G)
  (Fr (te:=λσ H Q=>∃ G1,SA X.K G1 H O/\AF X.K G1 σ ρ/\∀ v G' H',Ag G1 G'->SA X.K G' H' O->Is X.K G' d v->Q v H') (λpins s σ H Q I ⟨G1,q⟩=>he G1 pins s σ H Q I q) He hst) hbase
  (by rw [hst]; rfl) hline hst (by rfl)) hsw) λE σ H ⟨q1,q2,q3⟩=>⟨q1,q2,λv G1 H1 e1 s1 i1=>by
   cases i1 with
   | ptr _ ha=>
   obtain ⟨a1,g0,g1,vs,g2,g3⟩:=s1.mt q _ hq
   obtain rfl:=Option.some.inj (ha.symm.trans g0)
   refine ⟨.inl ⟨rfl,vs,A9.of g2⟩,G1,s1,q2.ext e1,λw G2 H2 e2 s2 i2=>?_⟩
   obtain ⟨a2,g7,g4,us,g5,g6⟩:=s2.mt q _ hq
   obtain rfl:=Option.some.inj ((e2.at g0).symm.trans g7)
   refine ⟨_,us,w,rfl,rfl,g5,by rw [<- g6.length]; exact hz,?_⟩
   exact q3.nx σ ρ _ G2 _ (e1.trans e2) (s2.put (m':=.lst (xs++[d])) hq g7 ⟨_,BF,g6.append (.cons i2 .nil)⟩) (q2.ext (e1.trans e2)) h⟩
theorem Sg {body:List Stmt} (inv:Aj->Af->Prop) (μ:Aj->Af->Nat) (h0:inv ρ O)
  (hs:∀ ρ O,inv ρ O->∃ k,Bk X ρ O c k/\(k=true->Cm X ρ O body { P with nx:=λρ' O'=>inv ρ' O'/\μ ρ' O'<μ ρ O,ct:=λρ' O'=>inv ρ' O'/\μ ρ' O'<μ ρ O,bk:=P.nx })/\(k=false->P.nx ρ O))
  (hp:PassesOwn (model X.prog X.w) X.A X.env X.xe:=by exact PassesOwn.never):Ex X ρ O (.While c body [] pos) P:=λG=>
 PS.imp (Vz hp (tc:=λσ H Q=>∃ G1 ρ1 O1 k,SA X.K G1 H O1/\AF X.K G1 σ ρ1/\Bk X ρ1 O1 c k/\∀ G' H',Ag G1 G'->SA X.K G' H' O1->Q k H') (λpins s σ H Q I ⟨G1,ρ1,O1,k,q1,q2,q3,q4⟩=>q3 G1 pins s σ H Q I ⟨q1,q2,q4⟩)
  (tb:=λE σ H=>∃ G1 ρ1 O1 P1,SA X.K G1 H O1/\AF X.K G1 σ ρ1/\Cm X ρ1 O1 body P1/\DO X.K G1 P1 E) (λpins s σ H E I ⟨G1,ρ1,O1,P1,q1,q2,q3,q4⟩=>q3 G1 pins s σ H E I ⟨q1,q2,q4⟩)) λE σ H ⟨q1,q2,q3⟩=>by
  refine ⟨λm σ H=>∃ G1 ρ1 O1,Ag G G1/\SA X.K G1 H O1/\AF X.K G1 σ ρ1/\inv ρ1 O1/\m=μ ρ1 O1,⟨_,G,ρ,O,Ag.refl _,q1,q2,h0,rfl⟩,?_⟩
  rintro m σ1 H1 ⟨G1,ρ1,O1,e1,s1,n1,v1,rfl⟩
  obtain ⟨k,t1,t2,t3⟩:=hs ρ1 O1 v1
  refine ⟨G1,ρ1,O1,k,s1,n1,t1,λG2 H2 e2 s2=>?_⟩
  cases k with
  | true=>
   refine IR ⟨λσ' H'=>∃ G3 ρ3 O3,Ag G G3/\SA X.K G3 H' O3/\AF X.K G3 σ' ρ3/\inv ρ3 O3/\μ ρ3 O3<μ ρ1 O1,λσ' H' ⟨G3,ρ3,O3,e3,s3,n3,v3,l3⟩=>⟨_,l3,G3,ρ3,O3,e3,s3,n3,v3,rfl⟩,?_⟩
   have e12:=e1.trans e2
   refine ⟨G2,ρ1,O1,_,s2,n1.ext e2,t2 rfl,⟨λσ' ρ' O' G3 H3 e3 s3 n3 q=>⟨G3,ρ',O',e12.trans e3,s3,n3,q⟩,λv d O' G3 H3 e3 s3 i3 r=>q3.rt v d O' G3 H3 (e12.trans e3) s3 i3 r,λσ' ρ' O' G3 H3 e3 s3 n3 q=>q3.nx σ' ρ' O' G3 H3 (e12.trans e3) s3 n3 q,
    λσ' ρ' O' G3 H3 e3 s3 n3 q=>⟨G3,ρ',O',e12.trans e3,s3,n3,q⟩⟩⟩
  | false=>exact IS (q3.nx σ1 ρ1 O1 G2 H2 (e1.trans e2) s2 (n1.ext e2) (t3 rfl))
structure DJ (K:PySem.W.Frag) (G:Wd) (J:It) (xs:List D):Prop where
 go:∀ i H,BB G.g H->i<xs.length->J.go i H
 stop:∀ i H,BB G.g H->xs.length<=i->J.stop i H
 yld:∀ i v H H' G2 O2,Ag G G2->SA K G2 H O2->J.yld i H v H'->i<xs.length->∃ x G3,xs[i]?=some x/\Ag G2 G3/\SA K G3 H' O2/\Is K G3 x v
def Ce (X:Cx) (ρ:Aj) (O:Af) (tg iter:Expr) (xs:List D):Prop:=
 ∀ G,PI X tg iter (λσ H R=>SA X.K G H O/\AF X.K G σ ρ/\∀ J G' H',Ag G G'->SA X.K G' H' O->DJ X.K G' J xs->R J H')
theorem _root_.L2.PI.imp {X:Cx} {tg iter:Expr} {t u:TI} (h:PI X tg iter t) (k:∀ σ H R,u σ H R->t σ H R):PI X tg iter u:=λpins s σ H R I q=>h pins s σ H R I (k _ _ _ q)
theorem QM {K:PySem.W.Frag} {G:Wd} {q:Addr} {vs:List V} {xs:List D} (h1:A9 K G.g q vs) (r:Am K G xs vs):DJ K G (Nr K q) xs where
 go:=λi H e hi=>by
  obtain ⟨v,hv,_⟩:=r.get (i:=i) (d:=xs[i]) (by simp [hi])
  exact ⟨vs,v,e.seq h1,hv⟩
 stop:=λi H e hi=>⟨vs,e.seq h1,by rw [<- r.length]; exact hi⟩
 yld:=λi v H H' G2 O2 e s y hi=>by
  obtain ⟨rfl,y⟩:=y
  obtain ⟨x,hx,ix⟩:=r.getV (y vs ((e.g.trans s.sub).seq h1))
  exact ⟨x,G2,hx,Ag.refl _,s,ix.ext e⟩
theorem Zd {K:PySem.W.Frag} {G:Wd} {q:Addr} {vs:List V} {xs:List D} (h1:Bv K G.g q vs) (r:Am K G xs vs):DJ K G (Np K q) xs where
 go:=λi H e hi=>by
  obtain ⟨v,hv,_⟩:=r.get (i:=i) (d:=xs[i]) (by simp [hi])
  exact ⟨vs,v,DB e h1,hv⟩
 stop:=λi H e hi=>⟨vs,DB e h1,by rw [<- r.length]; exact hi⟩
 yld:=λi v H H' G2 O2 e s y hi=>by
  obtain ⟨rfl,y⟩:=y
  obtain ⟨x,hx,ix⟩:=r.getV (y vs (DB (e.g.trans s.sub) h1))
  exact ⟨x,G2,hx,Ag.refl _,s,ix.ext e⟩
theorem Q0F {tg:Expr} {xs:List D} (h:Ac X ρ O e (.lst xs)):Ce X ρ O tg e xs:=λG=>PI.imp (P7 (h G)) λσ H R ⟨h1,h2,h3⟩=>⟨h1,h2,λv G1 H1 e1 s1 i1=>by
 cases i1 with
 | lst q r=>exact ⟨_,rfl,⟨_,A9.of (s1.sub _ _ q)⟩,h3 _ G1 H1 e1 s1 (QM (A9.of q) r)⟩⟩
theorem Q0D {tg:Expr} {xs:List D} (h:Ac X ρ O e (.scr xs)):Ce X ρ O tg e xs:=λG=>PI.imp (P7 (h G)) λσ H R ⟨h1,h2,h3⟩=>⟨h1,h2,λv G1 H1 e1 s1 i1=>by
 cases i1 with
 | scr q r=>exact ⟨_,rfl,⟨_,s1.sub.seq q⟩,h3 _ G1 H1 e1 s1 (QM q r)⟩⟩
theorem Q0B {tg:Expr} {xs:List D} (h:Ac X ρ O e (.tup xs)):Ce X ρ O tg e xs:=λG=>PI.imp (VN (h G)) λσ H R ⟨h1,h2,h3⟩=>⟨h1,h2,λv G1 H1 e1 s1 i1=>by
 cases i1 with
 | tup q r=>exact ⟨_,rfl,⟨_,DB s1.sub q⟩,h3 _ G1 H1 e1 s1 (Zd q r)⟩⟩
def EU (lo:Int) (n:Nat):List D:=(List.range n).map λi=>.int (lo+(i:Nat))
theorem Gd {lo:Int} {n:Nat}:(EU lo n).length=n:=by simp [EU]
theorem PJ {lo:Int} {n i:Nat} (h:i<n):(EU lo n)[i]?=some (.int (lo+(i:Nat))):=by simp [EU,h]
theorem PK {lo:Int} {n i:Nat} {x:D} (h:(EU lo n)[i]?=some x):i<n/\x=.int (lo+(i:Nat)):=by
 have hi:i<n:=by
  have:=(List.getElem?_eq_some_iff.mp h).1
  rw [Gd] at this
  exact this
 rw [PJ hi] at h
 exact ⟨hi,(Option.some.inj h).symm⟩
theorem QL {K:PySem.W.Frag} {G:Wd} {lo:Int} {n:Nat}:DJ K G (HK lo n) (EU lo n) where
 go:=λi H _ hi=>by rw [Gd] at hi; exact hi
 stop:=λi H _ hi=>by rw [Gd] at hi; exact hi
 yld:=λi v H H' G2 O2 e s y hi=>by
  obtain ⟨rfl,rfl⟩:=y
  rw [Gd] at hi
  exact ⟨_,G2,PJ hi,Ag.refl _,s,.int _⟩
theorem FF {tg:Expr} {n:Int} (h:Ac X ρ O e (.int n)) (hm:X.mg "range" = none) (h1:-(2 ^ 62)<=n) (h2:n<2 ^ 62) (hg:Gl X "range" := by rfl) (hs:starEach [e] X.env=[(false,eval e X.env)]:=by rfl):Ce X ρ O tg (.Call (.Name "range" p) [e] [] pos) (EU 0 n.toNat):=λG=>
 PI.imp (VP hg hm (Ab h Ae hs G) hs) λσ H R ⟨q1,q2,q3⟩=>⟨q1,q2,λvs G1 H1 e1 s1 i1=>by
  cases i1 with | cons i r=>cases r; cases i; exact ⟨n,rfl,h1,h2,q3 _ G1 H1 e1 s1 QL⟩⟩
theorem Q0E {tg:Expr} {m n:Int} (ha:Ac X ρ O a (.int m)) (hb:Ac X ρ O b (.int n)) (hm:X.mg "range" = none) (h1:-(2 ^ 62)<=m) (h2:m<2 ^ 62) (h3:-(2 ^ 62)<=n) (h4:n<2 ^ 62) (hg:Gl X "range" := by rfl)
  (hs:starEach [a,b] X.env=[(false,eval a X.env),(false,eval b X.env)]:=by rfl) (hs2:starEach [b] X.env=[(false,eval b X.env)]:=by rfl):Ce X ρ O tg (.Call (.Name "range" p) [a,b] [] pos) (EU m (n-m).toNat):=λG=>
 PI.imp (VO hg hm (Ab ha (Ab hb Ae hs2) (by rw [hs,hs2]) G) hs hs2) λσ H R ⟨q1,q2,q3⟩=>⟨q1,q2,λvs G1 H1 e1 s1 i1=>by
  cases i1 with | cons i r=>cases r with | cons i' r=>cases r; cases i; cases i'; exact ⟨m,n,rfl,⟨h1,h2,h3,h4⟩,q3 _ G1 H1 e1 s1 QL⟩⟩
theorem C5 {tg iter:Expr} {body:List Stmt} {xs:List D} (hi:Ce X ρ O tg iter xs) (inv:Nat->Aj->Af->Prop) (h0:inv 0 ρ O)
  (hs:∀ i x ρ' O',xs[i]?=some x->inv i ρ' O'->∃ ρ1,Tg X tg x ρ' ρ1/\Cm X ρ1 O' body { P with nx:=inv (i+1),ct:=inv (i+1),bk:=P.nx }) (hd:∀ ρ' O',inv xs.length ρ' O'->P.nx ρ' O')
  (hp:PassesOwn (model X.prog X.w) X.A X.env X.xe:=by exact PassesOwn.never) (hc:X.calm=true:=by rfl) (hf:∀ x,foldedSetIterable iter X.env x=pure x:=by intro _; rfl):Ex X ρ O (.For tg iter body [] pos) P:=λG=>
 PS.imp (VC hp hc (hi G) (g:=λv σ H Q=>∃ G1 ρ1 ρ2 x,Tg X tg x ρ1 ρ2/\Is X.K G1 x v/\BB G1.g H/\AF X.K G1 σ ρ1/\∀ σ',AF X.K G1 σ' ρ2->Q σ' H) (λpins s σ H v u Q I r ⟨G1,ρ1,ρ2,x,q,q'⟩=>q G1 pins s σ H v u Q I r q')
  (tb:=λE σ H=>∃ G1 ρ1 O1 P1,SA X.K G1 H O1/\AF X.K G1 σ ρ1/\Cm X ρ1 O1 body P1/\DO X.K G1 P1 E) (λpins s σ H E I ⟨G1,ρ1,O1,P1,q1,q2,q3,q4⟩=>q3 G1 pins s σ H E I ⟨q1,q2,q4⟩) hf) λE σ H ⟨q1,q2,q3⟩=>by
  refine ⟨q1,q2,λJ G1 H1 e1 s1 Y=>?_⟩
  refine ⟨λi m σ H=>∃ G2 ρ2 O2,Ag G1 G2/\SA X.K G2 H O2/\AF X.K G2 σ ρ2/\inv i ρ2 O2/\i<=xs.length/\m=xs.length-i,⟨_,G1,ρ,O,Ag.refl _,s1,q2.ext e1,h0,Nat.zero_le _,rfl⟩,?_⟩
  rintro i m σ2 H2 ⟨G2,ρ2,O2,e2,s2,n2,v2,l2,rfl⟩
  by_cases hlt:i<xs.length
  ·refine .inr ⟨Y.go i H2 (e2.g.trans s2.sub) hlt,λσ' H'=>∃ G3 ρ3 O3,Ag G1 G3/\SA X.K G3 H' O3/\AF X.K G3 σ' ρ3/\inv (i+1) ρ3 O3,λσ' H' ⟨G3,ρ3,O3,e3,s3,n3,v3⟩=>⟨xs.length-(i+1),by omega,G3,ρ3,O3,e3,s3,n3,v3,hlt,rfl⟩,λv H3 y=>?_⟩
   obtain ⟨x,G3,hx,e3,s3,i3⟩:=Y.yld i v H2 H3 G2 O2 e2 s2 y hlt
   obtain ⟨ρ3,t3,b3⟩:=hs i x ρ2 O2 hx v2
   have e13:Ag G1 G3:=e2.trans e3
   refine ⟨G3,ρ2,ρ3,x,t3,i3,s3.sub,n2.ext e3,λσ' n'=>⟨G3,ρ3,O2,_,s3,n',b3,⟨λσ4 ρ4 O4 G4 H4 e4 s4 n4 q=>⟨G4,ρ4,O4,e13.trans e4,s4,n4,q⟩,λv d O4 G4 H4 e4 s4 i4 r=>q3.rt v d O4 G4 H4 (e1.trans (e13.trans e4)) s4 i4 r,
    λσ4 ρ4 O4 G4 H4 e4 s4 n4 q=>q3.nx σ4 ρ4 O4 G4 H4 (e1.trans (e13.trans e4)) s4 n4 q,λσ4 ρ4 O4 G4 H4 e4 s4 n4 q=>⟨G4,ρ4,O4,e13.trans e4,s4,n4,q⟩⟩⟩⟩
  ·have ei:i=xs.length:=by omega
   subst ei
   exact .inl ⟨Y.stop _ H2 (e2.g.trans s2.sub) (Nat.le_refl _),q3.nx σ2 ρ2 O2 G2 H2 (e1.trans e2) s2 n2 (hd _ _ v2)⟩
end
def F2 (N:List Str) (ds:List D):Aj:=ds.map some++List.replicate (N.length-ds.length) none
section
variable {P:Program} {w:World} {K:PySem.W.Frag} {mg:Str->Option Value} {base:Heap}
theorem Oc {G:Wd} {N:List Str} {ds:List D} {vs:List V} (r:Am K G ds vs):AF K G (L2.start N vs) (F2 N ds):=by
 refine ⟨by unfold L2.start F2; simp [r.length],λi d h=>?_⟩
 unfold F2 at h
 by_cases hi:i<ds.length
 ·rw [List.getElem?_append_left (by simpa using hi),List.getElem?_map] at h
  cases q:ds[i]? with
  | none=>rw [q] at h; cases h
  | some d'=>
   rw [q] at h; cases h
   obtain ⟨v,hv,iv⟩:=r.get q
   refine ⟨v,?_,iv⟩
   unfold L2.start
   rw [List.getElem?_append_left (by rw [List.length_map,<- r.length]; exact hi),List.getElem?_map,hv]
   rfl
 ·rw [List.getElem?_append_right (by simpa using hi),List.getElem?_replicate] at h
  split at h <;> cases h
theorem Bc {x qual:Str} {st:Stmt} {f:Addr} {fd:FuncData} {N ps:List Str} {k:Nat} {sp:AH} (F:As K x qual st f fd) (S:Av N ps (An st))
  (len:∀ ds O R,sp ds O R->ds.length=ps.length)
  (hbody:∀ (cdv:Value) (A:Around) (outer:List Env) (s:Shared) (H:Hp) (E:XK) (ds:List D) (O:Af) (R:D->Af->Prop),AL k (A.deeper (envOfC qual (An st) s.heap.objs.size f cdv))->sp ds O R->
   Cm (EH AQ P w K mg base N qual (An st) f cdv A outer s H E).nox (F2 N ds) O (CQ st) { nx:=λ_ O'=>R .non O',rt:=R }):AM P w K mg base AQ (k+1) f fd ps (AN K sp):=by
 refine F.ok S (λvs H Q E h=>?_) (λcdv A outer s H vs Q E hr h=>?_)
 ·obtain ⟨G,O,ds,R,h1,h2,h3,h4⟩:=h
  rw [<- h2.length]
  exact len _ _ _ h3
 ·obtain ⟨G,O,ds,R,h1,h2,h3,h4⟩:=h
  refine ⟨_,hbody cdv A outer s H E ds O R hr h3 G,h1,Oc h2,⟨λσ ρ O' G' H' e1 s1 n1 q=>h4 _ _ O' G' H' e1 s1 .non q,λv d O' G' H' e1 s1 i1 q=>h4 v d O' G' H' e1 s1 i1 q,λσ ρ O' G' H' e1 s1 n1 q=>q.elim,λσ ρ O' G' H' e1 s1 n1 q=>q.elim⟩⟩
theorem AO {x qual:Str} {st:Stmt} {f:Addr} {fd:FuncData} {N ps:List Str} {k:Nat} {sp:AH} (F:As K x qual st f fd) (S:Av N ps (An st)) (hm:mg x=some (.ref f)) (hb:Binds K fd ps [])
  (len:∀ ds O R,sp ds O R->ds.length=ps.length)
  (hbody:∀ (cdv:Value) (A:Around) (outer:List Env) (s:Shared) (H:Hp) (E:XK) (ds:List D) (O:Af) (R:D->Af->Prop),AL k (A.deeper (envOfC qual (An st) s.heap.objs.size f cdv))->sp ds O R->
   Cm (EH AQ P w K mg base N qual (An st) f cdv A outer s H E).nox (F2 N ds) O (CQ st) { nx:=λ_ O'=>R .non O',rt:=R }):Ah P w K mg base (k+1) x sp:=
 ⟨f,fd,ps,Bc F S len hbody,hm,F.kp,hb⟩
end
def GN:AH:=λds O R=>∃ ns:List Int,ds=[.scr (ns.map D.int)]/\ns.length<=63/\R (.bl true) O
theorem YX {K:PySem.W.Frag} {H:Hp} {a:Addr} {ns:List Int} (hl:ns.length<=63) (hS:A9 K H a (ns.map V.int)):AN K GN [.ref a] H (λv _=>v=.bl true) λ_ _ _=>False:=
 ⟨⟨H,[]⟩,[],[.scr (ns.map D.int)],λd _=>d=.bl true,⟨BB.refl _,rfl,List.nodup_nil,λa h=>absurd h List.not_mem_nil,λn m h=>by cases h⟩,.cons (.scr hS Am.ints) .nil,⟨ns,rfl,hl,rfl⟩,λv d O' G' H' _ _ i r=>by subst r; cases i; rfl⟩
section
variable {X:Cx} {ρ:Aj} {O:Af} {e a b c:Expr} {es:List Expr} {d da db:D} {ds:List D} {R:D->Af->Prop} {pos p:Pos} {x:Str}
theorem EE {U:String} (hm:X.mg x=none) (hg:Gl X x:=by rfl) (hv:bootBuiltins x=some (.type U):=by first | rfl | decide +kernel) (hn:x ≠ "__name__" := by decide) (hd:(x==("__debug__" : Str))=false:=by decide):Ac X ρ O (.Name x p) (.ty U):=λG=>
 PE.imp (V7 (v:=.ty U) hg hm hv rfl hn hd) λσ H Q ⟨h1,h2,h3⟩=>h3 _ G H (Ag.refl _) h1 (.ty U)
def tyD:D->Option String
 | .non=>some "NoneType" | .bl _=>some "bool" | .int _=>some "int" | .str _=>some "str" | .tup _=>some "tuple" | .lst _=>some "list" | .scr _=>some "list" | .ptr _=>none | .ty _=>none | .fn _=>none | .dct _ _=>some "dict"
theorem Q1G {T U:String} {k:Bool} (ht:tyD d=some T) (hk:∀ K,PySem.W.kitOne K (.type T) (.type U)=some k):BR X O (.builtin "isinstance") [d,.ty U] (.bl k):=λG pins s σ H xs us Q I r ⟨h1,h2,h3⟩=>by
 cases h2 with
 | cons i r2=>
  cases r2 with
  | cons i' r3=>
   cases r3
   cases i'
   obtain ⟨u,u',rfl,r1,r2⟩:=FX r
   cases r2
   have fin:∀ tk,EP X pins σ Q (.bool k) { s with toks:=tk }:=λtk=>⟨.bl k,H,I.tok tk,rfl,h3 _ G H (Ag.refl _) h1 (.bl k)⟩
   cases i with
   | non=>cases ht; cases r1; exact PySem.W.kia_one PySem.W.kitx_none I.kIn True.intro (hk _) (λz=>nomatch z) fin
   | bl y=>cases ht; cases r1; exact PySem.W.kia_one PySem.W.kitx_bool I.kIn True.intro (hk _) (λz=>nomatch z) fin
   | int i=>cases ht; obtain ⟨t,rfl⟩:=r1; exact PySem.W.kia_one PySem.W.kitx_int I.kIn True.intro (hk _) (λz=>nomatch z) fin
   | str y=>cases ht; obtain ⟨t,rfl⟩:=r1; exact PySem.W.kia_one PySem.W.kitx_str I.kIn True.intro (hk _) (λz=>nomatch z) fin
   | tup q1 q2=>
    cases ht; cases r1
    obtain ⟨its,_,⟨o,g1,g2,_⟩,_⟩:=I.tuple (DB h1.sub q1)
    exact PySem.W.kia_one PySem.W.kitx_tuple I.kIn ⟨o,g1,g2⟩ (hk _) (λz=>nomatch z) fin
   | lst q1 q2=>
    cases ht; cases r1
    obtain ⟨its,_,⟨o,n,g1,g2,_⟩,_⟩:=I.list (A9.of (h1.sub _ _ q1))
    exact PySem.W.kia_one PySem.W.kitx_list I.kIn ⟨o,g1,g2⟩ (hk _) (λz=>nomatch z) fin
   | scr q1 q2=>
    cases ht; cases r1
    obtain ⟨its,_,⟨o,n,g1,g2,_⟩,_⟩:=I.list (h1.sub.seq q1)
    exact PySem.W.kia_one PySem.W.kitx_list I.kIn ⟨o,g1,g2⟩ (hk _) (λz=>nomatch z) fin
   | ptr _ _=>cases ht
   | ty _=>cases ht
   | fn _=>cases ht
   | dct q1 _ q2=>
    cases ht; cases r1
    obtain ⟨_,_,_,_,o,_,_,g1,g2,_⟩:=Rd.ok (.inr ⟨_,h1.sub _ _ q1⟩) I.hok
    exact PySem.W.kia_one PySem.W.kitx_dict I.kIn ⟨o,g1,g2.1⟩ (hk _) (λz=>nomatch z) fin
def N6 (T U:String):Bool:=T==U||(T == "bool" && U == "int")
theorem Y1:∀ T∈["NoneType","bool","int","str","tuple","list","dict"],∀ U∈["int","bool","tuple","str","dict","list"],∀ K,PySem.W.kitOne K (.type T) (.type U)=some (N6 T U):=by
 intro T hT U hU K
 simp only [List.mem_cons,List.not_mem_nil,or_false] at hT hU
 rcases hT with rfl | rfl | rfl | rfl | rfl | rfl | rfl <;> rcases hU with rfl | rfl | rfl | rfl | rfl | rfl <;> kernel_rfl
def IG:D->Bool
 | .ptr _=>false | .ty _=>false | .fn _=>false | _=>true
def IT (d:D) (U:String):Bool:=match tyD d with
 | some T=>N6 T U
 | none=>false
theorem MY {U:String} (h:IG d=true) (hU:U∈["int","bool","tuple","str","dict","list"]):BR X O (.builtin "isinstance") [d,.ty U] (.bl (IT d U)):=by
 cases d with
 | ptr _=>cases h
 | ty _=>cases h
 | fn _=>cases h
 | _=>exact Q1G (T:=_) rfl (Y1 _ wE U hU)
theorem Rz (h:IG d=true):BR X O (.builtin "isinstance") [d,.ty "int"] (.bl (IT d "int")):=MY h wE
theorem RA (h:IG d=true):BR X O (.builtin "isinstance") [d,.ty "bool"] (.bl (IT d "bool")):=MY h wE
theorem Hz (h:IG d=true):BR X O (.builtin "isinstance") [d,.ty "tuple"] (.bl (IT d "tuple")):=MY h wE
theorem Q0c {i:Int} (ha:Ac X ρ O a (.int i)):Ac X ρ O (.UnaryOp .USub a pos) (.int (-i)):=λG=>PE.imp (VV Sw (ha G)) λσ H Q ⟨h1,h2,h3⟩=>⟨h1,h2,λv G1 H1 e1 s1 i1=>by
 cases i1; exact ⟨i,rfl,h3 _ G1 H1 e1 s1 (.int _)⟩⟩
end
def Dd (env:Env):List (Str×NameKind)->List (Str×Addr)->List (Str×Addr)
 | [],cs=>cs
 | (n,k)::r,cs=>if k==.free then Dd env r ((n,(env.cells.lookup n).getD 0)::cs) else Dd env r cs
theorem MT {env:Env} (f:Str×NameKind->List (Str×Addr)->Sem (ForInStep (List (Str×Addr))))
  (hf:∀ n k cs,f (n,k) cs=if (k==NameKind.free)=true then (do let a <- cellOf env n; pure (.yield ((n,a)::cs))) else pure (.yield cs)) :
  ∀ (names:List (Str×NameKind)) (cs:List (Str×Addr)),(∀ y∈names,y.2=.free->∃ a,env.cells.lookup y.1=some a)->forIn names cs f=pure (Dd env names cs)
 | [],cs,_=>by rw [List.forIn_nil]; rfl
 | (n,k)::r,cs,h=>by
  rw [List.forIn_cons,hf]
  have hr:∀ y∈r,y.2=.free->∃ a,env.cells.lookup y.1=some a:=λy hy=>h y (List.mem_cons_of_mem _ hy)
  unfold Dd
  by_cases hk:(k==NameKind.free)=true
  ·rw [if_pos hk,if_pos hk]
   obtain ⟨a,e⟩:=h (n,k) List.mem_cons_self (by simpa using hk)
   have e':cellOf env n=pure a:=by unfold cellOf; rw [e]
   rw [e',e]
   simp only [pure_bind,Option.getD_some]
   exact MT f hf r _ hr
  ·rw [if_neg hk,if_neg hk]
   simp only [pure_bind]
   exact MT f hf r _ hr
theorem Q1m {env:Env} {scope:Scope} (h:∀ y∈scope.names,y.2=.free->∃ a,env.cells.lookup y.1=some a):closureFor scope env=pure (Dd env scope.names []):=by
 have e:=MT (env:=env) (λ(x:Str×NameKind) (cs:List (Str×Addr))=>if (x.2==NameKind.free)=true then (do let a <- cellOf env x.1; pure (.yield ((x.1,a)::cs))) else pure (.yield cs)) (λn k cs=>rfl) scope.names [] h
 unfold closureFor
 exact (congrArg (λz=>z >>= λq=>pure q) e).trans (by simp)
theorem MU {env:Env} {x:Str} {c:Addr}:∀ (names:List (Str×NameKind)) (cs:List (Str×Addr)),(∀ y∈names,y.2=.free->∃ a,env.cells.lookup y.1=some a)->
  (Dd env names cs).lookup x=some c->cs.lookup x=some c\/env.cells.lookup x=some c
 | [],cs,_,h=>.inl h
 | (n,k)::r,cs,hh,h=>by
  have hr:∀ y∈r,y.2=.free->∃ a,env.cells.lookup y.1=some a:=λy hy=>hh y (List.mem_cons_of_mem _ hy)
  unfold Dd at h
  by_cases hk:(k==NameKind.free)=true
  ·rw [if_pos hk] at h
   obtain ⟨a,e⟩:=hh (n,k) List.mem_cons_self (by simpa using hk)
   rcases MU r _ hr h with q | q
   ·rw [e,Option.getD_some,List.lookup_cons] at q
    cases hx:x==n with
    | true=>
     rw [hx] at q
     have:x=n:=by simpa using hx
     subst this
     exact .inr (by cases q; exact e)
    | false=>rw [hx] at q; exact .inl q
   ·exact .inr q
  ·rw [if_neg hk] at h
   exact MU r cs hr h
theorem Hw {env:Env} {x:Str}:∀ (names:List (Str×NameKind)) (cs:List (Str×Addr)),names.lookup x=some .free\/(cs.lookup x).isSome=true->((Dd env names cs).lookup x).isSome=true
 | [],cs,h=>h.elim (λe=>by cases e) id
 | (n,k)::r,cs,h=>by
  unfold Dd
  by_cases hk:(k==NameKind.free)=true
  ·rw [if_pos hk]
   refine Hw r _ ?_
   cases hx:x==n with
   | true=>right; rw [List.lookup_cons,hx]; rfl
   | false=>
    rw [List.lookup_cons,hx] at h
    rw [List.lookup_cons,hx]
    exact h
  ·rw [if_neg hk]
   refine Hw r _ ?_
   cases hx:x==n with
   | true=>
    rw [List.lookup_cons,hx] at h
    rcases h with h | h
    ·cases h; exact absurd rfl hk
    ·exact .inr h
   | false=>rw [List.lookup_cons,hx] at h; exact h
theorem MV {x:Str}:∀ (names:List (Str×NameKind)) (n:Nat) (acc:List (Str×Addr)),(∀ y∈names,y.1=x->y.2≠.cell)->(cellsFrom n names acc).lookup x=acc.lookup x
 | [],_,_,_=>rfl
 | (y,k)::r,n,acc,h=>by
  have hr:∀ z∈r,z.1=x->z.2≠.cell:=λz hz=>h z (List.mem_cons_of_mem _ hz)
  unfold cellsFrom
  by_cases hk:(k==NameKind.cell)=true
  ·rw [if_pos hk,MV r _ _ hr,List.lookup_cons]
   have:y≠x:=λe=>h (y,k) List.mem_cons_self e (by simpa using hk)
   rw [show (x==y)=false from by simpa using Ne.symm this]
  ·rw [if_neg hk]
   exact MV r _ _ hr
theorem MX {x:Str} {c:Addr}:∀ (names:List (Str×NameKind)) (h:Heap) (acc:List (Str×Addr)),(∀ y b,acc.lookup y=some b->∃ v,h.IsCell b v)->(cellsFrom h.objs.size names acc).lookup x=some c->
  (∃ v,(pushCells h names).IsCell c v)/\(acc.lookup x=some c\/h.objs.size<=c)
 | [],h,acc,hc,e=>⟨hc _ _ e,.inl e⟩
 | (y,k)::r,h,acc,hc,e=>by
  unfold cellsFrom at e
  unfold pushCells
  by_cases hk:(k==NameKind.cell)=true
  ·rw [if_pos hk] at e ⊢
   have hz:(h.push { cls:=.type "cell",data:=.cell none }).objs.size=h.objs.size+1:=Heap.size_push ..
   rw [<- hz] at e
   obtain ⟨q1,q2⟩:=MX r (h.push { cls:=.type "cell",data:=.cell none }) ((y,h.objs.size)::acc) (λz b q=>by
    rw [List.lookup_cons] at q
    cases hx:z==y with
    | true=>rw [hx] at q; cases q; exact ⟨none,_,Heap.get?_push_size _ rfl,rfl⟩
    | false=>
     rw [hx] at q
     obtain ⟨v,o,q1,q2⟩:=hc z b q
     exact ⟨v,o,Heap.get?_push_of_some _ q1,q2⟩) e
   refine ⟨q1,?_⟩
   rcases q2 with q2 | q2
   ·rw [List.lookup_cons] at q2
    cases hx:x==y with
    | true=>rw [hx] at q2; cases q2; exact .inr (Nat.le_refl _)
    | false=>rw [hx] at q2; exact .inl q2
   ·exact .inr (by rw [hz] at q2; omega)
  ·rw [if_neg hk] at e ⊢
   exact MX r h acc hc e
theorem MW:∀ (names:List (Str×NameKind)) (n:Nat) (acc:List (Str×Addr)),(∀ x y c,acc.lookup x=some c->acc.lookup y=some c->x=y)->(∀ x c,acc.lookup x=some c->c<n)->
  ∀ x y c,(cellsFrom n names acc).lookup x=some c->(cellsFrom n names acc).lookup y=some c->x=y
 | [],_,_,hi,_=>hi
 | (z,k)::r,n,acc,hi,hl=>by
  unfold cellsFrom
  by_cases hk:(k==NameKind.cell)=true
  ·rw [if_pos hk]
   refine MW r (n+1) ((z,n)::acc) (λx y c e1 e2=>?_) (λx c e=>?_)
   ·rw [List.lookup_cons] at e1 e2
    cases hx:x==z <;> cases hy:y==z <;> rw [hx] at e1 <;> rw [hy] at e2
    ·exact hi x y c e1 e2
    ·cases e2; exact absurd (hl _ _ e1) (Nat.lt_irrefl _)
    ·cases e1; exact absurd (hl _ _ e2) (Nat.lt_irrefl _)
    ·rw [show x=z by simpa using hx,show y=z by simpa using hy]
   ·rw [List.lookup_cons] at e
    cases hx:x==z <;> rw [hx] at e
    ·exact Nat.lt_succ_of_lt (hl _ _ e)
    ·cases e; exact Nat.lt_succ_self _
  ·rw [if_neg hk]
   exact MW r n acc hi hl
theorem IB {env:Env} {x:Str} {k:NameKind}:∀ (names:List (Str×NameKind)),(names.map λ(n,k)=>if (k==NameKind.free&&env.scope.kind==.function&&env.kindOf n==some .cell) then (n,NameKind.cell) else (n,k)).lookup x=some k->
  names.lookup x=some k\/(k=.cell/\names.lookup x=some .free)
 | [],h=>by cases h
 | (n,k')::r,h=>by
  rw [List.map_cons] at h
  by_cases hc:(k'==NameKind.free&&env.scope.kind==.function&&env.kindOf n==some .cell)=true
  ·simp only [hc,if_true] at h
   rw [List.lookup_cons] at h ⊢
   cases hx:x==n with
   | true=>
    rw [hx] at h; cases h
    have:k'=.free:=by
     simp only [Bool.and_eq_true,beq_iff_eq] at hc
     exact hc.1.1
    subst this
    exact .inr ⟨rfl,rfl⟩
   | false=>rw [hx] at h; exact IB r h
  ·simp only [hc,Bool.false_eq_true,if_false] at h
   rw [List.lookup_cons] at h ⊢
   cases hx:x==n with
   | true=>rw [hx] at h; exact .inl h
   | false=>rw [hx] at h; exact IB r h
theorem Ma {env:Env} {x:Str}:∀ (names:List (Str×NameKind)),names.lookup x=some .free->
  (names.map λ(n,k)=>if (k==NameKind.free&&env.scope.kind==.function&&env.kindOf n==some .cell) then (n,NameKind.cell) else (n,k)).lookup x=some .cell \/
  (names.map λ(n,k)=>if (k==NameKind.free&&env.scope.kind==.function&&env.kindOf n==some .cell) then (n,NameKind.cell) else (n,k)).lookup x=some .free
 | [],h=>by cases h
 | (n,k')::r,h=>by
  rw [List.map_cons]
  rw [List.lookup_cons] at h
  by_cases hc:(k'==NameKind.free&&env.scope.kind==.function&&env.kindOf n==some .cell)=true
  ·simp only [hc,if_true]
   rw [List.lookup_cons]
   cases hx:x==n with
   | true=>left; rfl
   | false=>rw [hx] at h; exact Ma r h
  ·simp only [hc]
   cases hx:x==n with
   | true=>rw [hx] at h; right; exact (by simp [List.lookup_cons,hx]; exact Option.some.inj h)
   | false=>
    rw [hx] at h
    simpa [List.lookup_cons,hx] using Ma r h
def Dy (X:Cx) (N:List Str) (scope:Scope) (s:Shared) (H:Hp) (fp:List Addr):Cx:=
 { X with
  N:=N
  s₀:=s
  H₀:=H
  env:=compEnvC scope (cellsFrom (s.heap.objs.size+2) scope.names (Dd X.env scope.names [])) (s.heap.objs.size+1) X.env
  outer:=X.stack
  ex:=fp
  fn:=λx=>scope.names.lookup x==some .cell
  pn:=[]
  xe:=λ_ _=>False }
section
variable {X:Cx} {pins:List (Addr×Obj)} {σ:L2.St} {H:Hp} {s:Shared}
def HN (X:Cx) (scope:Scope):Prop:=∀ y∈scope.names,y.2=.free->X.env.kindOf y.1=some .cell\/X.env.kindOf y.1=some .free
theorem Zk {N:List Str} {scope:Scope} {fp:List Addr} {σ0:L2.St} (I:L2.Inv X pins σ H s) (hf:∀ b∈fp,Cl X pins H b) (ho:∀ b∈fp,∃ o,s.heap.get? b=some o) (hk:scope.kind=.function) (hfr:HN X scope)
  (hl:σ0.length=N.length) (hσ:∀ (i:Nat) (v:V),σ0[i]?=some (some v)->∃ (x:Str) (j:Nat),N[i]?=some x/\scope.names.lookup x=some .free/\(∀ y∈scope.names,y.1=x->y.2≠.cell)/\X.N[j]?=some x/\σ[j]?=some (some v)/\EK X.env.scope x) (t:Nat) (oD:Obj) :
  L2.Inv (Dy X N scope s H fp) [] σ0 H { s with heap:=pushCells ((s.heap.push oD).push { cls:=.type "dict",data:=.dict #[] }) scope.names,toks:=t }:=by
 have hz1:(s.heap.push oD).objs.size=s.heap.objs.size+1:=Heap.size_push ..
 have hz:((s.heap.push oD).push { cls:=.type "dict",data:=.dict #[] }).objs.size=s.heap.objs.size+2:=by rw [Heap.size_push,hz1]
 have up:∀ b o,s.heap.get? b=some o->(pushCells ((s.heap.push oD).push { cls:=.type "dict",data:=.dict #[] }) scope.names).get? b=some o:=λb o e=>pushCells_keeps _ _ b o (Heap.get?_push_of_some _ (Heap.get?_push_of_some _ e))
 have hcl:∀ y∈scope.names,y.2=.free->∃ a,X.env.cells.lookup y.1=some a:=λy hy e=>I.ok.has _ (hfr y hy e)
 have cl1:∀ y b,(Dd X.env scope.names []).lookup y=some b->X.env.cells.lookup y=some b:=λy b e=>by
  rcases MU _ _ hcl e with q | q
  ·cases q
  ·exact q
 have cl2:∀ y b,(Dd X.env scope.names []).lookup y=some b->b<s.heap.objs.size:=λy b e=>by
  obtain ⟨v,q⟩:=I.cell y b (cl1 y b e); exact q.lt
 have cc:∀ y b,(cellsFrom (s.heap.objs.size+2) scope.names (Dd X.env scope.names [])).lookup y=some b->
   (∃ v,(pushCells ((s.heap.push oD).push { cls:=.type "dict",data:=.dict #[] }) scope.names).IsCell b v)/\(X.env.cells.lookup y=some b/\b<s.heap.objs.size\/s.heap.objs.size+2<=b):=λy b e=>by
  rw [<- hz] at e
  obtain ⟨q1,q2⟩:=MX scope.names ((s.heap.push oD).push { cls:=.type "dict",data:=.dict #[] }) _ (λz c q=>by
   obtain ⟨v,o,q1,q2⟩:=I.cell z c (cl1 z c q)
   exact ⟨v,o,Heap.get?_push_of_some _ (Heap.get?_push_of_some _ q1),q2⟩) e
  refine ⟨q1,?_⟩
  rcases q2 with q2 | q2
  ·exact .inl ⟨cl1 _ _ q2,cl2 _ _ q2⟩
  ·rw [hz] at q2; exact .inr q2
 have hlt:=I.lt
 refine ⟨⟨I.ok.mod,hk,I.ok.glob,I.ok.blt,Nat.le_succ _,?_,?_,?_,I.ok.hd,I.ok.frames,.inl rfl,?_,I.bs,Nat.le_trans I.ok.bsz I.sz,?_,?_,I.stack,I.stkFree⟩,rfl,I.bare,Un.kept up,?_,?_,?_,?_,?_,I.hok.kept up,hl⟩
 ·exact MW _ _ _ (λx y c e1 e2=>I.ok.inj x y c (cl1 _ _ e1) (cl1 _ _ e2)) (λx c e=>Nat.lt_of_lt_of_le (cl2 x c e) (Nat.le_add_right _ 2))
 ·intro x hx
  have hx:(relabel scope X.env).names.lookup x=some .cell\/(relabel scope X.env).names.lookup x=some .free:=hx
  have:((cellsFrom (s.heap.objs.size+2) scope.names (Dd X.env scope.names [])).lookup x).isSome=true:=by
   refine PySem.W.cellsFrom_some _ _ _ ?_
   rcases hx with hx | hx
   ·rcases IB _ hx with q | ⟨_,q⟩
    ·exact .inl q
    ·exact .inr (Hw _ _ (.inl q))
   ·rcases IB _ hx with q | ⟨q,_⟩
    ·exact .inr (Hw _ _ (.inl q))
    ·cases q
  exact Option.isSome_iff_exists.mp this
 ·intro x c hfn e
  rcases (cc x c e).2 with ⟨q,q'⟩ | q
  ·exfalso
   have hfn:scope.names.lookup x=some .cell:=by simpa [Dy] using hfn
   -- own names' cells are new
   have:∀ (names:List (Str×NameKind)) (n:Nat) (acc:List (Str×Addr)),names.lookup x=some .cell\/(∃ b,acc.lookup x=some b/\s.heap.objs.size<=b)->s.heap.objs.size<=n->∀ b,(cellsFrom n names acc).lookup x=some b->s.heap.objs.size<=b:=by
    intro names
    induction names with
    | nil=>
     intro n acc h hn b eb
     rcases h with h | ⟨b',h,hb⟩
     ·cases h
     ·have eb:acc.lookup x=some b:=eb
      rw [h] at eb; cases eb; exact hb
    | cons p r ih=>
     obtain ⟨y,k⟩:=p
     intro n acc h hn b eb
     unfold cellsFrom at eb
     by_cases hkc:(k==NameKind.cell)=true
     ·rw [if_pos hkc] at eb
      refine ih (n+1) _ ?_ (Nat.le_succ_of_le hn) b eb
      cases hxy:x==y with
      | true=>right; exact ⟨n,by rw [List.lookup_cons,hxy],hn⟩
      | false=>
       rw [List.lookup_cons,hxy] at h
       rw [List.lookup_cons,hxy]
       exact h
     ·rw [if_neg hkc] at eb
      refine ih n _ ?_ hn b eb
      cases hxy:x==y with
      | true=>
       rw [List.lookup_cons,hxy] at h
       rcases h with h | h
       ·cases h; exact absurd rfl hkc
       ·exact .inr h
      | false=>rw [List.lookup_cons,hxy] at h; exact h
   exact absurd q' (Nat.not_lt.mpr (this scope.names _ _ (.inl hfn) (Nat.le_add_right _ 2) c e))
  ·exact Nat.le_trans (Nat.le_add_right _ 2) q
 ·intro b hb
  have hbl:b<s.heap.objs.size:=let ⟨o,e⟩:=ho b hb; Heap.lt_size e
  refine ⟨Nat.ne_of_lt (Nat.lt_succ_of_lt hbl),λx c e=>?_⟩
  obtain ⟨f0,f1,f2,f3,f4,f5⟩:=hf b hb
  rcases (cc x c e).2 with ⟨q,_⟩ | q
  ·exact f4 x c q
  ·exact Nat.ne_of_gt (Nat.lt_of_lt_of_le (Nat.lt_of_lt_of_le hbl (Nat.le_add_right _ 2)) q)
 ·intro b o e hb
  obtain ⟨f0,f1,f2,f3,f4,f5⟩:=hf b hb
  rcases f3 with q | q
  ·exact I.ok.noex b o e q
  ·exact absurd (Nat.lt_of_lt_of_le (Heap.lt_size e) (Nat.le_trans I.ok.bsz q)) (Nat.lt_irrefl _)
 ·intro b hb z
  obtain ⟨f0,f1,f2,f3,f4,f5⟩:=hf b hb
  rcases List.mem_cons.mp (I.stkSub b z) with q | q
  ·exact f1 q
  ·exact f2 q
 ·refine ⟨λ_=>none,?_,λi x v e1 e2 e3=>?_⟩
  ·show Heap.Ns _ (s.heap.objs.size+1) _
   rw [<- hz1]
   exact (Heap.Ns.new (s.heap.push oD) (.type "dict")).keeps (pushCells_keeps _ _)
  ·obtain ⟨x',j,q1,q2,q3,q4,q5,q6⟩:=hσ i v e2
   have:x'=x:=Option.some.inj (q1.symm.trans e1)
   subst this
   obtain ⟨m,hn,hlk⟩:=I.loc
   obtain ⟨u,ru,lk⟩:=hlk j x' v q4 q5 q6
   refine ⟨u,ru,.inr ⟨?_,?_⟩⟩
   ·exact Ma _ q2
   ·have hks:=hfr (x',.free) (PySem.mem_of_lookup q2) rfl
    rcases lk with ⟨k,_⟩ | ⟨k,c,e,z⟩
    ·rcases hks with z | z
     ·rw [k] at z; cases z
     ·rw [k] at z; cases z
    ·refine ⟨c,?_,z.keeps up⟩
     show (cellsFrom _ _ _).lookup x'=some c
     rw [MV _ _ _ q3]
     obtain ⟨b,eb⟩:=Option.isSome_iff_exists.mp (Hw (env:=X.env) scope.names [] (.inl q2))
     rw [eb,<- cl1 _ _ eb,e]
 ·exact λx c e=>(cc x c e).1
 ·exact I.hok.fresh (Nat.le_succ _)
 ·intro x c e
  rcases (cc x c e).2 with ⟨q,_⟩ | q
  ·exact I.freeC x c q
  ·exact I.hok.fresh (Nat.le_trans (Nat.le_add_right _ 2) q)
 ·intro p hp
  exact absurd (show p∈([]:List (Addr×Obj)) from hp) (by simp)
end
theorem Yp {M:Model} {A:Around} {E:Value->Shared->Prop} {s:Shared} {scope:Scope} {g:Addr} {cl:List (Str×Addr)} {q:Str} {env:Env} {Q:Env->Shared->Prop}
  (h:∀ b,b=env.builtins->Q { scope:=scope,locals:=s.heap.objs.size,globals:=g,cells:=cellsFrom (s.heap.objs.size+1) scope.names cl,qual:=q,func:=none,code:=env.code,frame:=env.frame,builtins:=b }
   { s with heap:=pushCells (s.heap.push { cls:=.type "dict",data:=.dict #[] }) scope.names }):wpAny M A (newFunctionEnv scope g cl [] q none .none (some env)) Q E s:=by
 simp only [newFunctionEnv,Option.isSome_some,if_true]
 refine wpAny_bind (wpAny_alloc ?_)
 refine wpAny_bind (wpAny_layCells _ (λn k cells=>by cases hkc:k==NameKind.cell <;> simp [hkc]) _ _ _ _ ?_)
 rw [show ({ s with heap:=s.heap.push { cls:=.type "dict",data:=.dict #[] } }:Shared).heap.objs.size=s.heap.objs.size+1 from Heap.size_push ..]
 rw [List.forIn_nil]
 exact wpAny_bind (wpAny_pure (wpAny_pure (h _ rfl)))
theorem Q2c {fs ex:List Addr} {H H':Hp} {h h':Heap} {D:Addr} {o:HO} (u:Un fs ex H H' h h') (hn:H D=none) (hh:h.get? D=none):Un fs ex H (AI H' D o) h h' where
 keep:=u.keep
 slot:=u.slot
 free:=λb ob q n hx=>by
  rw [A4 (λz=>by rw [z,hh] at q; cases q)]; exact u.free b ob q n hx
 there:=u.there
 tups:=λb xs q=>by rw [A4 (D6 q hn)]; exact u.tups b xs q
 frzs:=λb ob xs q=>by rw [A4 (D6 q hn)]; exact u.frzs b ob xs q
 tbls:=λb ps q=>by rw [A4 (D6 q hn)]; exact u.tbls b ps q
theorem R4 {P:Program} {w:World} {H:Hp} {h:Heap} {D:Addr} {o:HO} (x:A3 P w H h) (hn:H D=none) (new:B7 P w (AI H D o) h D o):A3 P w (AI H D o) h:=λb u e=>by
 by_cases hb:b=D
 ·subst hb
  rw [BF] at e
  cases e
  exact new
 ·rw [A4 hb] at e
  refine (x b u e).stay (λc v _ q=>q) (λc q=>?_) λc xs q=>?_
  ·rw [A4 (D6 q hn)]; exact q
  ·rw [A4 (D6 q hn)]; exact q
theorem Q0Z {prog:Program} {w:World} {A:Around} {R:Result->Shared->Prop} {elt tg iter:Expr} {ifs:List Expr} {scope:Scope} {pos:Pos} {it acc:Value} {env:Env} (V:Nat->Shared->Prop)
  (turn:∀ (n:Nat) (s:Shared) (F:Value->Shared->Prop),V n s->wpAny (model prog w) A (pyNext it) (λr s1=>match r with
   | none=>R (.ok .next) s1
   | some v=>wpAny (model prog w) A (letOwnedTupleGo tg it v) (λ_ s2=>wpAny (model prog w) A (assign tg env v) (λ_ s3=>
     wpAny (model prog w) A (compTests ifs env) (λok s4=>if ok=true then wpAny (model prog w) A (eval elt env) (λx s5=>wpAny (model prog w) A (call (.builtin "list.append") [acc,x]) (λ_ s6=>∃ m,m<n/\V m s6) F s5) F s4
      else ∃ m,m<n/\V m s4) F s3) F s2) F s1) F s) :
  ∀ (n:Nat) (s:Shared),V n s->codeAny (model prog w) A (.compLoop (.ListComp elt [⟨tg,iter,ifs,0⟩] scope pos) 0 it acc env) R s:=λn s h=>by
 refine codeAny_loop rfl V (λn s hV=>?_) n h
 refine wpAny_noted ?_
 rw [compTurn_list]
 refine wpAny_bind (wpAny_standAt (wpAny_bind (Az (turn n s _ hV) λr s1 h1=>?_)))
 cases r with
 | none=>exact wpAny_pure h1
 | some v=>
  refine wpAny_bind (Az h1 λ_ s2 h2=>wpAny_bind (Az h2 λ_ s3 h3=>?_))
  have h3:wpAny (model prog w) A (compTests ifs env) _ _ s3:=h3
  unfold compTests at h3
  rw [show ∀ x:Sem Bool,(x >>= λq=>pure q)=x from λx=>bind_pure x] at h3
  refine wpAny_bind (Az h3 λok s4 h4=>?_)
  cases ok with
  | false=>exact wpAny_pure ⟨rfl,h4⟩
  | true=>exact wpAny_bind (wpAny_bind (Az h4 λx s5 h5=>wpAny_bind (Az h5 λ_ s6 h6=>wpAny_pure (wpAny_pure ⟨rfl,h6⟩))))
abbrev Dv (ys:List Value):Obj:={ cls:=.type "list",data:=.seq ys.toArray ys.length }
def JG (X:Cx) (ρ:Aj) (O:Af) (elt:Expr):List Expr->Option D->Prop
 | [],z=>∃ y,z=some y/\Ac X ρ O elt y
 | [c],z=>∃ k,Bk X ρ O c k/\(k=true->∃ y,z=some y/\Ac X ρ O elt y)/\(k=false->z=none)
 | _,_=>False
def RY (X:Cx) (ρ:Aj) (O O':Af) (elt:Expr):List Expr->Option D->Prop
 | [],z=>∃ y,z=some y/\Ev X ρ O elt (λd O2=>d=y/\O2=O')
 | [c],z=>∃ k,Bk X ρ O c k/\(k=true->∃ y,z=some y/\Ev X ρ O elt (λd O2=>d=y/\O2=O'))/\(k=false->z=none/\O'=O)
 | _::_::_,_=>False
theorem JG.s {X:Cx} {ρ:Aj} {O:Af} {elt:Expr} {z:Option D}:∀ {ifs:List Expr},JG X ρ O elt ifs z->RY X ρ O O elt ifs z
 | [],h=>by obtain ⟨y,h1,h2⟩:=h; exact ⟨y,h1,h2.ev ⟨rfl,rfl⟩⟩
 | [c],h=>by
  obtain ⟨k,h1,h2,h3⟩:=h
  exact ⟨k,h1,λe=>by obtain ⟨y,g1,g2⟩:=h2 e; exact ⟨y,g1,g2.ev ⟨rfl,rfl⟩⟩,λe=>⟨h3 e,rfl⟩⟩
 | _::_::_,h=>h.elim
theorem AF.weak {K:PySem.W.Frag} {G:Wd} {σ:L2.St} {ρ ρ':Aj} (h:AF K G σ ρ) (hl:ρ'.length=ρ.length) (hs:∀ (i:Nat) (d:D),ρ'[i]?=some (some d)->ρ[i]?=some (some d)):AF K G σ ρ':=
 ⟨h.len.trans hl.symm,λi d e=>h.get i d (hs i d e)⟩
theorem Q5 {α:Type} (P:Nat->α->Prop):∀ n:Nat,(∀ i,i<n->∃ a,P i a)->∃ l:List α,l.length=n/\∀ i a,l[i]?=some a->P i a
 | 0,_=>⟨[],rfl,λi a h=>by simp at h⟩
 | n+1,h=>by
  obtain ⟨l,h1,h2⟩:=Q5 P n λi hi=>h i (Nat.lt_succ_of_lt hi)
  obtain ⟨a,ha⟩:=h n (Nat.lt_succ_self _)
  refine ⟨l++[a],by simp [h1],λi b hb=>?_⟩
  by_cases hi:i<n
  ·rw [List.getElem?_append_left wF] at hb; exact h2 i b hb
  ·have hin:i=n:=by
    have:=(List.getElem?_eq_some_iff.mp hb).1
    simp [h1] at this; omega
   subst hin
   rw [List.getElem?_append_right wF,h1,Nat.sub_self] at hb
   cases hb; exact ha
section
variable {X:Cx} {ρ:Aj} {O:Af} {elt tg iter:Expr} {ifs:List Expr} {scope:Scope} {pos:Pos} {xs:List D} {zs:List (Option D)}
theorem Q0 {α:Type}:∀ (zs:List (Option α)) (i:Nat) (z:Option α),zs[i]?=some z->(zs.take (i+1)).filterMap id=(zs.take i).filterMap id++z.toList:=by
 intro zs i z h
 rw [List.take_add_one,h,List.filterMap_append]
 cases z <;> rfl
theorem Ru (S:Nat->Af) (hS0:S 0=O) (N:List Str) (js:List Nat) (ρ0:Aj) (hi:Ce X ρ O tg iter xs) (hc:X.calm=true) (hk:scope.kind=.function) (hfr:HN X scope) (hnm:∀ x∈scope.names,x.2=.local->scope.names.lookup x.1=some .local)
    (hl0:ρ0.length=N.length)
    (h0:∀ (i:Nat) (d:D),ρ0[i]?=some (some d)->∃ (x:Str) (j:Nat),N[i]?=some x/\scope.names.lookup x=some .free/\(∀ y∈scope.names,y.1=x->y.2≠.cell)/\X.N[j]?=some x/\ρ[j]?=some (some d)/\EK X.env.scope x)
    (hzl:zs.length=xs.length) (hsz:xs.length<=sizeLine)
    (turn:∀ (s:Shared) (H:Hp) (fp:List Addr) (i:Nat) (x:D) (z:Option D),xs[i]?=some x->zs[i]?=some z->∃ ρ1,Tg (Dy X N scope s H fp) tg x ρ0 ρ1/\ρ1.length=ρ0.length/\(∀ (j:Nat) (d:D),ρ0[j]?=some (some d)->ρ1[j]?=some (some d))/\RY (Dy X N scope s H fp) ρ1 (S i) (S (i+1)) elt ifs z)
    {use:Option (Value->Sem Unit)} {pins:List (Addr×Obj)} {s:Shared} {σ:L2.St} {H:Hp} {G:Wd} {Q:Value->Shared->Prop} (I:L2.Inv X pins σ H s) (sa:SA X.K G H O) (en:AF X.K G σ ρ)
    (fin:∀ (D C:Addr) (s':Shared) (H5:Hp) (G5:Wd) (vs:List V),L2.Inv X pins σ (AI H5 D (.lst vs)) s'->Ag G G5->SA X.K G5 H5 (S xs.length)->H5 D=none->Am X.K G5 (zs.filterMap id) vs->Cl X pins (AI H5 D (.lst vs)) C->(∃ m,s'.heap.Ns C m)->compPost (model X.prog X.w) X.A X.xe use Q (.ref D) C (.ok .next) s')
    (hs:∀ x,foldedSetIterable iter X.env x=pure x:=by intro _; rfl) :
    wpAny (model X.prog X.w) X.A (comprehension (.ListComp elt [⟨tg,iter,ifs,0⟩] scope pos) scope X.env (firstIterPos [⟨tg,iter,ifs,0⟩] pos) (newList []) false (eval iter X.env) use) Q X.xe s:=by
  refine wpAny_comprehension_free rfl hs (Q1m λy hy e=>I.ok.has _ (hfr y hy e)) hk hnm (Az (hi G pins s σ H (λJ H1=>∃ G1,Ag G G1/\SA X.K G1 H1 O/\DJ X.K G1 J xs) I ⟨sa,en,λJ G1 H1 e1 s1 y1=>⟨G1,e1,s1,y1⟩⟩) λv s1 h1=>Az h1 λitv s2 h2=>?_)
  obtain ⟨it,fp,tn,J,H2,e,I2,T,st2,f2,G2,e2,sa2,Yi⟩:=h2
  subst e
  have ho2:∀ b∈fp,∃ o,s2.heap.get? b=some o:=λb hb=>let ⟨o,q,_⟩:=T.obj 0 _ st2 b hb; ⟨o,q⟩
  have hlt:∀ b∈fp,b<s2.heap.objs.size:=λb hb=>let ⟨o,q⟩:=ho2 b hb; Heap.lt_size q
  unfold newList
  refine wpAny_newObj_type (Yp λbb hbb=>?_)
  have hbb':bb=X.env.builtins:=hbb
  subst hbb'
  have hz1:(s2.heap.push { cls:=.type "list",dict:=none,data:=.seq ([]:List Value).toArray }).objs.size=s2.heap.objs.size+1:=Heap.size_push ..
  dsimp only
  rw [hz1]
  generalize hD:s2.heap.objs.size=dd at hz1 ⊢
  -- the block's own context
  have en2:AF X.K G2 σ ρ:=en.ext e2
  obtain ⟨σ0,hσl,hσ0⟩:=Q5 (λi (o:Option V)=>(∀ d,ρ0[i]?=some (some d)->∃ v,o=some v/\Is X.K G2 d v)/\∀ v,o=some v->∃ (x:Str) (j:Nat),N[i]?=some x/\scope.names.lookup x=some .free/\(∀ y∈scope.names,y.1=x->y.2≠.cell)/\X.N[j]?=some x/\σ[j]?=some (some v)/\EK X.env.scope x) N.length (λi hi=>by
    cases q:ρ0[i]? with
    | none=>exact ⟨none,And.intro (λd z=>nomatch z) (λv z=>nomatch z)⟩
    | some o=>
      cases o with
      | none=>exact ⟨none,And.intro (λd z=>nomatch z) (λv z=>nomatch z)⟩
      | some d=>
        obtain ⟨x,j,q1,q2,q3,q4,q5,q6⟩:=h0 i d q
        obtain ⟨v,q7,q8⟩:=en2.get j d q5
        exact ⟨some v,And.intro (λd' z=>by cases z; exact ⟨v,rfl,q8⟩) (λv' z=>by cases z; exact ⟨x,j,q1,q2,q3,q4,q7,q6⟩)⟩)
  have en0:AF X.K G2 σ0 ρ0:=⟨hσl.trans hl0.symm,λi d e=>by
    have hi:i<σ0.length:=by rw [hσl,<- hl0]; exact (List.getElem?_eq_some_iff.mp e).1
    obtain ⟨v,e1,e2⟩:=(hσ0 i σ0[i] (List.getElem?_eq_getElem hi)).1 d e
    exact ⟨v,by rw [List.getElem?_eq_getElem hi,e1],e2⟩⟩
  have I3:=Zk (N:=N) (scope:=scope) (fp:=fp) (σ0:=σ0) I2 f2 ho2 hk hfr hσl (λi v e=>(hσ0 i _ e).2 v rfl) s2.toks { cls:=.type "list",dict:=none,data:=.seq ([]:List Value).toArray }
  generalize hY:Dy X N scope s2 H2 fp=Y at I3
  have hD1:(pushCells ((s2.heap.push { cls:=.type "list",dict:=none,data:=.seq ([]:List Value).toArray }).push { cls:=.type "dict",data:=.dict #[] }) scope.names).get? dd=some (Dv []):=by
    refine pushCells_keeps _ _ _ _ (Heap.get?_push_of_some _ ?_)
    rw [<- hD]
    exact Heap.get?_push_size _ rfl
  have hHD:H2 dd=none:=I2.hok.fresh (by rw [hD]; exact Nat.le_refl _)
  have hsD:s2.heap.get? dd=none:=Heap.get?_none_of_le (by rw [hD]; exact Nat.le_refl _)
  have hDC:dd≠Y.env.locals:=by
    rw [<- hY]; show dd≠s2.heap.objs.size+1; rw [hD]; exact Nat.ne_of_lt (Nat.lt_succ_self _)
  have hfs:∀ b∈Dj X.stack,b<s2.heap.objs.size:=λb hb=>by
    rcases List.mem_cons.mp (I2.stkSub b hb) with q | q
    · rw [q]; exact I2.lt
    · exact Nat.lt_of_not_le λz=>I2.nofs z q
  have hYfs:Y.fs=Dj X.stack:=by rw [<- hY]; rfl
  have hDfs:dd∉Y.fs:=λz=>by rw [hYfs] at z; have:=hfs dd z; rw [hD] at this; exact Nat.lt_irrefl _ this
  have hYex:Y.ex=fp:=by rw [<- hY]; rfl
  have hYpn:Y.pn=[]:=by rw [<- hY]; rfl
  have hYxe:Y.xe=λ_ _=>False:=by rw [<- hY]; rfl
  have hYs:Y.s₀.heap.objs.size=dd:=by rw [<- hY]; exact hD
  have hYc:∀ x c,Y.env.cells.lookup x=some c->c≠dd/\∀ b∈fp,c≠b:=λx c e=>by
    refine ⟨?_,λb hb=>?_⟩
    ·
      intro z
      subst z
      obtain ⟨v,o,q1,q2⟩:=I3.cell x c e
      rw [hD1] at q1; cases q1; cases q2
    ·
      have:=I3.ok.exf b (by rw [hYex]; exact hb)
      exact this.2 x c e
  have fpY:∀ {H':Hp} {pl:List (Addr×Obj)},(∀ b∈fp,H' b=none)->(∀ p∈pl,p.1=dd)->∀ b∈fp,Cl Y pl H' b:=λhn hp b hb=>⟨hn b hb,(I3.ok.exf b (by rw [hYex]; exact hb)).1,I3.ok.exfs b (by rw [hYex]; exact hb),.inl (by rw [hYex]; exact hb),λx c e=>(hYc x c e).2 b hb,λp hq=>by
    rw [hYpn,List.nil_append] at hq
    rw [hp p hq]
    exact Nat.ne_of_gt (by rw [<- hD]; exact hlt b hb)⟩
  have I4:L2.Inv Y [(dd,Dv [])] σ0 H2 { s2 with heap:=pushCells ((s2.heap.push { cls:=.type "list",dict:=none,data:=.seq ([]:List Value).toArray }).push { cls:=.type "dict",data:=.dict #[] }) scope.names,toks:=s2.toks }:=I3.pins_of λp hp=>by
    rw [List.mem_singleton.mp hp]
    exact ⟨hD1,hHD,hDC,hDfs,λv z=>by cases z⟩
  have st4:tn 0 (pushCells ((s2.heap.push { cls:=.type "list",dict:=none,data:=.seq ([]:List Value).toArray }).push { cls:=.type "dict",data:=.dict #[] }) scope.names):=T.keep 0 _ _ st2 λb hb o e=>pushCells_keeps _ _ b o (Heap.get?_push_of_some _ (Heap.get?_push_of_some _ e))
  have hYp:Y.prog=X.prog:=by rw [<- hY]; rfl
  have hYw:Y.w=X.w:=by rw [<- hY]; rfl
  have hYK:Y.K=X.K:=by rw [<- hY]; rfl
  have hYA:Y.A=X.A:=by rw [<- hY]; rfl
  have hYcm:Y.calm=true:=by rw [<- hY]; exact hc
  have loop:∀ s3:Shared,s3={ s2 with heap:=pushCells ((s2.heap.push { cls:=.type "list",dict:=none,data:=.seq ([]:List Value).toArray }).push { cls:=.type "dict",data:=.dict #[] }) scope.names }->
      codeAny (model X.prog X.w) X.A (.compLoop (.ListComp elt [⟨tg,iter,ifs,0⟩] scope pos) 0 (.ref it) (.ref dd) Y.env) (compPost (model X.prog X.w) X.A X.xe use Q (.ref dd) (dd+1)) s3:=by
    rintro s3 rfl
    refine Q0Z (λn s'=>∃ (i:Nat) (G':Wd) (σ':L2.St) (H':Hp) (vs:List V) (its:List Value),n=xs.length-i/\i<=xs.length/\L2.Inv Y [(dd,Dv its)] σ' H' s'/\tn i s'.heap/\(∀ b∈fp,H' b=none)/\Ag G2 G'/\SA X.K G' H' (S i)/\AF X.K G' σ' ρ0 /\
      Am X.K G' ((zs.take i).filterMap id) vs/\AD vs its/\its.length<=i) ?_ xs.length _ ⟨0,G2,σ0,H2,[],[],rfl,Nat.zero_le _,I4,st4,λb hb=>(f2 b hb).1,Ag.refl _,hS0 ▸ sa2,en0,.nil,.nil,Nat.le_refl _⟩
    rintro n s5 F ⟨i,G5,σ5,H5,vs,its,rfl,hil,I5,st5,fr5,e5,sa5,en5,is5,va5,hl5⟩
    by_cases hlt5:i<xs.length
    ·
      have hx:xs[i]?=some xs[i]:=List.getElem?_eq_getElem hlt5
      have hzi:i<zs.length:=by omega
      have hz:zs[i]?=some zs[i]:=List.getElem?_eq_getElem hzi
      generalize xs[i]=x at hx
      generalize zs[i]=z at hz
      have it5:=T.item Y hYp hYw hYK hYcm i [(dd,Dv its)] s5 σ5 H5 F I5 (fpY fr5 (λp hp=>by rw [List.mem_singleton.mp hp])) st5 (Yi.go i H5 (e5.g.trans sa5.sub) hlt5)
      rw [hYA] at it5
      refine Az it5 λr s6 ⟨u,hr,h6⟩=>?_
      subst hr
      refine Az h6 λ_ s7 ⟨xv,H7,I7,r7,y7,st7,fr7⟩=>?_
      obtain ⟨x',G7,hx',e7,sa7,ix⟩:=Yi.yld i xv H5 H7 G5 (S i) e5 sa5 y7 hlt5
      have:x'=x:=Option.some.inj (hx'.symm.trans hx)
      subst this
      have I7':=I7.pinned (fpY fr7 (λp hp=>by rw [List.mem_singleton.mp hp])) (T.obj _ _ st7)
      obtain ⟨ρ1,tg1,hl1,hs1,kp1⟩:=turn s2 H2 fp i x' z hx hz
      rw [hY] at tg1 kp1
      have xeF:∀ {α:Type} {t:Sem α} {P:α->Shared->Prop} {q:Shared},wpAny (model Y.prog Y.w) Y.A t P Y.xe q->wpAny (model X.prog X.w) X.A t P F q:=λh=>by
        rw [hYp,hYw,hYA,hYxe] at h
        exact wpAny_mono h (λ_ _ q=>q) λ_ _ q=>q.elim
      refine Az (xeF (tg1 G7 _ s7 σ5 H7 xv u (λσ' H'=>AF X.K G7 σ' ρ1/\H'=H7) I7' r7 (by
        rw [hYK]
        exact ⟨ix,sa7.sub,en5.ext e7,λσ' q=>⟨q,rfl⟩⟩))) λ_ s8 ⟨σ8,H8,I8,en8,hH8⟩=>?_
      subst hH8
      -- back to the invariant,with or without one more
      have again:∀ {s9:Shared} {H9:Hp} {G9:Wd} {its':List Value} {vs':List V},L2.Inv Y ((dd,Dv its')::Ew fp s7.heap) σ8 H9 s9->Ag G7 G9->SA X.K G9 H9 (S (i+1))->Am X.K G9 ((zs.take (i+1)).filterMap id) vs'->AD vs' its'->its'.length<=i+1->
          ∃ m,m<xs.length-i/\∃ (i:Nat) (G':Wd) (σ':L2.St) (H':Hp) (vs:List V) (its:List Value),m=xs.length-i/\i<=xs.length/\L2.Inv Y [(dd,Dv its)] σ' H' s9/\tn i s9.heap/\(∀ b∈fp,H' b=none)/\Ag G2 G'/\SA X.K G' H' (S i)/\AF X.K G' σ' ρ0 /\
            Am X.K G' ((zs.take i).filterMap id) vs/\AD vs its/\its.length<=i:=λ{s9 H9 G9 its' vs'} I9 e9 sa9 is9 va9 hl9=>by
        refine ⟨xs.length-(i+1),by omega,i+1,G9,σ8,H9,vs',its',rfl,hlt5,I9.pins_of (λp hp=>I9.pin p (by rw [hYpn,List.nil_append]; rw [List.mem_singleton.mp hp]; exact List.mem_cons_self)),T.keep _ _ _ st7 λb hb o e=>(I9.pin (b,o) (by rw [hYpn,List.nil_append]; exact List.mem_cons_of_mem _ (IP hb e))).1,λb hb=>?_,(e5.trans e7).trans e9,sa9,(en8.weak hl1.symm hs1).ext e9,is9,va9,hl9⟩
        obtain ⟨o,e,_⟩:=T.obj _ _ st7 b hb
        exact (I9.pin (b,o) (by rw [hYpn,List.nil_append]; exact List.mem_cons_of_mem _ (IP hb e))).2.1
      have more:∀ {y:D} {s9:Shared} {G9:Wd} {H9:Hp},z=some y->L2.Inv Y ([(dd,Dv its)]++Ew fp s7.heap) σ8 H9 s9->Ag G7 G9->SA X.K G9 H9 (S i)->Ev Y ρ1 (S i) elt (λd O'=>d=y/\O'=S (i+1))->wpAny (model X.prog X.w) X.A (eval elt Y.env) (λx s5=>wpAny (model X.prog X.w) X.A (call (.builtin "list.append") [.ref dd,x]) (λ_ s6=>∃ m,m<xs.length-i/\∃ (i:Nat) (G':Wd) (σ':L2.St) (H':Hp) (vs:List V) (its:List Value),m=xs.length-i/\i<=xs.length/\L2.Inv Y [(dd,Dv its)] σ' H' s6/\tn i s6.heap/\(∀ b∈fp,H' b=none)/\Ag G2 G'/\SA X.K G' H' (S i)/\AF X.K G' σ' ρ0 /\
            Am X.K G' ((zs.take i).filterMap id) vs/\AD vs its/\its.length<=i) F s5) F s9:=λ{y s9 G9 H9} hzy I9 e9 sa9 ev=>by
        refine Az (xeF (ev G9 _ s9 σ8 H9 (λv H'=>∃ G',Ag G9 G'/\SA X.K G' H' (S (i+1))/\Is X.K G' y v) I9 (by
          rw [hYK]
          exact ⟨sa9,en8.ext e9,λv d O' G' H' q1 q2 q3 q4=>by obtain ⟨rfl,rfl⟩:=q4; exact ⟨G',q1,q2,q3⟩⟩))) λuy s10 ⟨vy,H10,I10,r10,G10,e10,sa10,iy⟩=>?_
        have p10:=I10.pin (dd,Dv its) (by rw [hYpn,List.nil_append]; exact List.mem_append_left _ List.mem_cons_self)
        refine append_at (hsz:=by show its.toArray.size<=sizeLine; rw [List.size_toArray]; omega) p10.1 λh' hs' hD'=>?_
        have Ia:L2.Inv Y (Ew fp s7.heap) σ8 H10 s10:=I10.pins_of λp hp=>I10.pin p (by rw [hYpn,List.nil_append]; exact List.mem_append_right _ hp)
        have Ib:L2.Inv Y (Ew fp s7.heap) σ8 H10 { s10 with heap:=h' }:=Ia.turned (t':=s10.toks) (λb o hb e=>(hs'.2 b hb).trans e) p10.2.1 hDC (.inr (by rw [hYs]; exact Nat.le_refl _)) (λx c e=>(hYc x c e).1) (λp hp=>by
          rw [hYpn,List.nil_append] at hp
          obtain ⟨hb,_⟩:=Qi hp
          exact Nat.ne_of_lt (by rw [<- hD]; exact hlt p.1 hb))
        have Ic:L2.Inv Y ((dd,Dv (its++[uy]))::Ew fp s7.heap) σ8 H10 { s10 with heap:=h' }:=Ib.pins_of λp hp=>by
          rcases List.mem_cons.mp hp with q | q
          ·
            rw [q]
            refine ⟨hD'.trans ?_,p10.2.1,hDC,hDfs,λv z=>by cases z⟩
            congr 1
            simp [Dv]
          · exact Ib.pin p (by rw [hYpn,List.nil_append]; exact q)
        refine again Ic (e9.trans e10) sa10 (vs':=vs++[vy]) ?_ (va5.append (.cons r10 .nil)) (by rw [List.length_append,List.length_singleton]; omega)
        rw [Q0 zs i z hz,hzy]
        exact (is5.ext ((e7.trans e9).trans e10)).append (.cons iy .nil)
      match ifs,kp1 with
      | [],kp1=>
        obtain ⟨y,hzy,ev⟩:=kp1
        unfold compTests
        refine wpAny_bind (wpAny_tests_nil (wpAny_pure ?_))
        simp only [if_true]
        exact more hzy I8 (Ag.refl _) sa7 ev
      | [c],kp1=>
        obtain ⟨k,tc,ht,hff⟩:=kp1
        unfold compTests
        refine wpAny_bind (wpAny_tests_one (Az (xeF (tc G7 _ s8 σ8 H8 (λb H'=>b=k/\∃ G',Ag G7 G'/\SA X.K G' H' (S i)) I8 (by
          rw [hYK]
          exact ⟨sa7,en8,λG' H' q1 q2=>⟨rfl,G',q1,q2⟩⟩))) λb s9 ⟨H9,I9,hb,G9,e9,sa9⟩=>wpAny_pure ?_))
        subst hb
        cases b with
        | true=>
          obtain ⟨y,hzy,ev⟩:=ht rfl
          simp only [if_true]
          exact more hzy I9 e9 sa9 ev
        | false=>
          simp only [Bool.false_eq_true,if_false]
          refine again I9 e9 (by rw [(hff rfl).2]; exact sa9) (vs':=vs) ?_ va5 (Nat.le_succ_of_le hl5)
          rw [Q0 zs i z hz,(hff rfl).1]
          simpa using is5.ext (e7.trans e9)
      | _::_::_,kp1=>exact kp1.elim
    ·
      have hie:i=xs.length:=by omega
      subst hie
      have dn:=T.done Y hYp hYw hYK hYcm xs.length [(dd,Dv its)] s5 σ5 H5 F I5 (fpY fr5 (λp hp=>by rw [List.mem_singleton.mp hp])) st5 (Yi.stop _ H5 (e5.g.trans sa5.sub) (Nat.le_refl _))
      rw [hYA] at dn
      refine Az dn λr s6 ⟨hr,I6⟩=>?_
      subst hr
      have p6:=I6.pin (dd,Dv its) (by rw [hYpn,List.nil_append]; exact List.mem_cons_self)
      rw [<- hzl,List.take_length] at is5
      have vl:vs.length<=sizeLine:=by rw [va5.length]; omega
      have Ix:L2.Inv X pins σ (AI H5 dd (.lst vs)) s6:=by
        have un:=I6.base
        rw [hYfs,hYex,<- hY] at un
        have un:Un (Dj X.stack) fp H2 H5 s2.heap s6.heap:=un
        refine I2.call' (ch:=fp) (I6.os.trans (by rw [<- hY]; rfl)) (Q2c un hHD hsD) ?_ I6.bare λb hb=>?_
        ·
          have hk6:=I6.hok
          rw [hYp,hYw] at hk6
          exact R4 hk6 p6.2.1 ⟨vl,its,its.length,va5,p6.1⟩
        ·
          obtain ⟨_,f1,_,f3,f4,f5⟩:=f2 b hb
          exact ⟨f3,f1,f4,f5⟩
      refine fin dd (dd+1) s6 _ _ vs Ix (e2.trans e5) sa5 p6.2.1 is5 ?_ ?_
      ·
        have hC:dd+1=Y.env.locals:=by rw [<- hY]; show dd+1=s2.heap.objs.size+1; rw [hD]
        have ge:s2.heap.objs.size<=dd+1:=by rw [hD]; exact Nat.le_succ _
        have:=I2.fpOk (H':=AI H5 dd (.lst vs)) ge (by
          have q:=I6.free
          rw [<- hC] at q
          rw [A4 (show dd+1≠dd from Nat.succ_ne_self _)]
          exact q)
        exact this
      ·
        obtain ⟨m,hn,_⟩:=I6.loc
        rw [<- hY] at hn
        have hn:s6.heap.Ns (s2.heap.objs.size+1) m:=hn
        rw [hD] at hn
        exact ⟨m,hn⟩
  have eY:Y.env={ scope:=relabel scope X.env,locals:=dd+1,globals:=X.env.globals,cells:=cellsFrom (dd+1+1) scope.names (Dd X.env scope.names []),qual:=X.env.qual,func:=none,code:=X.env.code,frame:=X.env.frame,builtins:=X.env.builtins }:=by
    rw [<- hY]
    show compEnvC _ _ _ _=_
    rw [hD]
    rfl
  rw [<- eY]
  exact codeAny_compStart_list (loop _ rfl) (T.self X.A 0 _ _ _ st4 (loop _ rfl))
theorem Rv (N:List Str) (js:List Nat) (ρ0:Aj) (hi:Ce X ρ O tg iter xs) (hc:X.calm=true) (hk:scope.kind=.function) (hfr:HN X scope) (hnm:∀ x∈scope.names,x.2=.local->scope.names.lookup x.1=some .local)
  (hl0:ρ0.length=N.length)
  (h0:∀ (i:Nat) (d:D),ρ0[i]?=some (some d)->∃ (x:Str) (j:Nat),N[i]?=some x/\scope.names.lookup x=some .free/\(∀ y∈scope.names,y.1=x->y.2≠.cell)/\X.N[j]?=some x/\ρ[j]?=some (some d)/\EK X.env.scope x)
  (hzl:zs.length=xs.length) (hsz:xs.length<=sizeLine)
  (turn:∀ (s:Shared) (H:Hp) (fp:List Addr) (i:Nat) (x:D) (z:Option D),xs[i]?=some x->zs[i]?=some z->∃ ρ1,Tg (Dy X N scope s H fp) tg x ρ0 ρ1/\ρ1.length=ρ0.length/\(∀ (j:Nat) (d:D),ρ0[j]?=some (some d)->ρ1[j]?=some (some d))/\JG (Dy X N scope s H fp) ρ1 O elt ifs z)
  {use:Option (Value->Sem Unit)} {pins:List (Addr×Obj)} {s:Shared} {σ:L2.St} {H:Hp} {G:Wd} {Q:Value->Shared->Prop} (I:L2.Inv X pins σ H s) (sa:SA X.K G H O) (en:AF X.K G σ ρ)
  (fin:∀ (D C:Addr) (s':Shared) (H':Hp) (G':Wd),L2.Inv X pins σ H' s'->Ag G G'->SA X.K G' H' O->Is X.K G' (.lst (zs.filterMap id)) (.ref D)->Cl X pins H' C->(∃ m,s'.heap.Ns C m)->compPost (model X.prog X.w) X.A X.xe use Q (.ref D) C (.ok .next) s')
  (hs:∀ x,foldedSetIterable iter X.env x=pure x:=by intro _; rfl) :
  wpAny (model X.prog X.w) X.A (comprehension (.ListComp elt [⟨tg,iter,ifs,0⟩] scope pos) scope X.env (firstIterPos [⟨tg,iter,ifs,0⟩] pos) (newList []) false (eval iter X.env) use) Q X.xe s:=by
 refine Ru (λ_=>O) rfl N js ρ0 hi hc hk hfr hnm hl0 h0 hzl hsz (λs H fp i x z q1 q2=>?_) I sa en (λD C s' H5 G5 vs I5 e5 sa5 hD is5 f5 n5=>?_) hs
 ·obtain ⟨ρ1,t1,t2,t3,t4⟩:=turn s H fp i x z q1 q2
  exact ⟨ρ1,t1,t2,t3,t4.s⟩
 ·obtain ⟨ed,sd⟩:=sa5.laid (p:=D) (o:=.lst vs) hD
  exact fin D C s' _ _ I5 (e5.trans ed) sd (.lst BF (is5.ext ed)) f5 n5
def Dk (XN:List Str) (xs cs:List (Str×NameKind)) (F:List Str) (js:List Nat):Bool:=
 (js.map λj=>XN[j]?)==F.map some&&(F.all λx=>cs.lookup x==some .free&&(cs.all λy=>y.1 != x||y.2 != .cell)&&(xs.lookup x==some .cell||xs.lookup x==some .free)) &&
 (cs.all λy=>(y.2 != .free||xs.lookup y.1==some .cell||xs.lookup y.1==some .free)&&(y.2 != .local||cs.lookup y.1==some .local))
def CL (ρ:Aj) (js:List Nat):Aj:=js.map λj=>(ρ[j]?).getD none
theorem MA {F:List Str} {js:List Nat} (h:Dk X.N X.env.scope.names scope.names F js=true):HN X scope:=λy hy e=>by
 unfold Dk at h
 simp only [Bool.and_eq_true,List.all_eq_true] at h
 have q:=(h.2 y hy).1
 rw [e] at q
 have q:(X.env.scope.names.lookup y.1==some .cell||X.env.scope.names.lookup y.1==some .free)=true:=by simpa using q
 rcases (Bool.or_eq_true _ _).mp q with q | q
 ·exact .inl (show X.env.scope.names.lookup y.1=_ by simpa using q)
 ·exact .inr (show X.env.scope.names.lookup y.1=_ by simpa using q)
theorem Mz {F:List Str} {js:List Nat} (h:Dk X.N X.env.scope.names scope.names F js=true):∀ x∈scope.names,x.2=.local->scope.names.lookup x.1=some .local:=λy hy e=>by
 unfold Dk at h
 simp only [Bool.and_eq_true,List.all_eq_true] at h
 have q:=(h.2 y hy).2
 rw [e] at q
 simpa using q
theorem MB {T F:List Str} {js:List Nat} (h:Dk X.N X.env.scope.names scope.names F js=true) (i:Nat) (d:D) (e:(T.map (λ_=>(none:Option D))++CL ρ js)[i]?=some (some d)) :
  ∃ (x:Str) (j:Nat),(T++F)[i]?=some x/\scope.names.lookup x=some .free/\(∀ y∈scope.names,y.1=x->y.2≠.cell)/\X.N[j]?=some x/\ρ[j]?=some (some d)/\EK X.env.scope x:=by
 unfold Dk at h
 simp only [Bool.and_eq_true,List.all_eq_true,beq_iff_eq] at h
 obtain ⟨⟨h1,h2⟩,h3⟩:=h
 by_cases hi:i<T.length
 ·rw [List.getElem?_append_left (by simpa using hi),List.getElem?_map] at e
  cases q:T[i]? with
  | none=>rw [q] at e; cases e
  | some _=>rw [q] at e; cases e
 ·rw [List.getElem?_append_right (by simpa using hi),List.length_map] at e
  unfold CL at e
  rw [List.getElem?_map] at e
  cases q:js[i-T.length]? with
  | none=>rw [q] at e; cases e
  | some j=>
   rw [q] at e
   have e:(ρ[j]?).getD none=some d:=Option.some.inj e
   have hρ:ρ[j]?=some (some d):=by
    cases q2:ρ[j]? with
    | none=>rw [q2] at e; cases e
    | some o=>rw [q2] at e; rw [show o=some d from e]
   have hF:=congrArg (λl=>l[i-T.length]?) h1
   simp only [List.getElem?_map,q,Option.map_some] at hF
   cases qF:F[i-T.length]? with
   | none=>rw [qF] at hF; cases hF
   | some x=>
    rw [qF] at hF
    have hF:X.N[j]?=some x:=Option.some.inj hF
    obtain ⟨⟨g1,g2⟩,g3⟩:=h2 x (List.mem_of_getElem? qF)
    refine ⟨x,j,by rw [List.getElem?_append_right wF]; exact qF,g1,λy hy ey=>?_,hF,hρ,?_⟩
    ·have:=g2 y hy
     rw [ey] at this
     simpa using this
    ·rcases (Bool.or_eq_true _ _).mp g3 with g | g
     ·exact .inr (.inl (by simpa using g))
     ·exact .inr (.inr (by simpa using g))
theorem J1 {ts fr:Aj} {T:List Str} (h:ts.length=T.length):(ts++fr).length=(T.map (λ_=>(none:Option D))++fr).length/\∀ (j:Nat) (d:D),(T.map (λ_=>(none:Option D))++fr)[j]?=some (some d)->(ts++fr)[j]?=some (some d):=by
 refine ⟨by simp [h],λj d e=>?_⟩
 by_cases hj:j<T.length
 ·rw [List.getElem?_append_left (by simpa using hj),List.getElem?_map] at e
  cases q:T[j]? with
  | none=>rw [q] at e; cases e
  | some _=>rw [q] at e; cases e
 ·rw [List.getElem?_append_right (by simpa using hj),List.length_map] at e
  rw [List.getElem?_append_right wF,h]
  exact e
def GG (X:Cx) (T F:List Str) (js:List Nat) (ρ:Aj) (O:Af) (scope:Scope) (tg elt:Expr) (ifs:List Expr) (x:D) (z:Option D):Prop:=
 ∀ (s:Shared) (H:Hp) (fp:List Addr),∃ ts:Aj,ts.length=T.length/\Tg (Dy X (T++F) scope s H fp) tg x (T.map (λ_=>(none:Option D))++CL ρ js) (ts++CL ρ js)/\JG (Dy X (T++F) scope s H fp) (ts++CL ρ js) O elt ifs z
theorem Q0i (T F:List Str) (js:List Nat) (hi:Ce X ρ O tg iter xs) (hzl:zs.length=xs.length) (hsz:xs.length<=sizeLine) (turn:∀ (i:Nat) (x:D) (z:Option D),xs[i]?=some x->zs[i]?=some z->GG X T F js ρ O scope tg elt ifs x z)
  (hfl:F.length=js.length) (hB:Dk X.N X.env.scope.names scope.names F js=true) (hc:X.calm=true) (hk:scope.kind=.function) (hs:∀ x,foldedSetIterable iter X.env x=pure x) :
  Ac X ρ O (.ListComp elt [⟨tg,iter,ifs,0⟩] scope pos) (.lst (zs.filterMap id)):=λG pins s σ H Q I ⟨h1,h2,h3⟩=>by
 rw [eval_ListComp]
 refine Rv (T++F) js (T.map (λ_=>(none:Option D))++CL ρ js) hi hc hk (MA hB) (Mz hB) (by simp [CL,hfl]) (MB hB) hzl hsz (λs H fp i x z q1 q2=>?_) I h1 h2 (λdd C s' H' G' I' e' sa' is' fo ns=>?_) hs
 ·obtain ⟨ts,t1,t2,t3⟩:=turn i x z q1 q2 s H fp
  obtain ⟨u1,u2⟩:=J1 (fr:=CL ρ js) t1
  exact ⟨_,t2,u1,u2,t3⟩
 ·obtain ⟨m,hn⟩:=ns
  refine ⟨m,hn,λh' hs'=>?_⟩
  obtain ⟨f0,f1,f2,f3,f4,f5⟩:=fo
  exact ⟨.ref dd,H',I'.turned (t':=s'.toks) (λb o hb e=>(hs'.2 b hb).trans e) f0 f1 f3 f4 f5,rfl,h3 _ G' H' e' sa' is'⟩
theorem Sj {x:Str} {p spos:Pos} {P:Bf} (k:Nat) (T F:List Str) (js:List Nat) (hi:Ce X ρ O tg iter xs) (hzl:zs.length=xs.length) (hsz:xs.length<=sizeLine) (turn:∀ (i:Nat) (x:D) (z:Option D),xs[i]?=some x->zs[i]?=some z->GG X T F js ρ O scope tg elt ifs x z)
  (h:P.nx (ρ.set k (some (.lst (zs.filterMap id)))) O) (hN:X.N.Nodup) (hx:X.N[k]?=some x) (hlc:EN X.env.scope x) (hf:X.fn x=true\/X.env.scope.names.lookup x=some .local)
  (hfl:F.length=js.length) (hB:Dk X.N X.env.scope.names scope.names F js=true) (hc:X.calm=true) (hk:scope.kind=.function) (hs:∀ x,foldedSetIterable iter X.env x=pure x)
  (hsw:swapsWith (.ListComp elt [⟨tg,iter,ifs,0⟩] scope pos) (some (.Name x p)) spos.line X.env=pure true):Ex X ρ O (.Assign [.Name x p] (.ListComp elt [⟨tg,iter,ifs,0⟩] scope pos) spos) P:=λG pins s σ H E I ⟨h1,h2,h3⟩=>by
 rw [PySem.exec_Assign_Name_used _ _ _ _ hsw]
 refine wpAny_bind (wpAny_standAt (wpAny_bind ?_))
 show wpAny _ _ (do let _ <- comprehension (.ListComp elt [⟨tg,iter,ifs,0⟩] scope pos) scope X.env _ (newList []) false (eval iter X.env) (some (assign (.Name x p) X.env))) _ _ s
 refine wpAny_bind (Az (Rv (use:=some (assign (.Name x p) X.env)) (Q:=λ_ s'=>SP X pins E .next s') (T++F) js (T.map (λ_=>(none:Option D))++CL ρ js) hi hc hk (MA hB) (Mz hB) (by simp [CL,hfl]) (MB hB) hzl hsz (λs H fp i x z q1 q2=>?_) I h1 h2 (λdd C s' H' G' I' e' sa' is' fo ns=>?_) hs) λ_ s' hq=>wpAny_pure (wpAny_pure hq))
 ·obtain ⟨ts,t1,t2,t3⟩:=turn i x z q1 q2 s H fp
  obtain ⟨u1,u2⟩:=J1 (fr:=CL ρ js) t1
  exact ⟨_,t2,u1,u2,t3⟩
 ·obtain ⟨m,hn⟩:=ns
  obtain ⟨f0,f1,f2,f3,f4,f5⟩:=fo
  refine wpAny_assign_Name (N8 I' hN hx hlc (v:=.ref dd) rfl (λs2 I2 ⟨a,sb,ha⟩=>?_) hf)
  have hCa:C≠a:=by
   rcases ha with q | q
   ·rw [q]; exact f1
   ·exact Ne.symm (f4 _ _ q)
  refine ⟨m,hn.sameBut sb hCa,λh' hs'=>?_⟩
  exact ⟨_,H',I2.turned (t':=s2.toks) (λb o hb e=>(hs'.2 b hb).trans e) f0 f1 f3 f4 f5,h3.nx _ _ O G' H' e' sa' ((h2.ext e').set k is') h⟩
end
end DL
namespace DL
open PySem PySem.Spec PyProof.Rows L2 PySem.W
def Bm {α:Type} (lt:Nat->Nat->Bool):KasT α->α
 | .ret a=>a
 | .ask i j k=>Bm lt (k (lt i j))
theorem Fx {α β:Type} (lt:Nat->Nat->Bool) (f:α->KasT β):∀ t:KasT α,Bm lt (t.bind f)=Bm lt (f (Bm lt t))
 | .ret _=>rfl
 | .ask i j k=>Fx lt f (k (lt i j))
section
variable (key:Nat->Int)
abbrev BH (i j:Nat):Bool:=decide (key i<key j)
def KQ (p:Array Nat) (i:Nat):Int:=key (p.getD i 0)
theorem Na (p:Array Nat):∀ (f n:Nat),∃ m,Bm (BH key) (kas_asc p f n)=m/\n<=m/\m<=n+f/\(∀ k,n<=k->k<m->KQ key p (k-1)<=KQ key p k)/\(m=n+f\/KQ key p m<KQ key p (m-1))
 | 0,n=>⟨n,rfl,Nat.le_refl _,Nat.le_refl _,λk h1 h2=>by omega,.inl rfl⟩
 | f+1,n=>by
  by_cases h:KQ key p n<KQ key p (n-1)
  ·refine ⟨n,?_,Nat.le_refl _,by omega,λk h1 h2=>by omega,.inr h⟩
   show Bm _ (if BH key _ _=true then _ else _)=_
   rw [if_pos (decide_eq_true (show key (p.getD n 0)<key (p.getD (n-1) 0) from h))]
   rfl
  ·obtain ⟨m,e,h1,h2,h3,h4⟩:=Na p f (n+1)
   refine ⟨m,?_,by omega,by omega,λk g1 g2=>?_,by rcases h4 with h4 | h4; exact .inl wF; exact .inr h4⟩
   ·show Bm _ (if BH key _ _=true then _ else _)=_
    rw [if_neg (by simpa [BH] using (show ¬ key (p.getD n 0)<key (p.getD (n-1) 0) from h))]
    exact e
   ·by_cases hk:k=n
    ·subst hk; exact Int.not_lt.mp h
    ·exact h3 k wF g2
theorem EC {p:Array Nat} {i:Nat}:p.getD i 0=(p[i]?).getD 0:=by
 by_cases h:i<p.size
 ·simp [Array.getD,h]
 ·simp [Array.getD,h]
theorem Nm {p:Array Nat} {i j:Nat} (hj:j<=p.size) (k:Nat):KQ key (kas_rev p i j) k=if i<=k/\k<j then KQ key p (i+j-1-k) else KQ key p k:=by
 unfold KQ kas_rev
 rw [EC,getElem?_mirror_all hj k]
 split
 ·rw [EC]
 ·rw [EC]
theorem Nl {p:Array Nat} {i j:Nat} (hj:j<=p.size) (h:∀ k,i<=k->k<j->KQ key p k=KQ key p (j-1)) (k:Nat):KQ key (kas_rev p i j) k=KQ key p k:=by
 rw [Nm key hj k]
 split
 ·next hk=>rw [h k hk.1 hk.2,h _ wF wF]
 ·rfl
theorem Jn:∀ (f:Nat) (p:Array Nat) (n q:Nat),q+1<=n->n+f<=p.size->(∀ i j,i<=j->j<n->KQ key p j<=KQ key p i)->(∀ k,n-(q+1)<=k->k<n->KQ key p k=KQ key p (n-1))->
  ∃ p' n' q',Bm (BH key) (kas_desc f p n q)=(p',n',q')/\n<=n'/\n'<=n+f/\q'+1<=n'/\p'.Perm p/\p'.size=p.size/\(∀ i j,i<=j->j<n'->KQ key p' j<=KQ key p' i)/\(∀ k,n'-(q'+1)<=k->k<n'->KQ key p' k=KQ key p' (n'-1))
 | 0,p,n,q,h1,h2,h3,h4=>⟨p,n,q,rfl,Nat.le_refl _,Nat.le_refl _,h1,Array.Perm.refl _,rfl,h3,h4⟩
 | f+1,p,n,q,h1,h2,h3,h4=>by
  by_cases h:KQ key p n<KQ key p (n-1)
  ·have step:∀ p2:Array Nat,p2.Perm p->p2.size=p.size->(∀ k,KQ key p2 k=KQ key p k)->(∀ i j,i<=j->j<n+1->KQ key p2 j<=KQ key p2 i):=λp2 _ _ e i j hij hj=>by
    rw [e,e]
    by_cases hjn:j=n
    ·subst hjn
     by_cases hin:i=j
     ·subst hin; exact Int.le_refl _
     ·have:=h3 i (j-1) wF wF; omega
    ·exact h3 i j hij wF
   by_cases hq:q>0
   ·have hE:∀ k,KQ key (kas_rev p (n-(q+1)) n) k=KQ key p k:=Nl key wF h4
    obtain ⟨p',n',q',e,g⟩:=Jn f (kas_rev p (n-(q+1)) n) (n+1) 0 wF (by rw [kas_rev_size]; omega) (step _ (mirror_perm _ _ _ _) (kas_rev_size _ _) hE) (λk k1 k2=>by rw [show k=n+1-1 by omega])
    refine ⟨p',n',q',?_,by omega,by omega,g.2.2.1,g.2.2.2.1.trans (mirror_perm _ _ _ _),g.2.2.2.2.1.trans (kas_rev_size _ _),g.2.2.2.2.2⟩
    show Bm _ (if BH key _ _=true then _ else _)=_
    rw [if_pos (decide_eq_true (show key (p.getD n 0)<key (p.getD (n-1) 0) from h)),if_pos hq]
    exact e
   ·obtain ⟨p',n',q',e,g⟩:=Jn f p (n+1) 0 wF wF (step _ (Array.Perm.refl _) rfl λ_=>rfl) (λk k1 k2=>by rw [show k=n+1-1 by omega])
    refine ⟨p',n',q',?_,by omega,by omega,g.2.2⟩
    show Bm _ (if BH key _ _=true then _ else _)=_
    rw [if_pos (decide_eq_true (show key (p.getD n 0)<key (p.getD (n-1) 0) from h)),if_neg hq]
    exact e
  ·by_cases h':KQ key p (n-1)<KQ key p n
   ·refine ⟨p,n,q,?_,Nat.le_refl _,by omega,h1,Array.Perm.refl _,rfl,h3,h4⟩
    show Bm _ (if BH key _ _=true then _ else _)=_
    rw [if_neg (by simpa [BH] using (show ¬ key (p.getD n 0)<key (p.getD (n-1) 0) from h))]
    show Bm _ (if BH key _ _=true then _ else _)=_
    rw [if_pos (decide_eq_true (show key (p.getD (n-1) 0)<key (p.getD n 0) from h'))]
    rfl
   ·have he:KQ key p n=KQ key p (n-1):=by omega
    obtain ⟨p',n',q',e,g⟩:=Jn f p (n+1) (q+1) wF wF (λi j hij hj=>by
     by_cases hjn:j=n
     ·subst hjn
      by_cases hin:i=j
      ·subst hin; exact Int.le_refl _
      ·have:=h3 i (j-1) wF wF; omega
     ·exact h3 i j hij wF) (λk k1 k2=>by
     show _=KQ key p n
     by_cases hkn:k=n
     ·subst hkn; rfl
     ·rw [h4 k wF wF,he])
    refine ⟨p',n',q',?_,by omega,by omega,g.2.2⟩
    show Bm _ (if BH key _ _=true then _ else _)=_
    rw [if_neg (by simpa [BH] using (show ¬ key (p.getD n 0)<key (p.getD (n-1) 0) from h))]
    show Bm _ (if BH key _ _=true then _ else _)=_
    rw [if_neg (by simpa [BH] using (show ¬ key (p.getD (n-1) 0)<key (p.getD n 0) from h'))]
    exact e
def Dp (p:Array Nat) (m:Nat):Prop:=∀ i j,i<=j->j<m->KQ key p i<=KQ key p j
theorem Oe {p:Array Nat} {m:Nat} (h:∀ k,1<=k->k<m->KQ key p (k-1)<=KQ key p k):Dp key p m:=by
  intro i j hij hj
  induction j with
  | zero=>
            have:i=0:=by omega
            subst this; exact Int.le_refl _
  | succ j ih=>
    by_cases e:i=j+1
    · subst e; exact Int.le_refl _
    · exact Int.le_trans (ih wF wF) (h (j+1) wF hj)
theorem NV {n nrem:Nat} {p:Array Nat} (h1:1<=n) (hn:n<=nrem) (hz:nrem<=p.size) (h3:∀ i j,i<=j->j<n->KQ key p j<=KQ key p i):∃ m p',Bm (BH key) (kas_tail3 n nrem p)=(m,p')/\1<=m/\m<=nrem/\p'.Perm p/\p'.size=p.size/\Dp key p' m:=by
 obtain ⟨m,e,g1,g2,g3,g4⟩:=Na key (kas_rev p 0 n) (nrem-n) n
 refine ⟨m,kas_rev p 0 n,?_,by omega,by omega,mirror_perm _ _ _ _,kas_rev_size _ _,Oe key λk k1 k2=>?_⟩
 ·unfold kas_tail3
  rw [Fx,e]
  rfl
 ·by_cases hk:n<=k
  ·exact g3 k hk k2
  ·rw [Nm key wF,Nm key wF,if_pos wF,if_pos wF]
   exact h3 _ _ wF wF
theorem Rl {n nrem:Nat} {p:Array Nat} (h1:1<=n) (hn:n+1<=nrem) (hz:nrem<=p.size) (h3:∀ i j,i<=j->j<n+1->KQ key p j<=KQ key p i):∃ m p',Bm (BH key) (kas_descPart n nrem p)=(m,p')/\1<=m/\m<=nrem/\p'.Perm p/\p'.size=p.size/\Dp key p' m:=by
 obtain ⟨p1,n1,q1,e,g1,g2,g3,g4,g5,g6,g7⟩:=Jn key (nrem-(n+1)) p (n+1) 0 wF wF h3 (λk k1 k2=>by rw [show k=n+1-1 by omega])
 unfold kas_descPart
 rw [Fx,e]
 by_cases hq:q1>0
 ·have hE:∀ k,KQ key (kas_rev p1 (n1-(q1+1)) n1) k=KQ key p1 k:=Nl key wF g7
  obtain ⟨m,p',e',k1,k2,k3,k4,k5⟩:=NV key (n:=n1) (nrem:=nrem) (p:=kas_rev p1 (n1-(q1+1)) n1) wF wF (by rw [kas_rev_size]; omega) (λi j hij hj=>by rw [hE,hE]; exact g6 i j hij hj)
  refine ⟨m,p',?_,k1,k2,k3.trans ((mirror_perm _ _ _ _).trans g4),k4.trans ((kas_rev_size _ _).trans g5),k5⟩
  show Bm _ (if q1>0 then _ else _)=_
  rw [if_pos hq]
  exact e'
 ·obtain ⟨m,p',e',k1,k2,k3,k4,k5⟩:=NV key (n:=n1) (nrem:=nrem) (p:=p1) wF wF wF g6
  refine ⟨m,p',?_,k1,k2,k3.trans g4,k4.trans g5,k5⟩
  show Bm _ (if q1>0 then _ else _)=_
  rw [if_neg hq]
  exact e'
theorem Q0V {nrem:Nat} {p:Array Nat} (h1:1<=nrem) (hz:nrem<=p.size):∃ m p',Bm (BH key) (kas_count nrem p)=(m,p')/\1<=m/\m<=nrem/\p'.Perm p/\p'.size=p.size/\Dp key p' m:=by
 obtain ⟨n,e,g1,g2,g3,g4⟩:=Na key p (nrem-1) 1
 have hs:Dp key p n:=Oe key λk k1 k2=>g3 k k1 k2
 unfold kas_count
 rw [Fx,e]
 by_cases hn:n=nrem
 ·refine ⟨n,p,?_,g1,by omega,Array.Perm.refl _,rfl,hs⟩
  rw [if_pos (by simpa using hn)]
  rfl
 ·rw [if_neg (by simpa using hn)]
  have hlt:KQ key p n<KQ key p (n-1):=by
   rcases g4 with g4 | g4
   ·omega
   ·exact g4
  by_cases hn1:n>1
  ·rw [if_pos hn1]
   by_cases hr:KQ key p 0<KQ key p (n-1)
   ·refine ⟨n,p,?_,g1,by omega,Array.Perm.refl _,rfl,hs⟩
    show Bm _ (if BH key _ _=true then _ else _)=_
    rw [if_pos (decide_eq_true (show key (p.getD 0 0)<key (p.getD (n-1) 0) from hr))]
    rfl
   ·have heq:∀ k,0<=k->k<n->KQ key p k=KQ key p (n-1):=λk _ hk=>by
     have a:=hs 0 k wF hk
     have b:=hs k (n-1) wF wF
     omega
    have hE:=Nl key (p:=p) (i:=0) (j:=n) wF heq
    obtain ⟨m,p',e',k1,k2,k3,k4,k5⟩:=Rl key (n:=n) (nrem:=nrem) (p:=kas_rev p 0 n) wF wF (by rw [kas_rev_size]; exact hz) (λi j hij hj=>by
     rw [hE,hE]
     by_cases hjn:j=n
     ·subst hjn
      by_cases hin:i=j
      ·subst hin; exact Int.le_refl _
      ·rw [heq i wF wF]; omega
     ·rw [heq i wF wF,heq j wF wF]
      exact Int.le_refl _)
    refine ⟨m,p',?_,k1,k2,k3.trans (mirror_perm _ _ _ _),k4.trans (kas_rev_size _ _),k5⟩
    show Bm _ (if BH key _ _=true then _ else _)=_
    rw [if_neg (by simpa [BH] using (show ¬ key (p.getD 0 0)<key (p.getD (n-1) 0) from hr))]
    exact e'
  ·rw [if_neg hn1]
   obtain rfl:n=1:=by omega
   exact Rl key wF wF hz (λi j hij hj=>by
    by_cases hj1:j=1
    ·subst hj1
     by_cases hi1:i=1
     ·subst hi1; exact Int.le_refl _
     ·obtain rfl:i=0:=by omega
      exact Int.le_of_lt hlt
    ·obtain rfl:j=0:=by omega
     obtain rfl:i=0:=by omega
     exact Int.le_refl _)
theorem Mc (p:Array Nat) (k:Nat) (hs:Dp key p k):∀ (f l r:Nat),l<=r->r<=k->r-l<=f->(∀ i,i<l->KQ key p i<=KQ key p k)->(∀ i,r<=i->i<k->KQ key p k<KQ key p i)->
  ∃ m,Bm (BH key) (kas_place p k f l r)=m/\m<=k/\(∀ i,i<m->KQ key p i<=KQ key p k)/\(∀ i,m<=i->i<k->KQ key p k<KQ key p i)
 | 0,l,r,h1,h2,h3,h4,h5=>⟨l,rfl,by omega,h4,λi g1 g2=>h5 i wF g2⟩
 | f+1,l,r,h1,h2,h3,h4,h5=>by
  by_cases hlr:l>=r
  ·refine ⟨l,?_,by omega,h4,λi g1 g2=>h5 i wF g2⟩
   show Bm _ (if l>=r then _ else _)=_
   rw [if_pos hlr]; rfl
  ·by_cases hc:KQ key p k<KQ key p ((l+r)/2)
   ·obtain ⟨m,e,g1,g2,g3⟩:=Mc p k hs f l ((l+r)/2) wF wF wF h4 (λi i1 i2=>by
     have:=hs ((l+r)/2) i i1 i2; omega)
    refine ⟨m,?_,g1,g2,g3⟩
    show Bm _ (if l>=r then _ else _)=_
    rw [if_neg hlr]
    show Bm _ (if BH key _ _=true then _ else _)=_
    rw [if_pos (decide_eq_true (show key (p.getD k 0)<key (p.getD ((l+r)/2) 0) from hc))]
    exact e
   ·obtain ⟨m,e,g1,g2,g3⟩:=Mc p k hs f ((l+r)/2+1) r wF h2 wF (λi i1=>by
     have:=hs i ((l+r)/2) wF wF; omega) h5
    refine ⟨m,?_,g1,g2,g3⟩
    show Bm _ (if l>=r then _ else _)=_
    rw [if_neg hlr]
    show Bm _ (if BH key _ _=true then _ else _)=_
    rw [if_neg (by simpa [BH] using (show ¬ key (p.getD k 0)<key (p.getD ((l+r)/2) 0) from hc))]
    exact e
end
end DL
set_option maxHeartbeats 2000000
namespace DL
open PySem PySem.Spec PyProof.Rows L2 PySem.W
def CT (k:Bool) (h:Heap) (it l:Addr) (i:Nat):Prop:=if k then h.IsListIter it l i else h.IsTupleIter it l i
def BC (k:Bool) (h:Heap) (l:Addr) (xs:Array Value):Prop:=if k then h.IsList l xs else h.IsTuple l xs
section
variable {k:Bool} {h h':Heap} {it l b:Addr} {i:Nat} {xs:Array Value}
theorem CT.at (q:CT k h it l i) (e:∀ o,h.get? it=some o->h'.get? it=some o):CT k h' it l i:=by
 cases k with
 | true=>obtain ⟨o,g,r⟩:=(q:h.IsListIter it l i); exact ⟨o,e o g,r⟩
 | false=>obtain ⟨o,g,r⟩:=(q:h.IsTupleIter it l i); exact ⟨o,e o g,r⟩
theorem BC.at (q:BC k h l xs) (e:∀ o,h.get? l=some o->h'.get? l=some o):BC k h' l xs:=by
 cases k with
 | true=>obtain ⟨o,g,r⟩:=(q:h.IsList l xs); exact ⟨o,e o g,r⟩
 | false=>obtain ⟨o,g,r⟩:=(q:h.IsTuple l xs); exact ⟨o,e o g,r⟩
theorem CT.obj (q:CT k h it l i):∃ o,h.get? it=some o/\∀ v,o.data≠.cell v:=by
 cases k with
 | true=>obtain ⟨o,g,c,d⟩:=(q:h.IsListIter it l i); exact ⟨o,g,λv z=>by rw [d] at z; cases z⟩
 | false=>obtain ⟨o,g,c,d⟩:=(q:h.IsTupleIter it l i); exact ⟨o,g,λv z=>by rw [d] at z; cases z⟩
end
theorem Ri {prog:Program} {w:World} {A:Around} {E:Value->Shared->Prop} {s:Shared} {T id:String} {b:Builtin} {v:Value} {Q:Value->Shared->Prop} (hT:s.TypeIs v T) (sl:Slot T (Str.ofString "__next__") id) (en:entryFor table id=some b) (ok:argsOk id ⟨[v],[]⟩)
  (h:wpAny (model prog w) A.in1 (b ⟨[v],[]⟩) (λfin s'=>∃ x,fin=.done (.ret x)/\Q x s') E s):wpAny (model prog w) A (Builtin.SmallTypes.nextOf v) Q E s:=
 wpAny_bind (wpAny_callSpecial?_slot hT sl (wpAny_call_entry sl hT en (wpAny_mono h (λfin s' ⟨x,e,q⟩=>⟨x,e,wpAny_pure q⟩) λ_ _ e=>e) ok))
section
variable {prog:Program} {w:World} {A:Around} {E:Value->Shared->Prop} {s:Shared} {it l:Addr} {i:Nat} {xs:Array Value} {Q:Value->Shared->Prop}
theorem SL {x:Value} (q:s.heap.IsTupleIter it l i) (t:s.heap.IsTuple l xs) (hx:xs[i]?=some x) (hQ:∀ h',h'.IsTupleIter it l (i+1)->Heap.SameBut it s.heap h'->Q x { s with heap:=h' }):wpAny (model prog w) A (Builtin.SmallTypes.nextOf (.ref it)) Q E s:=by
 refine Ri q.typeIs F.slot_tuple_iterator_next F.entry_tuple_iterator_next (F.args_tuple_iterator_next_1 _) ?_
 obtain ⟨h,g,d,tk,os⟩:=s
 obtain ⟨⟨c,dc,da,sl⟩,gi,rfl,rfl⟩:=q
 obtain ⟨⟨c,dc,da,sl⟩,gt,rfl,n,rfl⟩:=t
 dsimp only at gi gt hQ
 wp_walk
 rw [Int.toNat_natCast,hx]
 wp_walk
 exact ⟨x,rfl,hQ _ ⟨_,Heap.get?_update_self _ gi rfl,rfl,by simp [Obj.mapFields,rawInt]⟩ (Heap.SameBut.update ..)⟩
theorem SM (hh:A.handled=none) (q:s.heap.IsTupleIter it l i) (t:s.heap.IsTuple l xs) (hx:xs[i]?=none) (hE:∀ h' e,Heap.ExtBut it s.heap h'->(∃ o,h'.get? e=some o/\o.cls=.type "StopIteration")->E (.ref e) { s with heap:=h' }):wpAny (model prog w) A (Builtin.SmallTypes.nextOf (.ref it)) Q E s:=by
 refine Ri q.typeIs F.slot_tuple_iterator_next F.entry_tuple_iterator_next (F.args_tuple_iterator_next_1 _) ?_
 obtain ⟨h,g,d,tk,os⟩:=s
 obtain ⟨⟨c,dc,da,sl⟩,gi,rfl,rfl⟩:=q
 obtain ⟨⟨c,dc,da,sl⟩,gt,rfl,n,rfl⟩:=t
 dsimp only at gi gt hE
 have hh1:A.in1.handled=none:=hh
 wp_walk
 rw [Int.toNat_natCast,hx]
 wp_walk
 unfold raiseNew
 wp_walk
 exact hE _ _ (λb u hb e=>Heap.get?_push_of_some _ (Heap.get?_push_of_some _ ((Heap.get?_update_ne _ _ _ _ hb).trans e))) ⟨_,Heap.get?_push_size _ rfl,rfl⟩
theorem J3 {k:Bool} {x:Value} (q:CT k s.heap it l i) (t:BC k s.heap l xs) (hx:xs[i]?=some x) (hQ:∀ h',CT k h' it l (i+1)->Heap.SameBut it s.heap h'->Q x { s with heap:=h' }):wpAny (model prog w) A (Builtin.SmallTypes.nextOf (.ref it)) Q E s:=
 match k with
 | true=>wpAny_nextOf_list_item q t hx hQ
 | false=>SL q t hx hQ
theorem J4 {k:Bool} (hh:A.handled=none) (q:CT k s.heap it l i) (t:BC k s.heap l xs) (hx:xs[i]?=none) (hE:∀ h' e,Heap.ExtBut it s.heap h'->(∃ o,h'.get? e=some o/\o.cls=.type "StopIteration")->E (.ref e) { s with heap:=h' }):wpAny (model prog w) A (Builtin.SmallTypes.nextOf (.ref it)) Q E s:=
 match k with
 | true=>wpAny_nextOf_list_end hh q t hx hE
 | false=>SM hh q t hx hE
end
def HS (n:Nat) (f0 f1:Value):Obj:={ cls:=.type "zip",dict:=none,data:=.fields #[f0,f1,.bool false,.ref (n+2),.ref (n+3)],slots:=#[] }
structure ZW (n:Nat) (k1 k2:Bool) (l1 l2 i1 i2:Nat) (xs ys:Array Value) (f0 f1 a b:Value) (h:Heap):Prop where
 z:h.get? (n+4)=some { cls:=.type "zip",dict:=none,data:=.fields #[f0,f1,.bool false,.ref (n+2),.ref (n+3)],slots:=#[] }
 ti:h.get? (n+2)=some { cls:=.type "tuple",data:=.seq #[.ref n,.ref (n+1)] }
 to:h.get? (n+3)=some { cls:=.type "tuple",data:=.seq #[a,b] }
 w1:CT k1 h n l1 i1
 w2:CT k2 h (n+1) l2 i2
 s1:BC k1 h l1 xs
 s2:BC k2 h l2 ys
 b1:l1<n
 b2:l2<n
theorem ap {x y:Nat} (h:x≠y):@Ne Addr x y:=h
def BD (n:Nat) (h h':Heap):Prop:=∀ c o,c≠n+4->c≠n+3->c≠n->c≠n+1->h.get? c=some o->h'.get? c=some o
theorem BD.refl (n:Nat) (h:Heap):BD n h h:=λ_ _ _ _ _ _ e=>e
theorem BD.on {n:Nat} {h h1 h2:Heap} (p:BD n h h1) (q:BD n h1 h2):BD n h h2:=λc o c1 c2 c3 c4 e=>q c o c1 c2 c3 c4 (p c o c1 c2 c3 c4 e)
theorem BD.of {n c:Nat} {h h':Heap} (e:Heap.SameBut c h h') (m:c=n+4\/c=n+3\/c=n\/c=n+1):BD n h h':=
 λd o d1 d2 d3 d4 q=>e.extBut _ _ (by rcases m with rfl | rfl | rfl | rfl <;> assumption) q
section
variable {prog:Program} {w:World} {A:Around} {E:Value->Shared->Prop} {s:Shared} {n l1 l2 i1 i2:Nat} {k1 k2:Bool} {xs ys:Array Value} {f0 f1 a b v:Value}
theorem ZW.mark0 {Q:Unit->Shared->Prop} (W:ZW n k1 k2 l1 l2 i1 i2 xs ys f0 f1 a b s.heap) (hQ:∀ h',ZW n k1 k2 l1 l2 i1 i2 xs ys v f1 a b h'->BD n s.heap h'->h'.objs.size=s.heap.objs.size->Q () { s with heap:=h' }):wpAny (model prog w) A (setField (.ref (n+4)) 0 v) Q E s:=
 wpAny_setField_rec W.z (by simp) λh' g e=>hQ h' ⟨g,e.extBut _ _ (ap wF) W.ti,e.extBut _ _ (ap wF) W.to,W.w1.at λo=>e.extBut _ _ (ap wF),W.w2.at λo=>e.extBut _ _ (ap wF),W.s1.at λo=>e.extBut _ _ (ap (by have:=W.b1; omega)),W.s2.at λo=>e.extBut _ _ (ap (by have:=W.b2; omega)),W.b1,W.b2⟩ (.of e (.inl rfl)) e.1
theorem ZW.mark1 {Q:Unit->Shared->Prop} (W:ZW n k1 k2 l1 l2 i1 i2 xs ys f0 f1 a b s.heap) (hQ:∀ h',ZW n k1 k2 l1 l2 i1 i2 xs ys f0 v a b h'->BD n s.heap h'->h'.objs.size=s.heap.objs.size->Q () { s with heap:=h' }):wpAny (model prog w) A (setField (.ref (n+4)) 1 v) Q E s:=
 wpAny_setField_rec W.z (by simp) λh' g e=>hQ h' ⟨g,e.extBut _ _ (ap wF) W.ti,e.extBut _ _ (ap wF) W.to,W.w1.at λo=>e.extBut _ _ (ap wF),W.w2.at λo=>e.extBut _ _ (ap wF),W.s1.at λo=>e.extBut _ _ (ap (by have:=W.b1; omega)),W.s2.at λo=>e.extBut _ _ (ap (by have:=W.b2; omega)),W.b1,W.b2⟩ (.of e (.inl rfl)) e.1
theorem ZW.put {j:Nat} {Q:Unit->Shared->Prop} (W:ZW n k1 k2 l1 l2 i1 i2 xs ys f0 f1 a b s.heap) (hQ:∀ h',ZW n k1 k2 l1 l2 i1 i2 xs ys f0 f1 (if j=0 then v else a) (if j=1 then v else b) h'->BD n s.heap h'->h'.objs.size=s.heap.objs.size->Q () { s with heap:=h' }):wpAny (model prog w) A (updateSeq (n+3) (·.setIfInBounds j v)) Q E s:=
 wpAny_updateSeq_pair W.to λh' g e=>hQ h' ⟨e.extBut _ _ (ap wF) W.z,e.extBut _ _ (ap wF) W.ti,by rw [g]; match j with | 0=>rfl | 1=>rfl | _+2=>rfl,W.w1.at λo=>e.extBut _ _ (ap wF),W.w2.at λo=>e.extBut _ _ (ap wF),W.s1.at λo=>e.extBut _ _ (ap (by have:=W.b1; omega)),W.s2.at λo=>e.extBut _ _ (ap (by have:=W.b2; omega)),W.b1,W.b2⟩ (.of e (.inr (.inl rfl))) e.1
theorem ZW.draw1 {x:Value} {Q:Value->Shared->Prop} (W:ZW n k1 k2 l1 l2 i1 i2 xs ys f0 f1 a b s.heap) (hx:xs[i1]?=some x) (hQ:∀ h',ZW n k1 k2 l1 l2 (i1+1) i2 xs ys f0 f1 a b h'->BD n s.heap h'->h'.objs.size=s.heap.objs.size->Q x { s with heap:=h' }):wpAny (model prog w) A (Builtin.SmallTypes.nextOf (.ref n)) Q E s:=
 J3 W.w1 W.s1 hx λh' g e=>hQ h' ⟨e.extBut _ _ (ap wF) W.z,e.extBut _ _ (ap wF) W.ti,e.extBut _ _ (ap wF) W.to,g,W.w2.at λo=>e.extBut _ _ (ap wF),W.s1.at λo=>e.extBut _ _ (ap (by have:=W.b1; omega)),W.s2.at λo=>e.extBut _ _ (ap (by have:=W.b2; omega)),W.b1,W.b2⟩ (.of e (.inr (.inr (.inl rfl)))) e.1
theorem ZW.draw2 {y:Value} {Q:Value->Shared->Prop} (W:ZW n k1 k2 l1 l2 i1 i2 xs ys f0 f1 a b s.heap) (hy:ys[i2]?=some y) (hQ:∀ h',ZW n k1 k2 l1 l2 i1 (i2+1) xs ys f0 f1 a b h'->BD n s.heap h'->h'.objs.size=s.heap.objs.size->Q y { s with heap:=h' }):wpAny (model prog w) A (Builtin.SmallTypes.nextOf (.ref (n+1))) Q E s:=
 J3 W.w2 W.s2 hy λh' g e=>hQ h' ⟨e.extBut _ _ (ap wF) W.z,e.extBut _ _ (ap wF) W.ti,e.extBut _ _ (ap wF) W.to,W.w1.at λo=>e.extBut _ _ (ap wF),g,W.s1.at λo=>e.extBut _ _ (ap (by have:=W.b1; omega)),W.s2.at λo=>e.extBut _ _ (ap (by have:=W.b2; omega)),W.b1,W.b2⟩ (.of e (.inr (.inr (.inr rfl)))) e.1
def ZF (f0:Value):Prop:=f0=.none\/∃ c:Nat,f0=rawInt (c:Int)
theorem RS {M:Model} {c:Addr} {Q:Option Obj->Shared->Prop} (h:Q (s.heap.get? c) s):wpAny M A (loadIfAlive c) Q E s:=λ_ _ _=>h
theorem ZW.free {Q:Bool->Shared->Prop} (W:ZW n k1 k2 l1 l2 i1 i2 xs ys f0 f1 a b s.heap) (hf:ZF f0) (y:Q true s) (z:∀ h' f,ZW n k1 k2 l1 l2 i1 i2 xs ys f0 f a b h'->BD n s.heap h'->h'.objs.size=s.heap.objs.size->Q false { s with heap:=h' }):wpAny (model prog w) A (Builtin.SmallTypes.ownedTupleIsFree (.ref (n+4))) Q E s:=by
 obtain ⟨h,g,d,tk,os⟩:=s
 have hz:=W.z
 dsimp only at hz
 rcases hf with rfl | ⟨c,rfl⟩
 ·wp_walk
  exact y
 ·wp_walk using RS
  cases h.get? (Int.toNat (c:Int)) with
  | none=>wp_walk; exact y
  | some o=>
   by_cases m:f1=.bool true
   ·subst m
    wp_walk
    exact z _ _ W (BD.refl _ _) rfl
   ·wp_walk using W.mark1
    exact λh' V o1 o2=>wpAny_pure (z h' _ V o1 o2)
theorem MC {M:Model} {β:Type} {x y:Value} {b:β} {f:Value->β->Sem (ForInStep β)} {Q:β->Shared->Prop} (h:wpAny M A (forIn [x,y] b f) Q E s):wpAny M A (forIn #[x,y] b f) Q E s:=by
 rw [<- Array.forIn_toList]; exact h
theorem ZW.more {h:Heap} {o:Obj} (W:ZW n k1 k2 l1 l2 i1 i2 xs ys f0 f1 a b h):ZW n k1 k2 l1 l2 i1 i2 xs ys f0 f1 a b (h.push o):=
 have e:∀ c u,h.get? c=some u->(h.push o).get? c=some u:=λc u q=>Heap.get?_push_of_some _ q
 ⟨e _ _ W.z,e _ _ W.ti,e _ _ W.to,W.w1.at (e _),W.w2.at (e _),W.s1.at (e _),W.s2.at (e _),W.b1,W.b2⟩
theorem BD.more {h h':Heap} {o:Obj} (p:BD n h h'):BD n h (h'.push o):=p.on λc u _ _ _ _ q=>Heap.get?_push_of_some _ q
theorem Sd {i:Nat} {x y:Value} {Q:Value->Shared->Prop} (W:ZW n k1 k2 l1 l2 i i xs ys f0 f1 a b s.heap) (hf:ZF f0) (hx:xs[i]?=some x) (hy:ys[i]?=some y)
  (hQ:∀ h' f0' f1' a' b',ZW n k1 k2 l1 l2 (i+1) (i+1) xs ys f0' f1' a' b' h'->ZF f0'->IsPair h' s.heap.objs.size x y->BD n s.heap h'->Q (.ref s.heap.objs.size) { s with heap:=h' }) :
  wpAny (model prog w) A (Builtin.«zip.__next__» ⟨[.ref (n+4)],[]⟩) (λfin s'=>∃ v,fin=.done (.ret v)/\Q v s') E s:=by
 obtain ⟨h,g,d,tk,os⟩:=s
 dsimp only at W hQ
 have z:=W.z
 have t:=W.ti
 have ok:∀ h4:Heap,h4.objs.size=h.objs.size->∀ v,(h4.push v).objs.size=h.objs.size+1:=λh4 e v=>by rw [Heap.size_push,e]
 have lt:n+4<h.objs.size:=Heap.lt_size z
 wp_walk using W.free hf,W.mark0
 ·-- the pair is used again
  intro h1 W1 o1 z1
  have t1:=W1.to
  wp_walk using wpAny_onRaise,W1.draw1 hx
  intro h2 W2 o2 z2
  have t2:=W2.to
  wp_walk using W2.put
  intro h3 W3 o3 z3
  wp_walk using wpAny_onRaise,W3.draw2 hy
  intro h4 W4 o4 z4
  have t4:=W4.to
  wp_walk using W4.put
  intro h5 W5 o5 z5
  have t5:=W5.to
  wp_walk using W5.more.mark0
  intro h6 W6 o6 z6
  wp_walk using W6.mark1
  intro h7 W7 o7 z7
  wp_walk
  have ol:BD n h h5:=o1.on (o2.on (o3.on (o4.on o5)))
  have zl:h5.objs.size=h.objs.size:=z5.trans (z4.trans (z3.trans (z2.trans z1)))
  have pr:IsPair (h5.push { cls:=.type "tuple",data:=.seq #[x,y] }) h5.objs.size x y:=Heap.get?_push_size _ rfl
  have fin:=hQ h7 _ _ _ _ W7 (.inr ⟨_,rfl⟩)
  rw [<- zl] at fin
  have BM:∀ j,j<=4->h5.objs.size≠n+j:=λj hj=>by omega
  exact ⟨_,rfl,fin (o7 _ _ (BM 4 wE) (BM 3 wE) (BM 0 wE) (BM 1 wE) (o6 _ _ (BM 4 wE) (BM 3 wE) (BM 0 wE) (BM 1 wE) pr)) (ol.more.on (o6.on o7))⟩
 ·intro h1 f W1 o1 z1
  wp_walk using MC,W1.draw1 hx
  intro h2 W2 o2 z2
  wp_walk using W2.draw2 hy
  intro h3 W3 o3 z3
  wp_walk
  have zl:h3.objs.size=h.objs.size:=z3.trans (z2.trans z1)
  have fin:=hQ (h3.push { cls:=.type "tuple",data:=.seq #[x,y] }) _ _ _ _ W3.more hf
  rw [<- zl] at fin
  exact ⟨_,rfl,fin (Heap.get?_push_size _ rfl) (o1.on (o2.on o3)).more⟩
def ZE (n:Nat) (h:Heap) (f0 f1:Value) (h':Heap) (e:Addr):Prop:=h'.get? (n+4)=some (HS n f0 f1)/\BD n h h'/\∃ o,h'.get? e=some o/\o.cls=.type "StopIteration"
theorem ZW.end1 {Q:Value->Shared->Prop} (hh:A.handled=none) (W:ZW n k1 k2 l1 l2 i1 i2 xs ys f0 f1 a b s.heap) (hx:xs[i1]?=none) (hE:∀ h' e,ZE n s.heap f0 f1 h' e->E (.ref e) { s with heap:=h' }):wpAny (model prog w) A (Builtin.SmallTypes.nextOf (.ref n)) Q E s:=
 J4 hh W.w1 W.s1 hx λh' e x y=>hE h' e ⟨x _ _ (ap wF) W.z,λc o _ _ c3 _ q=>x c o c3 q,y⟩
theorem ZW.end2 {Q:Value->Shared->Prop} (hh:A.handled=none) (W:ZW n k1 k2 l1 l2 i1 i2 xs ys f0 f1 a b s.heap) (hy:ys[i2]?=none) (hE:∀ h' e,ZE n s.heap f0 f1 h' e->E (.ref e) { s with heap:=h' }):wpAny (model prog w) A (Builtin.SmallTypes.nextOf (.ref (n+1))) Q E s:=
 J4 hh W.w2 W.s2 hy λh' e x y=>hE h' e ⟨x _ _ (ap wF) W.z,λc o _ _ _ c4 q=>x c o c4 q,y⟩
theorem Se {i:Nat} {Q:PySem.Fin->Shared->Prop} (hh:A.handled=none) (W:ZW n k1 k2 l1 l2 i i xs ys f0 f1 a b s.heap) (hf:ZF f0) (he:xs[i]?=none\/ys[i]?=none)
  (hE:∀ h' e,BD n s.heap h'->(∃ o,h'.get? e=some o/\o.cls=.type "StopIteration")->E (.ref e) { s with heap:=h' }) :
  wpAny (model prog w) A (Builtin.«zip.__next__» ⟨[.ref (n+4)],[]⟩) Q E s:=by
 obtain ⟨h,g,d,tk,os⟩:=s
 dsimp only at W hE
 have z:=W.z
 have t:=W.ti
 have hb:∀ h1 h2 e f,BD n h h1->ZE n h1 f f1 h2 e->wpAny (model prog w) A (setField (.ref (n+4)) 0 .none) (λ_ s'=>E (.ref e) s') E ⟨h2,g,d,tk,os⟩:=λh1 h2 e f p ⟨g2,p2,o,q,c⟩=>
  wpAny_setField_rec g2 (by simp [HS]) λh3 g3 e3=>hE h3 e (p.on (p2.on (.of e3 (.inl rfl)))) ⟨o,e3.extBut _ _ (λx=>by subst x; rw [g2] at q; cases q; simp [HS] at c) q,c⟩
 wp_walk using W.free hf,W.mark0
 ·intro h1 W1 o1 z1
  have t1:=W1.to
  cases hx:xs[i]? with
  | none=>
   wp_walk using wpAny_onRaise,W1.end1 hh hx
   exact λh2 e q=>hb h1 h2 e _ o1 q
  | some x=>
   have hy:ys[i]?=none:=he.resolve_left (by rw [hx]; simp)
   wp_walk using wpAny_onRaise,W1.draw1 hx
   intro h2 W2 o2 z2
   have t2:=W2.to
   wp_walk using W2.put
   intro h3 W3 o3 z3
   wp_walk using wpAny_onRaise,W3.end2 hh hy
   exact λh4 e q=>hb h3 h4 e _ (o1.on (o2.on o3)) q
 ·intro h1 f W1 o1 z1
  cases hx:xs[i]? with
  | none=>
   wp_walk using MC,W1.end1 hh hx
   exact λh2 e q=>hE h2 e (o1.on q.2.1) q.2.2
  | some x=>
   have hy:ys[i]?=none:=he.resolve_left (by rw [hx]; simp)
   wp_walk using MC,W1.draw1 hx
   intro h2 W2 o2 z2
   wp_walk using W2.end2 hh hy
   exact λh3 e q=>hE h3 e (o1.on (o2.on q.2.1)) q.2.2
end
section
variable {prog:Program} {w:World} {A:Around} {E:Value->Shared->Prop} {s:Shared} {n l1 l2 i1 i2 i:Nat} {k1 k2:Bool} {xs ys:Array Value} {f0 f1 a b v:Value}
theorem IJ {T id:String} {bi:Builtin} {Q:Option Value->Shared->Prop} (hT:s.TypeIs v T) (sl:Slot T (Str.ofString "__next__") id) (en:entryFor table id=some bi) (ok:argsOk id ⟨[v],[]⟩)
  (h:wpAny (model prog w) A.in1 (bi ⟨[v],[]⟩) (λfin s'=>∃ x,fin=.done (.ret x)/\Q (some x) s') (λe s'=>s'.TypeIs e "StopIteration" /\ Q none s') s):wpAny (model prog w) A (pyNext v) Q E s:=
 wpAny_bind (wpAny_attempt (wpAny_callSpecial?_slot hT sl (wpAny_call_entry sl hT en (wpAny_mono h (λfin s' ⟨x,e,q⟩=>⟨x,e,wpAny_pure q⟩) λe s' ⟨t,q⟩=>wpAny_bind (wpAny_isInstance (T := "StopIteration") (b:=true) t isSubtype_stop (wpAny_pure q))) ok)))
def Fh (k1 k2:Bool) (n l1 l2 i:Nat) (h:Heap):Prop:=∃ f0 f1 a b,ZF f0/\h.get? (n+4)=some (HS n f0 f1)/\IsPair h (n+2) (.ref n) (.ref (n+1))/\IsPair h (n+3) a b/\CT k1 h n l1 i/\CT k2 h (n+1) l2 i
theorem ZW.tn {h:Heap} (W:ZW n k1 k2 l1 l2 i i xs ys f0 f1 a b h) (hf:ZF f0):Fh k1 k2 n l1 l2 i h:=⟨f0,f1,a,b,hf,W.z,W.ti,W.to,W.w1,W.w2⟩
theorem Yh {x y:Value} {Q:Option Value->Shared->Prop} (W:ZW n k1 k2 l1 l2 i i xs ys f0 f1 a b s.heap) (hf:ZF f0) (hx:xs[i]?=some x) (hy:ys[i]?=some y)
  (hQ:∀ h' f0' f1' a' b',ZW n k1 k2 l1 l2 (i+1) (i+1) xs ys f0' f1' a' b' h'->ZF f0'->IsPair h' s.heap.objs.size x y->BD n s.heap h'->Q (some (.ref s.heap.objs.size)) { s with heap:=h' }):wpAny (model prog w) A (pyNext (.ref (n+4))) Q E s:=
 IJ ⟨_,W.z,rfl⟩ F.slot_zip_next F.entry_zip_next (F.args_zip_next_1 _) (Sd (Q:=λv s'=>Q (some v) s') W hf hx hy hQ)
theorem Yg {Q:Option Value->Shared->Prop} (hh:A.handled=none) (W:ZW n k1 k2 l1 l2 i i xs ys f0 f1 a b s.heap) (hf:ZF f0) (he:xs[i]?=none\/ys[i]?=none) (hQ:∀ h',BD n s.heap h'->Q none { s with heap:=h' }):wpAny (model prog w) A (pyNext (.ref (n+4))) Q E s:=
 IJ ⟨_,W.z,rfl⟩ F.slot_zip_next F.entry_zip_next (F.args_zip_next_1 _) (Se hh W hf he λh' e p q=>⟨q,hQ h' p⟩)
theorem ZJ {tg:Expr} {u:Value} {Q:Unit->Shared->Prop} (W:ZW n k1 k2 l1 l2 i1 i2 xs ys f0 f1 a b s.heap) (hf:ZF f0) (hQ:∀ h' f,ZW n k1 k2 l1 l2 i1 i2 xs ys f f1 a b h'->ZF f->BD n s.heap h'->Q () { s with heap:=h' }):wpAny (model prog w) A (letOwnedTupleGo tg (.ref (n+4)) u) Q E s:=by
 have same:Q () s:=hQ s.heap _ W hf (BD.refl _ _)
 obtain ⟨h,g,d,tk,os⟩:=s
 have z:=W.z
 dsimp only at z
 unfold letOwnedTupleGo
 cases tg <;> try exact wpAny_pure same
 all_goals cases u <;> try exact wpAny_pure same
 all_goals
  wp_walk
  split
  ·exact wpAny_bind (wpAny_rule (W.mark0 (s:=⟨h,g,d,tk,os⟩) (v:=.none) λh' V o z=>hQ h' _ V (.inl rfl) o))
  ·exact wpAny_pure same
theorem Qe {T id nid:String} {bi:Builtin} {Q:Value->Shared->Prop} (hT:s.TypeIs v T) (sl:Slot T (Str.ofString "__iter__") id) (en:entryFor table id=some bi) (ok:argsOk id ⟨[v],[]⟩) (nx:Slot T (Str.ofString "__next__") nid)
  (h:wpAny (model prog w) A.in1 (bi ⟨[v],[]⟩) (λfin s'=>fin=.done (.ret v)/\s'=s) E s) (q:Q v s):wpAny (model prog w) A (pyIter v) Q E s:=
 wpAny_pyIter_slot hT sl (wpAny_call_entry sl hT en (wpAny_mono h (λfin s' ⟨e1,e2⟩=>⟨v,e1,T,_,by rw [e2]; exact hT,nx.lookup,by rw [e2]; exact q⟩) λ_ _ e=>e) ok)
theorem Mw {k:Bool} {l:Addr} {Q:Value->Shared->Prop} (t:BC k s.heap l xs) (hQ:∀ o,o.isFreed=false->(∀ h:Heap,∀ c,h.get? c=some o->CT k h c l 0)->Q (.ref s.heap.objs.size) { s with heap:=s.heap.push o }):wpAny (model prog w) A (pyIter (.ref l)) Q E s:=
 match k with
 | true=>wpAny_pyIter_list t (hQ _ rfl λh c e=>⟨_,e,rfl,rfl⟩)
 | false=>wpAny_pyIter_tuple t (hQ _ rfl λh c e=>⟨_,e,rfl,rfl⟩)
end
theorem Y0 (h:Heap) (a b c d e:Obj) (fa:a.isFreed=false) (fb:b.isFreed=false) (fc:c.isFreed=false) (fd:d.isFreed=false) (fe:e.isFreed=false) :
  let m:=((((h.push a).push b).push c).push d).push e
  m.get? h.objs.size=some a/\m.get? (h.objs.size+1)=some b/\m.get? (h.objs.size+2)=some c/\m.get? (h.objs.size+3)=some d/\m.get? (h.objs.size+4)=some e/\∀ x o,h.get? x=some o->m.get? x=some o:=by
 have up:∀ (k:Heap) (o:Obj) x u,k.get? x=some u->(k.push o).get? x=some u:=λk o x u q=>Heap.get?_push_of_some _ q
 have at_:∀ (k:Heap) (o:Obj) x,o.isFreed=false->x=k.objs.size->(k.push o).get? x=some o:=λk o x f q=>by rw [q]; exact Heap.get?_push_size _ f
 exact ⟨up _ _ _ _ (up _ _ _ _ (up _ _ _ _ (up _ _ _ _ (at_ _ _ _ fa rfl)))),up _ _ _ _ (up _ _ _ _ (up _ _ _ _ (at_ _ _ _ fb (by simp [Heap.size_push])))),up _ _ _ _ (up _ _ _ _ (at_ _ _ _ fc (by simp [Heap.size_push]))),up _ _ _ _ (at_ _ _ _ fd (by simp [Heap.size_push])),at_ _ _ _ fe (by simp [Heap.size_push]),λx o q=>up _ _ _ _ (up _ _ _ _ (up _ _ _ _ (up _ _ _ _ (up _ _ _ _ q))))⟩
theorem Sc (k1 k2:Bool) (l1 l2:Addr) (xs ys:Array Value) :
  Meets (Builtin.«zip.__new__» ⟨[.type "zip",.ref l1,.ref l2],[]⟩) (λ_ R s=>BC k1 s.heap l1 xs/\BC k2 s.heap l2 ys /\
   ∀ h',ZW s.heap.objs.size k1 k2 l1 l2 0 0 xs ys .none (.bool false) .none .none h'->(∀ c o,s.heap.get? c=some o->h'.get? c=some o)->R (.ok (.ret (.ref (s.heap.objs.size+4)))) { s with heap:=h' }):=
 .of_wp λprog w A R s q=>by
  obtain ⟨h,g,d,tk,os⟩:=s
  obtain ⟨t1,t2,q⟩:=q
  have hsub:=sub_zip
  have lt:∀ {k:Bool} {l:Addr} {zs:Array Value},BC k h l zs->l<h.objs.size:=λ{k l zs} q=>by
   cases k with
   | true=>obtain ⟨o,g,_⟩:=(q:h.IsList l zs); exact Heap.lt_size g
   | false=>obtain ⟨o,g,_⟩:=(q:h.IsTuple l zs); exact Heap.lt_size g
  have p1:=lt t1
  have p2:=lt t2
  wp_walk using Mw t1
  intro a1 f1 i1
  wp_walk using Mw (s:=⟨h.push a1,g,d,tk,os⟩) (t2.at λo e=>Heap.get?_push_of_some _ e)
  intro a2 f2 i2
  wp_walk
  simp only [Heap.size_push,Nat.add_assoc,Nat.reduceAdd]
  obtain ⟨e0,e1,e2,e3,e4,up⟩:=Y0 h a1 a2 { cls:=.type "tuple",data:=.seq #[.ref h.objs.size,.ref (h.objs.size+1)] } { cls:=.type "tuple",data:=.seq #[.none,.none] } { cls:=.type "zip",data:=.fields #[.none,.bool false,.bool false,.ref (h.objs.size+2),.ref (h.objs.size+3)] } f1 f2 rfl rfl rfl
  exact ⟨_,rfl,q _ ⟨e4,e2,e3,i1 _ _ e0,i2 _ _ e1,t1.at (up _),t2.at (up _),p1,p2⟩ up⟩
theorem Q1p {prog:Program} {w:World} {A:Around} {E:Value->Shared->Prop} {s:Shared} {k1 k2:Bool} {l1 l2:Addr} {xs ys:Array Value} {Q:Value->Shared->Prop} (t1:BC k1 s.heap l1 xs) (t2:BC k2 s.heap l2 ys)
  (hQ:∀ h',Fh k1 k2 s.heap.objs.size l1 l2 0 h'->(∀ c o,s.heap.get? c=some o->h'.get? c=some o)->Q (.ref (s.heap.objs.size+4)) { s with heap:=h' }) :
  wpAny (model prog w) A (call (.type "zip") [.ref l1,.ref l2]) Q E s:=
 callType_new F.called_zip wE (F.typeCall_zip_2 _ _) (F.newCall_zip_2 _ _) (λobj=>F.args_object_init_3 obj _ _) F.entry_zip_new (Sc k1 k2 l1 l2 xs ys) ⟨t1,t2,λh' W up=>⟨⟨_,W.z,rfl⟩,hQ h' (W.tn (.inl rfl)) up⟩⟩
def Sq (k:Bool) (K:PySem.W.Frag) (H:Hp) (a:Addr) (xs:List V):Prop:=if k then A9 K H a xs else Bv K H a xs
def Nn (k1 k2:Bool) (K:PySem.W.Frag) (l1 l2:Addr):It:=
  ⟨λi H=>∃ as bs a b,Sq k1 K H l1 as/\Sq k2 K H l2 bs/\as[i]?=some a/\bs[i]?=some b,
   λi H x H'=>∃ T a b,H T=none/\H'=AI H T (.tup [a,b])/\x=.ref T/\(∀ as,Sq k1 K H l1 as->as[i]?=some a)/\∀ bs,Sq k2 K H l2 bs->bs[i]?=some b,
   λi H=>∃ as bs,Sq k1 K H l1 as/\Sq k2 K H l2 bs/\(as.length<=i\/bs.length<=i)⟩
section
variable {X:Cx} {pins:List (Addr×Obj)} {σ:L2.St} {H:Hp} {s:Shared} {k:Bool} {a:Addr} {xs ys:List V}
theorem DN (I:L2.Inv X pins σ H s) (h:Sq k X.K H a xs):∃ its:List Value,AD xs its/\BC k s.heap a its.toArray/\xs.length<=sizeLine:=by
 cases k with
 | true=>obtain ⟨its,v,p,z⟩:=I.list h; exact ⟨its,v,p.isList,z⟩
 | false=>obtain ⟨its,v,p,z⟩:=I.tuple h; exact ⟨its,v,(p:IsTup _ _ _),z⟩
theorem Nu (I:L2.Inv X pins σ H s) (h:Sq k X.K H a xs) (h':Sq k X.K H a ys):xs=ys:=by
 cases k with
 | true=>exact I.list_inj h h'
 | false=>exact I.tuple_inj h h'
end
theorem FO {X:Cx} {pins:List (Addr×Obj)} {σ:L2.St} {H:Hp} {s:Shared} {h':Heap} {t':Nat} {fp:List Addr} (I:L2.Inv X pins σ H s) (hf:∀ b∈fp,Cl X pins H b) (k:∀ b o,b∉fp->s.heap.get? b=some o->h'.get? b=some o):L2.Inv X pins σ H { s with heap:=h',toks:=t' }:=by
 have nit:∀ b u,H b=some u->b∉fp:=λb u e z=>by rw [(hf b z).1] at e; cases e
 refine I.step (g':=s.gens) (d':=s.drawn) (ch:=fp) (λb hb=>?_) (λb o _ _ hc e _=>k b o hc e) (λb o _ _ hc e _=>⟨o.slots,k b o hc e⟩) (λ_ _ _ _ n=>n) (λb o hc e=>⟨o,k b o hc e⟩) (λ_ _ e=>e) (λ_ _ _ e=>e) (λb ps e=>⟨#[],by rw [e]; simp⟩) (λm hm=>?_) (λb u e=>?_) I.bare
 ·obtain ⟨f0,f1,f2,f3,f4,f5⟩:=hf b hb
  exact ⟨f3,f1,f4,f5⟩
 ·obtain ⟨o,es,ep,ho,r⟩:=hm
  exact ⟨o,es,ep,k _ o (λz=>(hf _ z).2.1 rfl) ho,r⟩
 ·refine (I.hok b u e).stay (λc v hc q=>k c v ?_ q) (λ_ q=>q) λ_ _ q=>q
  rcases hc with z | z
  ·rw [z]; exact nit b u e
  ·exact nit c _ z
theorem R1 {X:Cx} {pins:List (Addr×Obj)} {σ:L2.St} {H:Hp} {s:Shared} {T:Addr} {o:HO} (I:L2.Inv X pins σ H s) (hT:Cl X pins H T) (hs:X.s₀.heap.objs.size<=T) (new:B7 X.prog X.w (AI H T o) s.heap T o):L2.Inv X pins σ (AI H T o) s:=by
 obtain ⟨f0,f1,f2,f3,f4,f5⟩:=hT
 have ne:∀ b u,H b=some u->b≠T:=λb u e z=>by rw [z,f0] at e; cases e
 have sn:∀ b o,X.s₀.heap.get? b=some o->b≠T:=λb o e=>Nat.ne_of_lt (Nat.lt_of_lt_of_le (Heap.lt_size e) hs)
 exact ⟨I.ok,I.os,I.bare,⟨I.base.keep,I.base.slot,λb ob q n hx=>by rw [A4 (sn b ob q)]; exact I.base.free b ob q n hx,I.base.there,λb xs q=>by have e:=I.base.tups b xs q; rw [A4 (ne b _ e)]; exact e,λb ob u q=>by have e:=I.base.frzs b ob u q; rw [A4 (ne b _ e)]; exact e,λb ps q=>by obtain ⟨m,e⟩:=I.base.tbls b ps q; exact ⟨m,by rw [A4 (ne b _ e)]; exact e⟩⟩,
  I.loc,I.cell,by rw [A4 (Ne.symm f1)]; exact I.free,λx c e=>by rw [A4 (f4 x c e)]; exact I.freeC x c e,λp hp=>by obtain ⟨a,b,c⟩:=I.pin p hp; exact ⟨a,by rw [A4 (f5 p hp)]; exact b,c⟩,R4 I.hok f0 new,I.len⟩
def Cf (n:Nat):List Addr:=[n,n+1,n+2,n+3,n+4]
theorem R9 {k1 k2:Bool} {n l1 l2 i:Nat} {h h':Heap} (st:Fh k1 k2 n l1 l2 i h) (k:∀ b∈Cf n,∀ o,h.get? b=some o->h'.get? b=some o):Fh k1 k2 n l1 l2 i h':=by
 obtain ⟨f0,f1,a,b,hf,z,ti,to,w1,w2⟩:=st
 exact ⟨f0,f1,a,b,hf,k _ (by simp [Cf]) _ z,k _ (by simp [Cf]) _ ti,k _ (by simp [Cf]) _ to,w1.at (k _ (by simp [Cf])),w2.at (k _ (by simp [Cf]))⟩
theorem Nw {k1 k2:Bool} {n l1 l2 i:Nat} {h:Heap} (st:Fh k1 k2 n l1 l2 i h):∀ b∈Cf n,∃ o,h.get? b=some o/\∀ v,o.data≠.cell v:=by
 obtain ⟨f0,f1,a,b,hf,z,ti,to,w1,w2⟩:=st
 have all:∀ P:Addr->Prop,P n->P (n+1)->P (n+2)->P (n+3)->P (n+4)->∀ b∈Cf n,P b:=λP p0 p1 p2 p3 p4 b hb=>by
  simp only [Cf,List.mem_cons,List.not_mem_nil,or_false] at hb
  rcases hb with rfl | rfl | rfl | rfl | rfl <;> assumption
 exact all _ w1.obj w2.obj ⟨_,ti,λv e=>by cases e⟩ ⟨_,to,λv e=>by cases e⟩ ⟨_,z,λv e=>by cases e⟩
theorem HR {n:Nat} {c:Addr} (h:c∉Cf n):c≠n+4/\c≠n+3/\c≠n/\c≠n+1:=
 ⟨λe=>h (by simp [Cf,e]),λe=>h (by simp [Cf,e]),λe=>h (by simp [Cf,e]),λe=>h (by simp [Cf,e])⟩
theorem BD.fp {n:Nat} {h h':Heap} (p:BD n h h'):∀ c o,c∉Cf n->h.get? c=some o->h'.get? c=some o:=λc o hc=>p c o (HR hc).1 (HR hc).2.1 (HR hc).2.2.1 (HR hc).2.2.2
theorem SE {P:Program} {w:World} {K:PySem.W.Frag} {tg:Expr} (k1 k2:Bool) (n l1 l2:Nat) (hl1:l1<n) (hl2:l2<n):EL P w K tg (Nn k1 k2 K l1 l2) (Cf n) (n+4) (Fh k1 k2 n l1 l2) where
 mem:=by simp [Cf]
 obj:=λi h st=>Nw st
 keep:=λi h h' st k=>R9 st k
 item:=by
  intro X hP hw hK hc i pins s σ H E I hf st hg
  subst hP hw hK
  obtain ⟨as,bs,a,b,q1,q2,ga,gb⟩:=hg
  obtain ⟨ia,va,sa,_⟩:=DN I q1
  obtain ⟨ib,vb,sb,_⟩:=DN I q2
  obtain ⟨ua,hua,rua⟩:=va.get ga
  obtain ⟨ub,hub,rub⟩:=vb.get gb
  have hTn:s.heap.objs.size∉Cf n:=λm=>let ⟨o,e,_⟩:=Nw st _ m; Nat.lt_irrefl _ (Heap.lt_size e)
  obtain ⟨f0,f1,a0,b0,zf,z,ti,to,w1,w2⟩:=st
  refine Yh (x:=ua) (y:=ub) ⟨z,ti,to,w1,w2,sa,sb,hl1,hl2⟩ zf (by simpa using hua) (by simpa using hub) λh1 f0' f1' a' b' W1 zf1 pr o1=>⟨_,rfl,ZJ (s:={ s with heap:=h1 }) W1 zf1 λh2 f W2 zf2 o2=>?_⟩
  have Iz:L2.Inv X pins σ H { s with heap:=h2,toks:=s.toks }:=FO I hf (o1.on o2).fp
  have fr:H s.heap.objs.size=none:=I.hok.fresh (Nat.le_refl _)
  refine ⟨.ref s.heap.objs.size,AI H s.heap.objs.size (.tup [a,b]),?_,rfl,⟨_,a,b,fr,rfl,rfl,λcs q=>?_,λcs q=>?_⟩,W2.tn zf2,λc hb=>?_⟩
  ·refine R1 Iz (I.fpOk (Nat.le_refl _) fr) I.sz ⟨show 2<=sizeLine by decide,[ua,ub],.cons rua (.cons rub .nil),?_⟩
   exact ⟨_,o2.fp _ _ hTn pr,rfl,rfl,_,rfl⟩
  ·rw [Nu I q q1]; exact ga
  ·rw [Nu I q q2]; exact gb
  ·rw [A4 (λe=>hTn (by rw [<- e]; exact hb))]; exact (hf c hb).1
 done:=by
  intro X hP hw hK hc i pins s σ H E I hf st hg
  subst hP hw hK
  obtain ⟨as,bs,q1,q2,hend⟩:=hg
  obtain ⟨ia,va,sa,_⟩:=DN I q1
  obtain ⟨ib,vb,sb,_⟩:=DN I q2
  obtain ⟨f0,f1,a0,b0,zf,z,ti,to,w1,w2⟩:=st
  have e1:=va.length
  have e2:=vb.length
  exact Yg (I.ok.hd hc) ⟨z,ti,to,w1,w2,sa,sb,hl1,hl2⟩ zf (hend.imp (λe=>by simp; omega) λe=>by simp; omega) λh' p=>⟨rfl,FO (t':=s.toks) I hf p.fp⟩
 self:=λA i s Q E st h=>by
  obtain ⟨f0,f1,a0,b0,zf,z,_⟩:=st
  exact Qe ⟨_,z,rfl⟩ F.slot_zip_iter F.entry_zip_iter (F.args_zip_iter_1 _) F.slot_zip_next (wpAny_pure ⟨rfl,rfl⟩) h
end DL
set_option maxHeartbeats 1000000
namespace DL
open PySem PySem.Spec PyProof.Rows L2 PySem.W
def LF (d:D) (xs:List D):Prop:=d=.lst xs\/d=.scr xs\/d=.tup xs
theorem Sq.same {k:Bool} {K:PySem.W.Frag} {H H':Hp} {a:Addr} {xs:List V} (e:BB H H') (h:Sq k K H a xs):Sq k K H' a xs:=by
 cases k with
 | true=>exact e.seq h
 | false=>exact DB e h
theorem LF.sq {K:PySem.W.Frag} {G:Wd} {d:D} {xs:List D} {v:V} (h:LF d xs) (i:Is K G d v):∃ k a vs,v=.ref a/\Sq k K G.g a vs/\Am K G xs vs:=by
 rcases h with rfl | rfl | rfl
 ·cases i with | lst h r=>exact ⟨true,_,_,rfl,A9.of h,r⟩
 ·cases i with | scr h r=>exact ⟨true,_,_,rfl,h,r⟩
 ·cases i with | tup h r=>exact ⟨false,_,_,rfl,h,r⟩
def GE (X:Cx) (ρ:Aj) (O:Af) (e:Expr) (xs:List D) (T:String):Prop:=
 ∀ (G:Wd) (tg:Expr) (pins:List (Addr×Obj)) (s:Shared) (σ:L2.St) (H:Hp) (R:It->Hp->Prop),L2.Inv X pins σ H s->SA X.K G H O->AF X.K G σ ρ->(∀ J G' H',Ag G G'->SA X.K G' H' O->DJ X.K G' J xs->R J H')->
  wpAny (model X.prog X.w) X.A (eval e X.env) (λv s1=>JB X pins σ tg R v s1/\s1.TypeIs v T) X.xe s
def Fi (xs ys:List D):List D:=List.zipWith (λa b=>.tup [a,b]) xs ys
theorem Zc {K:PySem.W.Frag} {G:Wd} {k1 k2:Bool} {l1 l2:Addr} {vs us:List V} {xs ys:List D} (h1:Sq k1 K G.g l1 vs) (h2:Sq k2 K G.g l2 us) (r1:Am K G xs vs) (r2:Am K G ys us):DJ K G (Nn k1 k2 K l1 l2) (Fi xs ys) where
 go:=λi H e hi=>by
  have hi:i<min xs.length ys.length:=by simpa [Fi] using hi
  obtain ⟨a,ha,_⟩:=r1.get (i:=i) (d:=xs[i]'wF) (by simp)
  obtain ⟨b,hb,_⟩:=r2.get (i:=i) (d:=ys[i]'wF) (by simp)
  exact ⟨vs,us,a,b,h1.same e,h2.same e,ha,hb⟩
 stop:=λi H e hi=>by
  have hi:min xs.length ys.length<=i:=by simpa [Fi] using hi
  have e1:=r1.length
  have e2:=r2.length
  exact ⟨vs,us,h1.same e,h2.same e,by omega⟩
 yld:=λi v H H' G2 O2 e s y hi=>by
  obtain ⟨T,a,b,hT,rfl,rfl,y1,y2⟩:=y
  obtain ⟨x,hx,ix⟩:=r1.getV (y1 vs (h1.same (e.g.trans s.sub)))
  obtain ⟨y,hy,iy⟩:=r2.getV (y2 us (h2.same (e.g.trans s.sub)))
  obtain ⟨e3,s3⟩:=s.laid (o:=.tup [a,b]) hT
  refine ⟨.tup [x,y],_,?_,e3,s3,.tup (Bv.of BF) (.cons (ix.ext (e.trans e3)) (.cons (iy.ext (e.trans e3)) .nil))⟩
  unfold Fi
  rw [List.getElem?_zipWith,hx,hy]
section
variable {X:Cx} {ρ:Aj} {O:Af} {e a b c:Expr} {es:List Expr} {d da db:D} {ds:List D} {R:D->Af->Prop} {pos p:Pos} {x:Str} {xs ys:List D}
theorem Z5 (ha:Ac X ρ O a da) (hb:Ac X ρ O b db) (fa:LF da xs) (fb:LF db ys) (hm:X.mg "zip" = none) (hg:Gl X "zip" := by rfl) (hs:starEach [a,b] X.env=[(false,eval a X.env),(false,eval b X.env)]:=by rfl) (hs2:starEach [b] X.env=[(false,eval b X.env)]:=by rfl) :
  GE X ρ O (.Call (.Name "zip" p) [a,b] [] pos) (Fi xs ys) "zip" := λG tg pins s σ H R I sa en k=>by
 refine Call_ (EZ I hg hm boot_zip (PyProof.Rows.callWith_type1 (Az (Ab ha (Ab hb Ae hs2) (by rw [hs,hs2]) G pos pins s σ H (λvs H'=>∃ G',Ag G G'/\SA X.K G' H' O/\Am X.K G' [da,db] vs) I ⟨sa,en,λvs G' H' e1 s1 i1=>⟨G',e1,s1,i1⟩⟩) λus s1 ⟨vs,H1,I1,r1,G1,e1,sa1,is1⟩=>?_) (by rw [hs,hs2]) (by rw [hs2]; rfl)))
 cases is1 with | cons i1 is1=>cases is1 with | cons i2 is1=>
 cases is1
 obtain ⟨k1,l1,v1,rfl,q1,j1⟩:=fa.sq i1
 obtain ⟨k2,l2,v2,rfl,q2,j2⟩:=fb.sq i2
 obtain ⟨u,u',rfl,ru,ru'⟩:=FX r1
 cases ru
 cases ru'
 obtain ⟨t1,w1,g1,z1⟩:=DN I1 (q1.same sa1.sub)
 obtain ⟨t2,w2,g2,z2⟩:=DN I1 (q2.same sa1.sub)
 have lt:∀ {k:Bool} {l:Addr} {ys:Array Value},BC k s1.heap l ys->l<s1.heap.objs.size:=λ{k l ys} q=>by
  cases k with
  | true=>obtain ⟨o,g,_⟩:=(q:s1.heap.IsList l ys); exact Heap.lt_size g
  | false=>obtain ⟨o,g,_⟩:=(q:s1.heap.IsTuple l ys); exact Heap.lt_size g
 refine Q1p g1 g2 λh' Z kp=>?_
 have Ik:L2.Inv X pins σ H1 { s1 with heap:=h',toks:=s1.toks }:=I1.kept kp
 refine ⟨⟨s1.heap.objs.size+4,Cf s1.heap.objs.size,Fh k1 k2 s1.heap.objs.size l1 l2,Nn k1 k2 X.K l1 l2,H1,rfl,Ik,SE k1 k2 _ l1 l2 (lt g1) (lt g2),Z,λb hb=>?_,k _ G1 H1 e1 sa1 (Zc q1 q2 j1 j2)⟩,?_⟩
 ·have hb':s1.heap.objs.size<=b:=by
   simp only [Cf,List.mem_cons,List.not_mem_nil,or_false] at hb
   rcases hb with rfl | rfl | rfl | rfl | rfl
   ·exact Nat.le_refl _
   ·exact Nat.le_add_right _ 1
   ·exact Nat.le_add_right _ 2
   ·exact Nat.le_add_right _ 3
   ·exact Nat.le_add_right _ 4
  exact I1.fpOk hb' (I1.hok.fresh hb')
 ·obtain ⟨f0,f1,a0,b0,_,hz,_⟩:=Z
  exact ⟨_,hz,rfl⟩
theorem EG {tg:Expr} {T:String} (h:GE X ρ O e xs T):Ce X ρ O tg e xs:=λG pins s σ H R I ⟨h1,h2,h3⟩=>
 Az (h G tg pins s σ H R I h1 h2 h3) λv s1 ⟨q,_⟩=>by
  obtain ⟨it,fp,tn,J,H',rfl,I',T,st,f,r⟩:=id q
  exact T.self X.A 0 s1 _ _ st q
end
def Cx.wA (X:Cx) (A:Around):Cx:={ X with A:=A }
theorem Q3U {X:Cx} {pins:List (Addr×Obj)} {σ:L2.St} {H:Hp} {s:Shared} {A:Around} (I:L2.Inv X pins σ H s) (h1:A.frames=X.A.frames) (h2:A.handled=X.A.handled):L2.Inv (Cx.wA X A) pins σ H s:=
 ⟨⟨I.ok.mod,I.ok.kind,I.ok.glob,I.ok.blt,I.ok.above,I.ok.inj,I.ok.has,I.ok.cab,λhc=>h2.trans (I.ok.hd hc),h1.trans I.ok.frames,I.ok.stk,I.ok.exf,I.ok.bs,I.ok.bsz,I.ok.noex,I.ok.exfs,I.ok.funs,I.ok.frf⟩,I.os,I.bare,I.base,I.loc,I.cell,I.free,I.freeC,I.pin,I.hok,I.len⟩
theorem Q3T {X:Cx} {pins:List (Addr×Obj)} {σ:L2.St} {H:Hp} {s:Shared} {A:Around} (I:L2.Inv (Cx.wA X A) pins σ H s) (ok:X.Ok):L2.Inv X pins σ H s:=⟨ok,I.os,I.bare,I.base,I.loc,I.cell,I.free,I.freeC,I.pin,I.hok,I.len⟩
def Cy {α:Type} (n:Nat) (P:α->Prop):KasT α->Prop
 | .ret a=>P a
 | .ask i j k=>i<n/\j<n/\∀ b,Cy n P (k b)
theorem Gj {α β:Type} {n:Nat} {f:α->KasT β} {P:α->Prop} {Q:β->Prop} (hf:∀ a,P a->Cy n Q (f a)):∀ (t:KasT α),Cy n P t->Cy n Q (t.bind f)
 | .ret a,h=>hf a h
 | .ask i j k,h=>⟨h.1,h.2.1,λb=>Gj hf (k b) (h.2.2 b)⟩
theorem QI {α:Type} {n:Nat} {P:α->Prop} {cmp:Nat->Nat->(Bool->Shared->Prop)->Shared->Prop} {lt:Nat->Nat->Bool} {s:Shared} {Q:α->Shared->Prop} (hc:∀ i j C,i<n->j<n->C (lt i j) s->cmp i j C s):∀ (t:KasT α),Cy n P t->(P (Bm lt t)->Q (Bm lt t) s)->t.kasWp cmp Q s
 | .ret a,h,q=>q h
 | .ask i j k,h,q=>hc i j _ h.1 h.2.1 (QI hc (k (lt i j)) (h.2.2 _) q)
def In (n:Nat) (p:Array Nat):Prop:=∀ k,p.getD k 0<n
theorem R3 {n:Nat} {p q:Array Nat} (h:In n p) (e:q.Perm p) (hn:0<n):In n q:=λk=>by
 rw [EC]
 cases hk:q[k]? with
 | none=>exact hn
 | some v=>
  have hv:v∈p:=e.mem_iff.mp (Array.mem_of_getElem? hk)
  obtain ⟨i,hi,ei⟩:=Array.mem_iff_getElem.mp hv
  have:=h i
  rw [EC,Array.getElem?_eq_getElem hi,ei] at this
  exact this
theorem Nb {n:Nat} {p:Array Nat} (h:In n p):∀ (f m:Nat),Cy n (λ_=>True) (kas_asc p f m)
 | 0,m=>trivial
 | f+1,m=>⟨h _,h _,λb=>by cases b; exact Nb h f (m+1); exact trivial⟩
theorem Hb {n:Nat} {p:Array Nat} (h:In n p) (hn:0<n) (i j:Nat):In n (kas_rev p i j):=R3 h (mirror_perm _ _ _ _) hn
theorem Jo {n:Nat} (hn:0<n):∀ (f:Nat) (p:Array Nat) (m q:Nat),In n p->Cy n (λr:Array Nat×Nat×Nat=>In n r.1) (kas_desc f p m q)
 | 0,p,m,q,h=>h
 | f+1,p,m,q,h=>⟨h _,h _,λb=>by
   cases b
   ·exact ⟨h _,h _,λc=>by
     cases c
     ·exact Jo hn f p _ _ h
     ·exact h⟩
   ·show Cy n _ (if true=true then _ else _)
    rw [if_pos rfl]
    split
    ·exact Jo hn f _ _ _ (Hb h hn _ _)
    ·exact Jo hn f p _ _ h⟩
theorem NW {n:Nat} (hn:0<n) {p:Array Nat} (h:In n p) (m r:Nat):Cy n (λr:Nat×Array Nat=>In n r.2) (kas_tail3 m r p):=by
 unfold kas_tail3
 refine Gj (P:=λ_=>True) (λa _=>?_) _ (Nb (Hb h hn 0 m) _ _)
 exact Hb h hn 0 m
theorem Rm {n:Nat} (hn:0<n) {p:Array Nat} (h:In n p) (m r:Nat):Cy n (λr:Nat×Array Nat=>In n r.2) (kas_descPart m r p):=
 Gj (λa ha=>by
  show Cy n _ (if _>0 then _ else _)
  split
  ·exact NW hn (Hb ha hn _ _) _ _
  ·exact NW hn ha _ _) _ (Jo hn _ _ _ _ h)
theorem Q0W {n:Nat} (hn:0<n) {p:Array Nat} (h:In n p) (r:Nat):Cy n (λr:Nat×Array Nat=>In n r.2) (kas_count r p):=
 Gj (P:=λ_=>True) (λa _=>by
  show Cy n _ (if (_==_)=true then _ else _)
  split
  ·exact h
  ·split
   ·exact ⟨h _,h _,λb=>by
     cases b
     ·exact Rm hn (Hb h hn _ _) _ _
     ·exact h⟩
   ·exact Rm hn h _ _) _ (Nb h _ _)
theorem Md {n:Nat} {p:Array Nat} (h:In n p) (k:Nat):∀ (f l r:Nat),Cy n (λ_=>True) (kas_place p k f l r)
 | 0,l,r=>trivial
 | f+1,l,r=>by
  show Cy n _ (if l>=r then _ else _)
  split
  ·exact trivial
  ·exact ⟨h _,h _,λb=>by cases b; exact Md h k f _ _; exact Md h k f _ _⟩
theorem RJ {n:Nat} (hn:0<n):∀ (f:Nat) (p:Array Nat) (k:Nat),In n p->Cy n (λ_=>True) (kas_bin f p k)
 | 0,p,k,h=>trivial
 | f+1,p,k,h=>Gj (P:=λ_=>True) (λa _=>RJ hn f _ _ (R3 h (bubble_perm _ _ _) hn)) _ (Md h k _ _ _)
theorem Tv {n:Nat} (hn:0<n):Cy n (λ_=>True) (kas_sort n):=
 Gj (λa ha=>by
  show Cy n _ (if _<n then _ else _)
  split
  ·exact RJ hn _ _ _ ha
  ·exact trivial) _ (Q0W hn (λk=>by
   rw [EC]
   by_cases hk:k<n
   ·simp [hk]
   ·simp [hk,hn]) n)
section
variable (key:Nat->Int)
theorem RI:∀ (f:Nat) (p:Array Nat) (k:Nat),k+f<=p.size->Dp key p k->∃ p',Bm (BH key) (kas_bin f p k)=p'/\p'.Perm p/\p'.size=p.size/\Dp key p' (k+f)
 | 0,p,k,h,hs=>⟨p,rfl,Array.Perm.refl _,rfl,hs⟩
 | f+1,p,k,h,hs=>by
  obtain ⟨m,e,h1,h2,h3⟩:=Mc key p k hs k 0 k (Nat.zero_le _) (Nat.le_refl _) wF (λi hi=>by omega) (λi i1 i2=>by omega)
  have hK:∀ i,KQ key (bubble p k (k-m)) i=if i=m then KQ key p k else if m<i/\i<=k then KQ key p (i-1) else KQ key p i:=λi=>by
   unfold KQ
   rw [EC,getElem?_bubble wF (k-m) wF i]
   rw [show k-(k-m)=m by omega]
   repeat' split
   all_goals rw [EC]
  obtain ⟨p',e',g1,g2,g3⟩:=RI f (bubble p k (k-m)) (k+1) (by rw [bubble_size]; omega) (λi j hij hj=>by
   rw [hK,hK]
   by_cases im:i=m
   ·rw [if_pos im]
    by_cases jm:j=m
    ·rw [if_pos jm]; exact Int.le_refl _
    ·rw [if_neg jm,if_pos wF]
     exact Int.le_of_lt (h3 (j-1) wF wF)
   ·rw [if_neg im]
    by_cases jm:j=m
    ·rw [if_pos jm,if_neg wF]
     exact h2 i wF
    ·rw [if_neg jm]
     by_cases hi:m<i/\i<=k
     ·rw [if_pos hi,if_pos wF]
      exact hs _ _ wF wF
     ·rw [if_neg hi]
      by_cases hj':m<j/\j<=k
      ·rw [if_pos hj']
       exact hs _ _ wF wF
      ·rw [if_neg hj']
       exact hs _ _ hij wF)
  refine ⟨p',?_,g1.trans (bubble_perm _ _ _),g2.trans (bubble_size _ _ _),?_⟩
  ·show Bm _ (KasT.bind _ _)=_
   rw [Fx,e]
   exact e'
  ·rw [show k+(f+1)=k+1+f by omega]; exact g3
theorem Tu {n:Nat} (hn:0<n):∃ p,Bm (BH key) (kas_sort n)=p/\p.Perm (List.toArray (List.range n))/\p.size=n/\Dp key p n:=by
 obtain ⟨m,p,e,h1,h2,h3,h4,h5⟩:=Q0V key (nrem:=n) (p:=List.toArray (List.range n)) hn (by simp)
 have hz:p.size=n:=by rw [h4]; simp
 by_cases hm:m<n
 ·obtain ⟨p',e',g1,g2,g3⟩:=RI key (n-max m 1) p (max m 1) wF (by rw [show max m 1=m by omega]; exact h5)
  refine ⟨p',?_,g1.trans h3,g2.trans hz,by rw [show max m 1+(n-max m 1)=n by omega] at g3; exact g3⟩
  unfold kas_sort
  rw [Fx,e]
  show Bm _ (if m<n then _ else _)=_
  rw [if_pos hm]
  exact e'
 ·refine ⟨p,?_,h3,hz,by rw [show n=m by omega]; exact h5⟩
  unfold kas_sort
  rw [Fx,e]
  show Bm _ (if m<n then _ else _)=_
  rw [if_neg hm]
  rfl
end
def Et {α:Type} (lt:α->α->Bool) (l:List α) (x:α):Int:=((l.filter λz=>lt z x).length:Nat)
theorem PC {α:Type} {lt:α->α->Bool} {l:List α} {x y:α} (irr:∀ a,lt a a=false) (tr:∀ a b c,lt a b=true->lt b c=true->lt a c=true) (hx:x∈l) (h:lt x y=true):Et lt l x<Et lt l y:=by
 have key:∀ l:List α,(l.filter λz=>lt z x).length<=(l.filter λz=>lt z y).length:=λl=>by
  induction l with
  | nil=>simp
  | cons a l ih=>
   simp only [List.filter_cons]
   by_cases ha:lt a x=true
   ·rw [if_pos ha,if_pos (tr _ _ _ ha h)]; simp; exact ih
   ·rw [if_neg ha]; split
    ·simp; omega
    ·exact ih
 have strict:∀ l:List α,x∈l->(l.filter λz=>lt z x).length<(l.filter λz=>lt z y).length:=λl=>by
  induction l with
  | nil=>intro h; cases h
  | cons a l ih=>
   intro hm
   have base:=key l
   simp only [List.filter_cons]
   rcases List.mem_cons.mp hm with rfl | hm
   ·rw [if_neg (by rw [irr]; simp),if_pos h]; simp; omega
   ·have:=ih hm
    by_cases ha:lt a x=true
    ·rw [if_pos ha,if_pos (tr _ _ _ ha h)]; simp; exact this
    ·rw [if_neg ha]; split
     ·simp; omega
     ·exact this
 unfold Et
 have:=strict l hx
 omega
theorem PD {α:Type} {lt:α->α->Bool} {l:List α} {x y:α} (irr:∀ a,lt a a=false) (tr:∀ a b c,lt a b=true->lt b c=true->lt a c=true) (tot:∀ a b,lt a b=false->lt b a=false->a=b) (hx:x∈l) (hy:y∈l):decide (Et lt l x<Et lt l y)=lt x y:=by
 cases h:lt x y with
 | true=>exact decide_eq_true (PC irr tr hx h)
 | false=>
  refine decide_eq_false λz=>?_
  cases h':lt y x with
  | true=>have:=PC irr tr hy h'; omega
  | false=>rw [tot _ _ h h'] at z; omega
abbrev Gk (h:Heap) (a:Addr) (vs:List Value):Heap:=((h.update a (Obj.mapSeq λ_=>(#[]:Array Value))).push (seqObj "tuple" vs.toArray 0)).push (seqObj "list" #[] 0)
theorem Zo {h:Heap} {a b:Addr} {vs:List Value} {o:Obj} (hb:b≠a) (e:h.get? b=some o):(Gk h a vs).get? b=some o:=
 Heap.get?_push_of_some _ (Heap.get?_push_of_some _ ((Heap.get?_update_ne _ _ _ _ hb).trans e))
theorem Zn {h:Heap} {a:Addr} {vs:List Value} {n:Nat} (e:h.get? a=some (seqObj "list" vs.toArray n)):∃ m,(h.update a (Obj.mapSeq λ_=>(#[]:Array Value))).get? a=some (seqObj "list" #[] m)/\(Gk h a vs).get? a=some (seqObj "list" #[] m):=
 ⟨_,get?_update_seq e _,Heap.get?_push_of_some _ (Heap.get?_push_of_some _ (get?_update_seq e _))⟩
section
variable {prog:Program} {w:World} {A:Around} {E:Value->Shared->Prop} {s:Shared}
def DT (p:Array Nat) (vs:List Value):List Value:=p.toList.map λi=>vs.getD i Value.none
def Nh (prog:Program) (w:World) (A:Around) (vs:List Value) (s:Shared) (G:SortSt->Prop):Prop:=
 ∀ E:Value->Shared->Prop,wpAny (model prog w) A (if vs.toArray.size<2 then pure general' else keyKind' vs.toArray)
  (λκ s1=>wpAny (model prog w) A ((if vs.toArray.size<2 then pure () else sortRuns').run (SortSt.mk' κ (vs.toArray.zip vs.toArray) #[] 7 none)) (λr s2=>s2=s/\failedOf r.2=none/\G r.2) E s1) E s
theorem Zp {α β:Type} {M:Model} {c:Prop} [Decidable c] {x y:Sem α} {f:α->Sem β} {Q:β->Shared->Prop} (h:wpAny M A ((if c then x else y) >>= f) Q E s):wpAny M A (if c then x >>= f else y >>= f) Q E s:=by
 by_cases hc:c
 ·rw [if_pos hc] at h ⊢; exact h
 ·rw [if_neg hc] at h ⊢; exact h
theorem Ts {a:Addr} {vs:List Value} {n:Nat} {G:SortSt->Prop} {P:PySem.Fin->Shared->Prop} (ho:s.heap.get? a=some (seqObj "list" vs.toArray n)) (lim:vs.length<=sizeLine) (hr:Nh prog w A vs { s with heap:=Gk s.heap a vs } G)
  (h:∀ st,G st->((arrOf st).map (·.2)).size<=sizeLine+1/\P (.done (.ret .none)) { s with heap:=sortedHeap s.heap a vs ((arrOf st).map (·.2)) }):wpAny (model prog w) A (Builtin.«list.sort» ⟨[.ref a],[]⟩) P E s:=by
 obtain ⟨m,g1,g2⟩:=Zn ho
 rw [list_sort_plain]
 refine wpAny_bind (listItems_at ho rfl (wpAny_bind (listUpdate_at ho rfl ?_ (by simpa using lim) (Nat.zero_le _))))
 refine wpAny_bind (seqEpoch_at g1 rfl (wpAny_bind (wpAny_newTuple (wpAny_bind (wpAny_newList (wpAny_holding ?_) (Nat.zero_le _))) lim)))
 refine Zp (wpAny_bind (wpAny_mono (hr E) (λκ s1 q1=>wpAny_bind (wpAny_mono q1 (λr s2 q2=>?_) λ_ _ e=>e)) λ_ _ e=>e))
 obtain ⟨⟨⟩,st⟩:=r
 obtain ⟨rfl,f0,gs⟩:=q2
 obtain ⟨z,q⟩:=h st gs
 refine wpAny_bind (seqEpoch_at g2 rfl (wpAny_bind (listUpdate_at g2 rfl ?_ (Nat.zero_le _) z)))
 dsimp only at f0
 rw [f0,bne_self_eq_false]
 exact wpAny_pure q
def HQ (prog:Program) (w:World) (A:Around) (vs:List Value) (key:Nat->Int) (s:Shared):Prop:=
 ∃ κ,(∀ (E:Value->Shared->Prop) (Q:SortKind->Shared->Prop),Q κ s->wpAny (model prog w) A (keyKind' vs.toArray) Q E s)/\∀ i j (C:Bool->Shared->Prop),i<vs.length->j<vs.length->C (decide (key i<key j)) s->wpAny (model prog w) A (keyLt' κ (vs.getD i Value.none) (vs.getD j Value.none)) C (λ_ _=>False) s
def Jz (vs:List Value) (key:Nat->Int) (st:SortSt):Prop:=∃ p:Array Nat,p.Perm (List.toArray (List.range vs.length))/\p.size=vs.length/\Dp key p vs.length/\(arrOf st).map (·.2)=List.toArray (DT p vs)
theorem U3 {vs:List Value} {key:Nat->Int} (h:vs.length<2):Nh prog w A vs s (Jz vs key):=λE=>by
 have c:vs.toArray.size<2:=by simpa using h
 simp only [if_pos c]
 refine wpAny_pure (wpAny_pure ⟨rfl,rfl,List.toArray (List.range vs.length),Array.Perm.refl _,by simp,λi j hij hj=>?_,?_⟩)
 ·rw [show i=j by omega]
  exact Int.le_refl _
 ·show (vs.toArray.zip vs.toArray).map (·.2)=_
  match vs,h with
  | [],_=>simp [DT]
  | [v],_=>simp [DT]
theorem U2 {vs:List Value} {key:Nat->Int} (h:2<=vs.length) (h64:vs.length<64) (cm:HQ prog w A vs key s):Nh prog w A vs s (Jz vs key):=λE=>by
 have c:¬ vs.toArray.size<2:=by simpa using h
 simp only [if_neg c]
 obtain ⟨κ,kd,cm⟩:=cm
 obtain ⟨p,ep,g1,g2,g3⟩:=Tu key (n:=vs.length) wF
 refine kd _ _ (kat_run (ks:=vs) (Q:=λst s2=>s2=s/\failedOf st=none/\Jz vs key st) (G:=λq s2=>s2=s/\q=p) rfl h h64 (λq st s2 _ a2 a3 a4=>⟨a4.1,a3,p,g1,g2,g3,?_⟩) (QI (n:=vs.length) (lt:=BH key) cm _ (Tv wF) λ_=>⟨rfl,ep⟩))
 rw [a4.2] at a2
 exact kat_snds (ks:=vs) (vs:=vs) rfl a2
theorem Tw {a:Addr} {vs:List Value} {n:Nat} {key:Nat->Int} {P:PySem.Fin->Shared->Prop} (ho:s.heap.get? a=some (seqObj "list" vs.toArray n)) (h64:vs.length<64)
  (hk:2<=vs.length->HQ prog w A vs key { s with heap:=Gk s.heap a vs })
  (h:∀ p:Array Nat,p.Perm (List.toArray (List.range vs.length))->p.size=vs.length->Dp key p vs.length->P (.done (.ret .none)) { s with heap:=sortedHeap s.heap a vs (List.toArray (DT p vs)) }):wpAny (model prog w) A (Builtin.«list.sort» ⟨[.ref a],[]⟩) P E s:=by
 have lim:vs.length<=sizeLine:=by rw [sizeLine_eq]; omega
 refine Ts (G:=Jz vs key) ho lim ?_ λst ⟨p,p1,p2,p3,e⟩=>?_
 ·by_cases c:vs.length<2
  ·exact U3 c
  ·exact U2 wF h64 (hk wF)
 ·rw [e]
  exact ⟨by simp [DT]; omega,h p p1 p2 p3⟩
theorem Q1s {x:Value} {Q:Value->Shared->Prop}
  (hc:wpAny (model prog w) A.in1 (collect x) (λvs s1=>∃ key,vs.length<64/\(2<=vs.length->HQ prog w A.in1.in1 vs key { s1 with heap:=Gk (s1.heap.push (seqObj "list" vs.toArray 0)) s1.heap.objs.size vs }) /\
   ∀ p:Array Nat,p.Perm (List.toArray (List.range vs.length))->p.size=vs.length->Dp key p vs.length->Q (.ref s1.heap.objs.size) { s1 with heap:=sortedHeap (s1.heap.push (seqObj "list" vs.toArray 0)) s1.heap.objs.size vs (List.toArray (DT p vs)) }) E s):wpAny (model prog w) A (call (.builtin "sorted") [x]) Q E s:=by
 have body:wpAny (model prog w) A.in1 (Builtin.«sorted» ⟨[x],[]⟩) (λfin s'=>∃ v,fin=.done (.ret v)/\Q v s') E s:=by
  refine wpAny_bind (m:=checkCount "sorted" 1 1 _) (wpAny_pure (wpAny_bind (Az hc λvs s1 ⟨key,h64,hk,hq⟩=>wpAny_bind (wpAny_newList (wpAny_bind (wpAny_holding ?_)) (by rw [sizeLine_eq]; omega)))))
  have own:(s1.heap.push (seqObj "list" vs.toArray 0)).get? s1.heap.objs.size=some (seqObj "list" vs.toArray 0):=Heap.get?_push_size _ rfl
  exact wpAny_call_entry slot_list_sort ⟨_,own,rfl⟩ entry_list_sort (Tw (s:={ s1 with heap:=s1.heap.push (seqObj "list" vs.toArray 0) }) own h64 hk λp p1 p2 p3=>⟨_,rfl,wpAny_pure ⟨_,rfl,hq p p1 p2 p3⟩⟩) (args_list_sort _)
 exact Calls.call_function_entry kind_sorted plain_sorted entry_sorted (args_sorted1 _) body
end
theorem FH {prog:Program} {w:World} {A:Around} {s:Shared} {id:String} {b:Builtin} {args:Args} {R:Result->Shared->Prop} (pl:plainId id=true) (en:entryFor table id=some b)
  (h:wpAny (model prog w) A.in1 (b args) (λfin s'=>match fin with | .done f=>R (.ok f) s' | .again c=>c.quiet=true/\codeAny (model prog w) A c R s') (λe s'=>R (.error e) s') s):codeAny (model prog w) A (.builtin id args) R s:=
 codeAny_builtin en (by rw [Around.under_plainId pl]; exact h)
abbrev DG (its:List Value) (c:Nat):Obj:={ cls:=.type "list",dict:=none,data:=.seq its.toArray c,slots:=#[] }
theorem Q2a {M:Model} {A:Around} {E:Value->Shared->Prop} {s:Shared} {α:Type} {t:Sem α} {Q:α->Shared->Prop} {F:Shared->Prop} {u:Sem Unit} (hu:u=pure ()) (h:wpAny M A u (λ_ s2=>F s2) E s) (k:∀ s2,F s2->wpAny M A t Q E s2):wpAny M A t Q E s:=by
 subst hu
 have:=wpAny_bind (f:=λ_=>t) (wpAny_mono h (λ_ s2 q=>k s2 q) λ_ _ e=>e)
 simpa using this
theorem QX {X:Cx} {pins:List (Addr×Obj)} {H:Hp} {b S:Addr} {o:Obj} (h:Cl X pins H b) (hb:S≠b):Cl X ((S,o)::pins) H b:=by
 obtain ⟨f0,f1,f2,f3,f4,f5⟩:=h
 refine ⟨f0,f1,f2,f3,f4,λp hp=>?_⟩
 simp only [List.mem_append,List.mem_cons] at hp
 rcases hp with q | rfl | q
 ·exact f5 p (List.mem_append_left _ q)
 ·exact hb
 ·exact f5 p (List.mem_append_right _ q)
theorem R0 {X:Cx} {pins:List (Addr×Obj)} {σ:L2.St} {H:Hp} {s:Shared} {q:Addr×Obj} (I:L2.Inv X (q::pins) σ H s):L2.Inv X pins σ H s:=I.pins_of λp hp=>I.pin p (List.mem_append_right _ (List.mem_cons_of_mem _ hp))
structure HL (X:Cx) (pins:List (Addr×Obj)) (σ:L2.St) (O:Af) (G1:Wd) (xs:List D) (S:Addr) (i:Nat) (s:Shared) (H:Hp) (G:Wd) (vs:List V) (its:List Value) (c:Nat):Prop where
 inv:L2.Inv X ((S,DG its c)::pins) σ H s
 ext:Ag G1 G
 sa:SA X.K G H O
 iss:Am X.K G (xs.take i) vs
 vals:AD vs its
section
variable {X:Cx} {A:Around} {tg:Expr} {J:It} {fp:List Addr} {it:Addr} {tn:Nat->Heap->Prop} {pins:List (Addr×Obj)} {σ:L2.St} {O:Af} {G1:Wd} {xs:List D} {S:Addr} {res:Value} {R:Result->Shared->Prop}
theorem HL.more {i:Nat} {s s2:Shared} {H H2:Hp} {G G2:Wd} {vs:List V} {its:List Value} {c:Nat} {x:D} {xv:V} {u:Value} (g:HL X pins σ O G1 xs S i s H G vs its c) (I2:L2.Inv X ((S,DG its c)::pins) σ H2 s2) (hSs:X.s₀.heap.objs.size<=S) (hSC:∀ x c,X.env.cells.lookup x=some c->c≠S) (hSp:∀ p∈X.pn++pins,p.1≠S) (hx:xs[i]?=some x) (e2:Ag G G2) (sa2:SA X.K G2 H2 O) (ix:Is X.K G2 x xv) (r:AR xv u) :
  HL X pins σ O G1 xs S (i+1) { s2 with heap:=s2.heap.update S (Obj.mapSeq (·.push u)) } H2 G2 (vs++[xv]) (its++[u]) (c+1):=by
 have p:=I2.pin (S,DG its c) (List.mem_append_right _ List.mem_cons_self)
 have Iq:L2.Inv X pins σ H2 { s2 with heap:=s2.heap.update S (Obj.mapSeq (·.push u)) }:=(R0 I2).turned (t':=s2.toks) (λb o hb q=>(Heap.get?_update_other _ _ (Ne.symm hb)).trans q) p.2.1 p.2.2.1 (.inr hSs) hSC hSp
 refine ⟨Iq.pins_of λq hq=>?_,g.ext.trans e2,sa2,?_,g.vals.append (.cons r .nil)⟩
 ·rcases List.mem_cons.mp hq with rfl | hq
  ·refine ⟨?_,p.2.1,p.2.2.1,p.2.2.2.1,λv z=>by cases z⟩
   rw [Heap.get?_update_self _ p.1 rfl]
   simp [Obj.mapSeq,DG]
  ·exact Iq.pin q (List.mem_append_right _ hq)
 ·rw [List.take_add_one,hx]
  exact (g.iss.ext e2).append (.cons ix .nil)
theorem QQ (hA:X.A=A.in1) (hc:X.calm=true) (T:EL X.prog X.w X.K tg J fp it tn) (hgo:∀ v,letOwnedTupleGo tg (.ref it) v=pure ()) (Yi:DJ X.K G1 J xs) (hsz:xs.length<=sizeLine) (hSs:X.s₀.heap.objs.size<=S) (hSC:∀ x c,X.env.cells.lookup x=some c->c≠S) (hSp:∀ p∈X.pn++pins,p.1≠S)
  (fpS:∀ (H:Hp),(∀ b∈fp,H b=none)->∀ b∈fp,Cl X pins H b) (hSf:S∉fp)
  (fin:∀ s H G vs its c,HL X pins σ O G1 xs S xs.length s H G vs its c->R (.ok (.ret res)) s) :
  ∀ (k i:Nat) (s:Shared) (H:Hp) (G:Wd) (vs:List V) (its:List Value) (c:Nat),i+k=xs.length->HL X pins σ O G1 xs S i s H G vs its c->tn i s.heap->(∀ b∈fp,H b=none)->
   codeAny (model X.prog X.w) A (.builtin "list.extend.loop" ⟨[.ref S,.ref it,res],[]⟩) R s
 | 0,i,s,H,G,vs,its,c,hk,g,st,fr=>by
  have hi:i=xs.length:=by omega
  subst hi
  have fps:∀ b∈fp,Cl X ((S,DG its c)::pins) H b:=λb hb=>QX (fpS H fr b hb) λz=>hSf (z ▸ hb)
  refine FH F.plain_extend_loop F.entry_extend_loop (hA ▸ wpAny_bind (Az (T.done X rfl rfl rfl hc xs.length _ s σ H _ g.inv fps st (Yi.stop _ H (g.ext.g.trans g.sa.sub) (Nat.le_refl _))) λr s' ⟨hr,I'⟩=>?_))
  subst hr
  exact wpAny_pure (fin s' H G vs its c ⟨I',g.ext,g.sa,g.iss,g.vals⟩)
 | k+1,i,s,H,G,vs,its,c,hk,g,st,fr=>by
  have hi:i<xs.length:=by omega
  have fps:∀ b∈fp,Cl X ((S,DG its c)::pins) H b:=λb hb=>QX (fpS H fr b hb) λz=>hSf (z ▸ hb)
  have hl:its.length=i:=by
   rw [<- g.vals.length,<- g.iss.length,List.length_take]; omega
  refine FH F.plain_extend_loop F.entry_extend_loop (hA ▸ wpAny_bind (Az (T.item X rfl rfl rfl hc i _ s σ H _ g.inv fps st (Yi.go i H (g.ext.g.trans g.sa.sub) hi)) λr s1 ⟨u,hr,h1⟩=>?_))
  subst hr
  refine Q2a (hgo u) h1 λs2 ⟨xv,H2,I2,r2,y2,st2,fr2⟩=>?_
  obtain ⟨x,G2,hx,e2,sa2,ix⟩:=Yi.yld i xv H H2 G O g.ext g.sa y2 hi
  have p2:=I2.pin (S,DG its c) (List.mem_append_right _ List.mem_cons_self)
  refine wpAny_bind (listUpdate_at p2.1 rfl (wpAny_pure ⟨plainId_quiet F.plain_extend_loop _,QQ hA hc T hgo Yi hsz hSs hSC hSp fpS hSf fin k (i+1) _ H2 G2 _ _ (c+1) wF (g.more I2 hSs hSC hSp hx e2 sa2 ix r2) ?_ fr2⟩) (by simp; omega) (by simp; omega))
  exact T.keep _ _ _ st2 λb hb o q=>(Heap.get?_update_other _ _ (λz=>hSf (by rw [z]; exact hb))).trans q
end
theorem Sa:typeLookup (.type "zip") "__len__" = pure none:=by rw [typeLookup_type,builtinLookup_eq_fast]; kernel_rfl
theorem Sb:typeLookup (.type "zip") "__length_hint__" = pure none:=by rw [typeLookup_type,builtinLookup_eq_fast]; kernel_rfl
structure JC (T:String):Prop where
 len:typeLookup (.type T) "__len__" = pure none
 hint:typeLookup (.type T) "__length_hint__" = pure none
 nl:(Value.type T==Value.type "list")=false
 nt:(Value.type T==Value.type "tuple")=false
theorem Ye:JC "zip" :=⟨Sa,Sb,by decide,by decide⟩
theorem Q1b {prog:Program} {w:World} {A:Around} {s:Shared} {E:Value->Shared->Prop} {it:Addr} {Ty:String} {Q:List Value->Shared->Prop} (hN:JC Ty) (hT:s.TypeIs (.ref it) Ty)
  (hi:∀ (h:Heap) (F:Value->Shared->Prop) (E':Value->Shared->Prop),(∀ c o,s.heap.get? c=some o->h.get? c=some o)->F (.ref it) { s with heap:=h }->wpAny (model prog w) A.in1 (pyIter (.ref it)) F E' { s with heap:=h })
  (k:∀ (h:Heap) (c:Nat) (R:Result->Shared->Prop),(∀ b o,s.heap.get? b=some o->h.get? b=some o)->h.get? s.heap.objs.size=some (DG [] c)->(∀ s' its c',s'.heap.get? s.heap.objs.size=some (DG its c')->Q its s'->R (.ok (.ret (.ref s.heap.objs.size))) s')->
   codeAny (model prog w) A (.builtin "list.extend.loop" ⟨[.ref s.heap.objs.size,.ref it,.ref s.heap.objs.size],[]⟩) R { s with heap:=h }) :
  wpAny (model prog w) A (collect (.ref it)) Q E s:=by
 obtain ⟨h,g,d,tk,os⟩:=s
 obtain ⟨o,ho,hc⟩:=hT
 have lt:it<h.objs.size:=Heap.lt_size ho
 have ne:h.objs.size≠it:=Nat.ne_of_gt lt
 dsimp only at hi k
 wp_walk
 refine FH F.plain_proto_collect F.entry_proto_collect ?_
 wp_walk
 have up:∀ b u,h.get? b=some u->(h.push { cls:=.type "list",data:=.seq #[] }).get? b=some u:=λb u e=>Heap.get?_push_of_some _ e
 have own:(h.push { cls:=.type "list",data:=.seq #[] }).get? h.objs.size=some { cls:=.type "list",data:=.seq #[] }:=Heap.get?_push_size _ rfl
 have ty:Shared.TypeIs ⟨h.push { cls:=.type "list",data:=.seq #[] },g,d,tk,os⟩ (.ref it) Ty:=⟨o,up _ _ ho,hc⟩
 have len:=hN.len
 have hint:=hN.hint
 have nl:=hN.nl
 have nt:=hN.nt
 refine ⟨plainId_quiet F.plain_list_iadd _,FH F.plain_list_iadd F.entry_list_iadd ?_⟩
 have sr:Builtin.List.listSameRef (.ref h.objs.size) (.ref it)=false:=beq_eq_false_iff_ne.mpr ne
 wp_walk using hi _ _ _ up
 have g1:=Heap.get?_update_self (Obj.mapSeq λx=>x.push Value.none) own rfl
 refine ⟨plainId_quiet F.plain_extend_loop _,k _ _ _ (λb u e=>?_) (Heap.get?_update_self (Obj.mapSeq λx=>x.pop) g1 rfl) λs' its c' e q=>wpAny_bind (wpAny_load e (wpAny_pure q))⟩
 have nb:h.objs.size≠b:=λz=>Nat.lt_irrefl _ (z ▸ Heap.lt_size e)
 rw [Heap.get?_update_other _ _ nb,Heap.get?_update_other _ _ nb]
 exact up b u e
theorem Q1a {X:Cx} {A:Around} {tg:Expr} {J:It} {fp:List Addr} {it:Addr} {tn:Nat->Heap->Prop} {pins:List (Addr×Obj)} {σ:L2.St} {O:Af} {G1:Wd} {xs:List D} {s:Shared} {H:Hp} {E:Value->Shared->Prop} {Ty:String} {Q:List Value->Shared->Prop}
  (hA:X.A=A.in1) (hc:X.calm=true) (T:EL X.prog X.w X.K tg J fp it tn) (hgo:∀ v,letOwnedTupleGo tg (.ref it) v=pure ()) (Yi:DJ X.K G1 J xs) (hsz:xs.length<=sizeLine) (hN:JC Ty) (hT:s.TypeIs (.ref it) Ty) (I:L2.Inv X pins σ H s) (st:tn 0 s.heap) (f:∀ b∈fp,Cl X pins H b) (sa:SA X.K G1 H O)
  (hQ:∀ (s':Shared) (H':Hp) (G':Wd) (vs:List V) (its:List Value),L2.Inv X pins σ H' s'->Ag G1 G'->SA X.K G' H' O->Am X.K G' xs vs->AD vs its->Q its s'):wpAny (model X.prog X.w) A (collect (.ref it)) Q E s:=by
 have out:s.heap.objs.size∉fp:=λm=>let ⟨o,e,_⟩:=T.obj 0 _ st _ m; Nat.lt_irrefl _ (Heap.lt_size e)
 obtain ⟨g0,g1,g2,g3,g4,g5⟩:Cl X pins H s.heap.objs.size:=I.fpOk (Nat.le_refl _) (I.hok.fresh (Nat.le_refl _))
 refine Q1b hN hT (λh F E' up q=>T.self A.in1 0 _ _ _ (T.keep 0 _ _ st λb _ o e=>up b o e) q) λh c R up own kr=>?_
 have I3:L2.Inv X pins σ H { s with heap:=h,toks:=s.toks }:=I.kept up
 refine QQ hA hc T hgo Yi hsz I.sz g4 g5 (λH' fr b hb=>⟨fr b hb,(f b hb).2⟩) out (λs' H' G' vs its c' g=>?_) xs.length 0 _ H G1 [] [] c wF ⟨I3.pins_of λp hp=>?_,Ag.refl _,sa,.nil,.nil⟩ (T.keep 0 _ _ st λb _ o e=>up b o e) λb hb=>(f b hb).1
 ·exact kr s' its c' (g.inv.pin (_,DG its c') (List.mem_append_right _ List.mem_cons_self)).1 (hQ s' H' G' vs its (R0 g.inv) g.ext g.sa (by have:=g.iss; rwa [List.take_length] at this) g.vals)
 ·rcases List.mem_cons.mp hp with rfl | q
  ·exact ⟨own,g0,g1,g2,λv z=>by cases z⟩
  ·exact I3.pin p (List.mem_append_right _ q)
structure Ei {α:Type} (lt:α->α->Bool):Prop where
 irr:∀ a,lt a a=false
 tr:∀ a b c,lt a b=true->lt b c=true->lt a c=true
 tot:∀ a b,lt a b=false->lt b a=false->a=b
def Ch {α:Type} (lt:α->α->Bool) (l:List α):List α:=l.mergeSort λa b=>!lt b a
theorem Ii {α:Type} (lt:α->α->Bool) (l:List α):(Ch lt l).Perm l:=List.mergeSort_perm _ _
theorem Ei.trle {α:Type} {lt:α->α->Bool} (o:Ei lt):∀ a b c:α,(!lt b a)=true->(!lt c b)=true->(!lt c a)=true:=λa b c h1 h2=>by
 have h1:lt b a=false:=by simpa using h1
 have h2:lt c b=false:=by simpa using h2
 cases h:lt c a with
 | false=>rfl
 | true=>
  cases h3:lt a b with
  | true=>rw [o.tr _ _ _ h h3] at h2; cases h2
  | false=>rw [o.tot _ _ h3 h1] at h; rw [h] at h2; cases h2
theorem Ei.totle {α:Type} {lt:α->α->Bool} (o:Ei lt):∀ a b:α,((!lt b a)||(!lt a b))=true:=λa b=>by
 cases h:lt b a with
 | false=>rfl
 | true=>
  cases h2:lt a b with
  | false=>rfl
  | true=>have:=o.tr _ _ _ h h2; rw [o.irr] at this; cases this
theorem Od {α:Type} {lt:α->α->Bool} (o:Ei lt) (l:List α):(Ch lt l).Pairwise λa b=>(!lt b a)=true:=List.pairwise_mergeSort o.trle o.totle l
theorem Tp {α:Type} {lt:α->α->Bool} (o:Ei lt) {l q:List α} (h1:q.Perm l) (h2:q.Pairwise λa b=>(!lt b a)=true):q=Ch lt l:=
 List.Perm.eq_of_pairwise (λa b _ _ x y=>o.tot a b (by simpa using y) (by simpa using x)) h2 (Od o l) (h1.trans (Ii lt l).symm)
theorem VF {p:Array Nat} {n:Nat} (g:p.Perm (List.toArray (List.range n))):∀ i∈p.toList,i<n:=λi hi=>by
 have:i∈List.toArray (List.range n):=g.mem_iff.mp (Array.mem_toList_iff.mp hi)
 simpa using this
theorem VG {α:Type} [Inhabited α] {p:Array Nat} {ps:List α} (g:p.Perm (List.toArray (List.range ps.length))):(p.toList.map λi=>ps.getD i default).Perm ps:=by
 have e:(List.range ps.length).map (λi=>ps.getD i default)=ps:=by
  apply List.ext_getElem
  ·simp
  ·intro i h1 h2
   simp
   rw [List.getElem?_eq_getElem h2]
   rfl
 have q:p.toList.Perm (List.range ps.length):=by
  have:=Array.perm_iff_toList_perm.mp g
  simpa using this
 have:=q.map λi=>ps.getD i default
 rw [e] at this
 exact this
theorem Tr {α:Type} [Inhabited α] {lt:α->α->Bool} (o:Ei lt) {K:PySem.W.Frag} {G:Wd} {ps:List α} {f:α->D} {vs:List V} {its:List Value} {key:Nat->Int} (hkey:∀ i,i<ps.length->key i=Et lt ps (ps.getD i default)) (is:Am K G (ps.map f) vs) (va:AD vs its)
  {p:Array Nat} (g1:p.Perm (List.toArray (List.range ps.length))) (g2:p.size=ps.length) (g3:Dp key p ps.length):∃ us,AD us (DT p its)/\Am K G ((Ch lt ps).map f) us/\us.length=ps.length:=by
 have hb:=VF g1
 have e1:=is.length
 have e2:=va.length
 rw [List.length_map] at e1
 refine ⟨p.toList.map λi=>vs.getD i .non,?_,?_,by simp [g2]⟩
 ·unfold DT
  have:∀ l:List Nat,(∀ i∈l,i<ps.length)->AD (l.map λi=>vs.getD i .non) (l.map λi=>its.getD i Value.none):=λl=>by
   induction l with
   | nil=>intro _; exact .nil
   | cons a l ih=>
    intro h
    have ha:=h a List.mem_cons_self
    obtain ⟨u,hu,ru⟩:=va.get (i:=a) (x:=vs[a]'wF) (by simp)
    refine .cons ?_ (ih λi hi=>h i (List.mem_cons_of_mem _ hi))
    dsimp only
    rw [List.getD_eq_getElem?_getD,List.getD_eq_getElem?_getD,List.getElem?_eq_getElem (show a<vs.length by omega),hu]
    exact ru
  exact this _ hb
 ·rw [<- Tp o (VG g1) ?_]
  ·have:∀ l:List Nat,(∀ i∈l,i<ps.length)->Am K G ((l.map λi=>ps.getD i default).map f) (l.map λi=>vs.getD i .non):=λl=>by
    induction l with
    | nil=>intro _; exact .nil
    | cons a l ih=>
     intro h
     have ha:=h a List.mem_cons_self
     obtain ⟨v,hv,iv⟩:=is.get (i:=a) (d:=f ps[a]) (by simp [ha])
     refine .cons ?_ (ih λi hi=>h i (List.mem_cons_of_mem _ hi))
     dsimp only
     rw [List.getD_eq_getElem?_getD,List.getD_eq_getElem?_getD,List.getElem?_eq_getElem ha,hv]
     exact iv
   exact this _ hb
  ·rw [List.pairwise_iff_getElem]
   intro i j hi hj hij
   rw [List.length_map,Array.length_toList] at hi hj
   have kq:∀ i (h:i<p.size),KQ key p i=Et lt ps (ps.getD p[i] default):=λi h=>by
    unfold KQ
    rw [EC,Array.getElem?_eq_getElem h,Option.getD_some]
    exact hkey _ (hb _ (Array.mem_toList_iff.mpr (Array.getElem_mem h)))
   have k:=g3 i j (Nat.le_of_lt hij) wF
   rw [kq i hi,kq j hj] at k
   rw [List.getElem_map,List.getElem_map,Array.getElem_toList,Array.getElem_toList]
   have mem:∀ i (h:i<p.size),ps.getD p[i] default∈ps:=λi h=>by
    have:=hb _ (Array.mem_toList_iff.mpr (Array.getElem_mem h))
    rw [List.getD_eq_getElem?_getD,List.getElem?_eq_getElem this]
    exact List.getElem_mem _
   have:=PD o.irr o.tr o.tot (mem j hj) (mem i hi)
   rw [<- this]
   simp only [Bool.not_eq_true',decide_eq_false_iff_not]
   omega
def AS (a b:Int×Int):Bool:=decide (a.1<b.1\/(a.1=b.1/\a.2<b.2))
theorem Hf:Ei AS:=⟨λa=>by simp [AS],λa b c h1 h2=>by simp [AS] at *; omega,λa b h1 h2=>by
 simp [AS] at *
 obtain ⟨a1,a2⟩:=a; obtain ⟨b1,b2⟩:=b
 simp at *
 omega⟩
abbrev pD (p:Int×Int):D:=.tup [.int p.1,.int p.2]
def Nv {α:Type} [Inhabited α] (X:Cx) (lt:α->α->Bool) (f:α->D):Prop:=
 ∀ (A:Around) (G:Wd) (H:Hp) (pins:List (Addr×Obj)) (σ:L2.St) (s:Shared) (s':Shared) (O:Af) (ps:List α) (vs:List V) (its:List Value),L2.Inv X pins σ H s->SA X.K G H O->Am X.K G (ps.map f) vs->AD vs its->2<=ps.length->(∀ b o,s.heap.get? b=some o->s'.heap.get? b=some o)->
  HQ X.prog X.w A its (λi=>Et lt ps (ps.getD i default)) s'
theorem QU {α:Type} {l:List α} {i:Nat} (h:i<l.length) (d:α):l.getD i d=l[i]:=by rw [List.getD_eq_getElem?_getD,List.getElem?_eq_getElem h]; rfl
theorem RM {α:Type} {l:List α} {i:Nat} (h:i<l.length) (d:α):l.getD i d∈l:=by rw [QU h]; exact List.getElem_mem _
theorem cmpP {X:Cx}:Nv X AS pD:=λA G H pins σ s s' O ps vs its I sa is va h2 up=>by
 have e1:=is.length
 have e2:=va.length
 rw [List.length_map] at e1
 have at':∀ i,i<ps.length->∃ a t u,its.getD i Value.none=.ref a/\∃ o n,s'.heap.get? a=some o/\o.cls=.type "tuple" /\ o.data=.seq #[.int (ps.getD i default).1 t,.int (ps.getD i default).2 u] n:=λi hi=>by
  obtain ⟨v,hv,iv⟩:=is.get (i:=i) (d:=pD ps[i]) (by simp [hi])
  obtain ⟨w,hw,rw'⟩:=va.get hv
  cases iv with
  | tup h r=>
  cases r with | cons j1 r=>cases r with | cons j2 r=>
  cases r
  cases j1
  cases j2
  cases rw'
  obtain ⟨its2,v2,⟨o,g1,g2,n,g3⟩,_⟩:=I.tuple (DB sa.sub h)
  obtain ⟨u1,u2,rfl,q1,q2⟩:=FX v2
  obtain ⟨t,rfl⟩:=q1
  obtain ⟨t',rfl⟩:=q2
  refine ⟨_,t,t',by rw [List.getD_eq_getElem?_getD,hw]; rfl,o,n,up _ _ g1,g2,?_⟩
  rw [QU hi]
  exact g3
 refine ⟨tuples' (Value.type "int" != Value.type "tuple"),λE Q hq=>?_,λi j C hi hj hC=>?_⟩
 ·have tp:∀ (l:List Nat),(∀ i∈l,i<ps.length)->∃ fs,KatTups s'.heap (l.map λi=>its.getD i Value.none) fs/\fs.length=l.length/\∀ f∈fs,∃ k t,f=Value.int k t:=λl=>by
   induction l with
   | nil=>intro _; exact ⟨[],.nil,rfl,λf h=>by cases h⟩
   | cons a l ih=>
    intro h
    obtain ⟨fs,f1,f2,f3⟩:=ih λi hi=>h i (List.mem_cons_of_mem _ hi)
    obtain ⟨b,t,u,e,o,n,g1,g2,g3⟩:=at' a (h a List.mem_cons_self)
    refine ⟨.int (ps.getD a default).1 t::fs,?_,by simp [f2],λf hf=>?_⟩
    ·show KatTups s'.heap (its.getD a Value.none::_) _
     rw [e]
     exact .cons g1 g2 g3 rfl f1
    ·rcases List.mem_cons.mp hf with q | q
     ·exact ⟨_,_,q⟩
     ·exact f3 f q
  obtain ⟨fs,f1,f2,f3⟩:=tp (List.range ps.length) λi hi=>List.mem_range.mp hi
  have ei:((List.range ps.length).map λi=>its.getD i Value.none)=its:=by
   apply List.ext_getElem
   ·simp; omega
   ·intro i h1 h3
    simp
    rw [List.getElem?_eq_getElem h3]; rfl
  rw [ei] at f1
  refine kat_kind f1 (by rw [f2,List.length_range]; omega) (λf hf=>?_) wE hq
  obtain ⟨k,t,rfl⟩:=f3 f hf
  exact .now
 ·obtain ⟨a,t,u,ea,oa,na,a1,a2,a3⟩:=at' i wF
  obtain ⟨b,t',u',eb,ob,nb,b1,b2,b3⟩:=at' j wF
  have hr:=PD Hf.irr Hf.tr Hf.tot (RM (show i<ps.length by omega) default) (RM (show j<ps.length by omega) default)
  rw [hr] at hC
  rw [ea,eb]
  generalize ps.getD i default=x at hC a3
  generalize ps.getD j default=y at hC b3
  refine kat_lt a1 a3 b1 b3 ?_
  show KatLex _ _ _ _ _ _ [(Value.int x.1 t,Value.int y.1 t'),(Value.int x.2 u,Value.int y.2 u')] 0 s'
  refine kat_cons (wpAny_eqBool_int ?_)
  by_cases h1:x.1=y.1
  ·rw [show (x.1==y.1)=true by simpa using h1]
   refine kat_yes (kat_cons (wpAny_eqBool_int ?_))
   by_cases h2:x.2=y.2
   ·rw [show (x.2==y.2)=true by simpa using h2]
    refine kat_yes (kat_nil ?_)
    have:AS x y=false:=by unfold AS; exact decide_eq_false wF
    rw [this] at hC
    exact hC
   ·rw [show (x.2==y.2)=false by simpa using h2]
    refine kat_no (kat_one _ _ (lt_int ?_))
    have:AS x y=decide (x.2<y.2):=by unfold AS; exact decide_eq_decide.mpr wF
    rw [this] at hC
    exact hC
  ·rw [show (x.1==y.1)=false by simpa using h1]
   refine kat_no ?_
   have e:((Value.type "int" != Value.type "tuple")&&(0:Nat)==0)=true:=by decide
   rw [e]
   refine oneLt_int ?_
   have:AS x y=decide (x.1<y.1):=by unfold AS; exact decide_eq_decide.mpr wF
   rw [this] at hC
   exact hC
section
variable {X:Cx} {ρ:Aj} {O:Af} {e a b c:Expr} {es:List Expr} {d da db:D} {ds:List D} {R:D->Af->Prop} {pos p:Pos} {x:Str} {xs ys:List D} {α:Type} [Inhabited α] {lt:α->α->Bool} {f:α->D} {ps:List α}
theorem Tq (o:Ei lt) (cm:Nv X lt f) {pins:List (Addr×Obj)} {σ:L2.St} {s1:Shared} {H1:Hp} {G1:Wd} {vs:List V} {its:List Value} {Q:VK} (I:L2.Inv X pins σ H1 s1) (sa:SA X.K G1 H1 O) (is:Am X.K G1 (ps.map f) vs) (va:AD vs its) (h64:ps.length<64)
  (hq:∀ v G' H',Ag G1 G'->SA X.K G' H' O->Is X.K G' (.lst ((Ch lt ps).map f)) v->Q v H') :
  ∃ key,its.length<64/\(2<=its.length->HQ X.prog X.w X.A.in1.in1 its key { s1 with heap:=Gk (s1.heap.push (seqObj "list" its.toArray 0)) s1.heap.objs.size its }) /\
   ∀ p:Array Nat,p.Perm (List.toArray (List.range its.length))->p.size=its.length->Dp key p its.length->EP X pins σ Q (.ref s1.heap.objs.size) { s1 with heap:=sortedHeap (s1.heap.push (seqObj "list" its.toArray 0)) s1.heap.objs.size its (List.toArray (DT p its)) }:=by
 have e1:=is.length
 have e2:=va.length
 rw [List.length_map] at e1
 have el:its.length=ps.length:=by omega
 refine ⟨λi=>Et lt ps (ps.getD i default),by omega,λh2=>?_,λp p1 p2 p3=>?_⟩
 ·refine cm _ G1 H1 pins σ s1 _ O ps vs its I sa is va wF λb ob q=>?_
  exact Zo (Nat.ne_of_lt (Heap.lt_size q)) (Heap.get?_push_of_some _ q)
 ·rw [el] at p1 p2 p3
  obtain ⟨us,u1,u2,u3⟩:=Tr o (λi _=>rfl) is va p1 p2 p3
  obtain ⟨ec,hD⟩:=sortedHeap_at (h:=s1.heap.push (seqObj "list" its.toArray 0)) (a:=s1.heap.objs.size) (vs:=its) (n:=0) (out:=List.toArray (DT p its)) (Heap.get?_push_size _ rfl)
  have fr:H1 s1.heap.objs.size=none:=I.hok.fresh (Nat.le_refl _)
  obtain ⟨e3,s3⟩:=sa.laid (o:=.lst us) fr
  refine ⟨.ref s1.heap.objs.size,AI H1 s1.heap.objs.size (.lst us),?_,rfl,hq _ _ _ e3 s3 (.lst BF (u2.ext e3))⟩
  refine I.laid (t':=s1.toks) (λb u q=>?_) (Nat.le_refl _) ⟨by rw [u3,sizeLine_eq]; omega,DT p its,ec,u1,hD⟩
  have hb:b<s1.heap.objs.size:=Heap.lt_size q
  rw [sortedHeap_old (Nat.ne_of_lt hb) (by rw [Heap.size_push]; exact Nat.lt_succ_of_lt hb)]
  exact Heap.get?_push_of_some _ q
theorem Z8 (o:Ei lt) (cm:∀ Y,Nv Y lt f) {Ty:String} (hN:JC Ty) (hz:GE X ρ O e (ps.map f) Ty) (h64:ps.length<64) (hm:X.mg "sorted" = none) (hc:X.calm=true:=by rfl) (hg:Gl X "sorted" := by rfl) (hs:starEach [e] X.env=[(false,eval e X.env)]:=by rfl) :
  Ac X ρ O (.Call (.Name "sorted" p) [e] [] pos) (.lst ((Ch lt ps).map f)):=λG pins s σ H Q I ⟨h1,h2,h3⟩=>by
 refine wpAny_Call_Name_kw (EZ I hg hm boot_sorted ?_)
 refine PyProof.Rows.callWith_builtin1 ?_ (by rw [hs]; rfl) rfl
 rw [hs]
 show wpAny _ _ (spliced ((false,eval e X.env)::backTo pos [])) _ _ s
 refine Calls.spliced_cons (Az (hz G (.Name "" pos) pins s σ H (λJ H1=>∃ G1,Ag G G1/\SA X.K G1 H1 O/\DJ X.K G1 J (ps.map f)) I h1 h2 λJ G' H' q1 q2 q3=>⟨G',q1,q2,q3⟩) λv s1 ⟨⟨it,fp,tn,J,H1,hv,I1,T,st,fo,G1,e1,sa1,Yi⟩,hT⟩=>Calls.spliced_nil ?_)
 subst hv
 refine Q1s (Q1a (X:=Cx.wA X X.A.in1.in1) (A:=X.A.in1) rfl hc T (λv=>rfl) Yi (by rw [List.length_map,sizeLine_eq]; omega) hN hT (Q3U I1 rfl rfl) st fo sa1 λs' H' G' vs its I' e' sa' is' va'=>?_)
 exact Tq o (cm X) (Q3T I' I.ok) sa' is' va' h64 λv G'' H'' q1 q2 q3=>h3 v G'' H'' (e1.trans (e'.trans q1)) q2 q3
end
mutual
def DA:D->PyData
 | .non=>.none | .bl b=>.bool b | .int i=>.int i | .str x=>.str x | .tup xs=>.tuple (DP xs) | .lst xs=>.list (DP xs) | .scr xs=>.list (DP xs) | .ptr _=>.none | .ty _=>.none | .fn _=>.none | .dct _ _=>.none
def DP:List D->List PyData
 | []=>[]
 | x::xs=>DA x::DP xs
end
mutual
def Ci:D->Bool
 | .non=>true | .bl _=>true | .int _=>true | .str x=>PyData.strOk x | .tup xs=>Dt xs | .lst xs=>Dt xs | .scr xs=>Dt xs | .ptr _=>false | .ty _=>false | .fn _=>false | .dct _ _=>false
def Dt:List D->Bool
 | []=>true
 | x::xs=>Ci x&&Dt xs
end
mutual
def C1:D->Nat
 | .tup xs=>CP xs+1 | .lst xs=>CP xs+1 | .scr xs=>CP xs+1 | .non=>0 | .bl _=>0 | .int _=>0 | .str _=>0 | .ptr _=>0 | .ty _=>0 | .fn _=>0 | .dct _ _=>0
def CP:List D->Nat
 | []=>0
 | x::xs=>max (C1 x) (CP xs)
end
def CO (a b:D):Bool:=PyData.eqv (DA a) (DA b)
def Ht (a b:List D):Bool:=PyData.eqvAll (DP a) (DP b)
mutual
theorem Hu:∀ d:D,(DA d).depth=C1 d
 | .non=>rfl | .bl _=>rfl | .int _=>rfl | .str _=>rfl | .ptr _=>rfl | .ty _=>rfl | .fn _=>rfl | .dct _ _=>rfl
 | .tup xs=>by simp only [DA,PyData.depth,C1]; rw [Jm xs]
 | .lst xs=>by simp only [DA,PyData.depth,C1]; rw [Jm xs]
 | .scr xs=>by simp only [DA,PyData.depth,C1]; rw [Jm xs]
theorem Jm:∀ xs:List D,PyData.depthAll (DP xs)=CP xs
 | []=>rfl
 | x::xs=>by simp only [DP,PyData.depthAll,CP]; rw [Hu x,Jm xs]
end
mutual
theorem Hd:∀ d:D,Ci d=true->(DA d).canLay0=true
 | .non,_=>rfl | .bl _,_=>rfl | .int _,_=>rfl | .str x,h=>by simp only [Ci] at h; simp only [DA,PyData.canLay0]; exact h | .ptr _,h=>nomatch h | .ty _,h=>nomatch h | .fn _,h=>nomatch h | .dct _ _,h=>nomatch h
 | .tup xs,h=>ID xs h
 | .lst xs,h=>ID xs h
 | .scr xs,h=>ID xs h
theorem ID:∀ xs:List D,Dt xs=true->PyData.canLayAll0 (DP xs)=true
 | [],_=>rfl
 | x::xs,h=>by
  have h:(Ci x&&Dt xs)=true:=h
  rw [Bool.and_eq_true] at h
  show (PyData.canLay0 (DA x)&&PyData.canLayAll0 (DP xs))=true
  rw [Hd x h.1,ID xs h.2]; rfl
end
section
variable {X:Cx} {pins:List (Addr×Obj)} {σ:L2.St} {H:Hp} {s:Shared} {G:Wd}
mutual
theorem PB (I:L2.Inv X pins σ H s) (sub:BB G.g H):∀ {d:D} {v:V} {u:Value},Is X.K G d v->AR v u->Ci d=true->∃ as,Reads s.heap u (DA d) as
 | _,_,_,.non,r,_=>by cases r; exact ⟨[],.none⟩
 | _,_,_,.bl b,r,_=>by cases r; exact ⟨[],.bool b⟩
 | _,_,_,.int i,r,_=>by obtain ⟨t,rfl⟩:=r; exact ⟨[],.int i t⟩
 | _,_,_,.str x,r,_=>by obtain ⟨t,rfl⟩:=r; exact ⟨[],.str x t⟩
 | _,_,_,.tup h q,r,p=>by
  cases r
  obtain ⟨its,va,⟨o,g1,g2,n,g3⟩,_⟩:=I.tuple (DB sub h)
  obtain ⟨as,ra⟩:=Hc I sub q va p
  exact ⟨as,.tuple g1 g2 g3 (by simpa using ra)⟩
 | _,_,_,.lst h q,r,p=>by
  cases r
  obtain ⟨its,va,pl,_⟩:=I.list (A9.of (sub _ _ h))
  obtain ⟨o,g1,g2,n,g3⟩:=pl.isList
  obtain ⟨as,ra⟩:=Hc I sub q va p
  exact ⟨_,.list g1 g2 g3 (by simpa using ra)⟩
 | _,_,_,.scr h q,r,p=>by
  cases r
  obtain ⟨its,va,pl,_⟩:=I.list (sub.seq h)
  obtain ⟨o,g1,g2,n,g3⟩:=pl.isList
  obtain ⟨as,ra⟩:=Hc I sub q va p
  exact ⟨_,.list g1 g2 g3 (by simpa using ra)⟩
 | _,_,_,.ptr _ _,_,p=>by simp [Ci] at p
 | _,_,_,.ty _,_,p=>by simp [Ci] at p
 | _,_,_,.fn _,_,p=>by simp [Ci] at p
 | _,_,_,.dct _ _ _,_,p=>by simp [Ci] at p
theorem Hc (I:L2.Inv X pins σ H s) (sub:BB G.g H):∀ {ds:List D} {vs:List V} {us:List Value},Am X.K G ds vs->AD vs us->Dt ds=true->∃ as,ReadsAll s.heap us (DP ds) as
 | _,_,_,.nil,.nil,_=>⟨[],.nil⟩
 | d::ds,_,_,.cons i is,.cons r rs,p=>by
  have p:(Ci d&&Dt ds)=true:=p
  rw [Bool.and_eq_true] at p
  obtain ⟨as,ra⟩:=PB I sub i r p.1
  obtain ⟨bs,rb⟩:=Hc I sub is rs p.2
  exact ⟨_,.cons ra rb⟩
end
end
def RD (O:Af) (d e:D):Prop:=e=d\/∃ n xs,d=.ptr n/\O[n]?=some (some (.lst xs))/\e=.lst xs
theorem RD.reads {X:Cx} {pins:List (Addr×Obj)} {σ:L2.St} {H:Hp} {s:Shared} {G:Wd} {O:Af} {d e:D} {v:V} {u:Value} (h:RD O d e) (I:L2.Inv X pins σ H s) (sa:SA X.K G H O) (i:Is X.K G d v) (r:AR v u) (p:Ci e=true):∃ as,Reads s.heap u (DA e) as:=by
 rcases h with rfl | ⟨n,xs,rfl,h,rfl⟩
 ·exact PB I sa.sub i r p
 ·cases i with | ptr _ ha=>
  cases r
  obtain ⟨a,g0,_,vs,g1,g2⟩:=sa.mt n _ h
  have:=Option.some.inj (ha.symm.trans g0)
  subst this
  obtain ⟨its,va,pl,_⟩:=I.list (A9.of g1)
  obtain ⟨o,q1,q2,k,q3⟩:=pl.isList
  obtain ⟨as,ra⟩:=Hc I sa.sub g2 va p
  exact ⟨_,.list q1 q2 q3 (by simpa using ra)⟩
section
variable {X:Cx} {ρ:Aj} {O:Af} {e a b c:Expr} {es:List Expr} {d da db ea eb:D} {ds xs ys:List D} {R:D->Af->Prop} {pos p:Pos} {x:Str} {k:Nat}
theorem Q1k (hr:AL k X.A) (ha:RD O da ea) (hb:RD O db eb) (pa:Ci ea=true) (pb:Ci eb=true) (hd:min (C1 ea) (C1 eb)<=60):Bg X O (compareOp .Eq) da db (.bl (CO ea eb)):=λG pins s σ H x y v u Q I rx ry ⟨h1,h2,h3,h4⟩=>by
 obtain ⟨as,ra⟩:=ha.reads I h1 h2 rx pa
 obtain ⟨bs,rb⟩:=hb.reads I h1 h3 ry pb
 have hu:=hr.units
 exact PySem.SeqAt.compareEq_reads ra rb (Hd _ pa) (Hd _ pb) (by rw [Hu,Hu]; omega) ⟨.bl _,H,I,rfl,h4 _ G H (Ag.refl _) h1 (.bl _)⟩
theorem Rw (hr:AL k X.A) (ha:RD O da ea) (hb:RD O db eb) (pa:Ci ea=true) (pb:Ci eb=true) (hd:min (C1 ea) (C1 eb)<=60):Bg X O (compareOp .NotEq) da db (.bl (!CO ea eb)):=λG pins s σ H x y v u Q I rx ry ⟨h1,h2,h3,h4⟩=>by
 obtain ⟨as,ra⟩:=ha.reads I h1 h2 rx pa
 obtain ⟨bs,rb⟩:=hb.reads I h1 h3 ry pb
 have hu:=hr.units
 exact PySem.SeqAt.compareNe_reads ra rb (Hd _ pa) (Hd _ pb) (by rw [Hu,Hu]; omega) ⟨.bl _,H,I,rfl,h4 _ G H (Ag.refl _) h1 (.bl _)⟩
end
theorem VL {l:List D} (h:∀ d∈l,Ci d=true):Dt l=true:=by
 induction l with
 | nil=>rfl
 | cons x xs ih=>
  show (Ci x&&Dt xs)=true
  rw [h x List.mem_cons_self,ih λd hd=>h d (List.mem_cons_of_mem _ hd)]; rfl
theorem Me {α:Type} {f:α->D} {l:List α} (h:∀ a∈l,Ci (f a)=true):Dt (l.map f)=true:=VL λd hd=>by obtain ⟨a,ha,rfl⟩:=List.mem_map.mp hd; exact h a ha
theorem Q0J {l:List D} {k:Nat} (h:∀ d∈l,C1 d<=k):CP l<=k:=by
 induction l with
 | nil=>exact Nat.zero_le _
 | cons x xs ih=>
  show max (C1 x) (CP xs)<=k
  have:=h x List.mem_cons_self
  have:=ih λd hd=>h d (List.mem_cons_of_mem _ hd)
  omega
theorem Q0I {α:Type} {f:α->D} {l:List α} {k:Nat} (h:∀ a∈l,C1 (f a)<=k):CP (l.map f)<=k:=Q0J λd hd=>by obtain ⟨a,ha,rfl⟩:=List.mem_map.mp hd; exact h a ha
theorem MM {α:Type} {f:α->D} [DecidableEq α] (h:∀ a b,CO (f a) (f b)=decide (a=b)):∀ l m:List α,Ht (l.map f) (m.map f)=decide (l=m)
 | [],[]=>rfl
 | [],_::_=>rfl
 | _::_,[]=>rfl
 | a::l,b::m=>by
  show (CO (f a) (f b)&&Ht (l.map f) (m.map f))=_
  rw [h a b,MM h l m]
  by_cases h1:a=b
  ·by_cases h2:l=m
   ·simp [h1,h2]
   ·simp [h1,h2]
  ·simp [h1]
theorem MN (a b:Int):CO (.int a) (.int b)=decide (a=b):=by
 show (a==b)=_
 by_cases h:a=b
 ·simp [h]
 ·simp [h]
theorem Q0w (a b:List Int):CO (.tup (a.map D.int)) (.tup (b.map D.int))=decide (a=b):=MM MN a b
theorem VM (a:List Int):Dt (a.map D.int)=true:=Me λ_ _=>rfl
theorem Q0K (a:List Int):CP (a.map D.int)<=0:=Q0I λ_ _=>Nat.le_refl _
theorem Gn {α:Type} {l:List α} {i:Nat} (h:i<l.length) (d:α):l.getD i d=l[i]:=by simp [h]
section
variable {X:Cx} {ρ:Aj} {O:Af} {e a b c:Expr} {es:List Expr} {d da db ea eb:D} {ds xs ys:List D} {R:D->Af->Prop} {pos p:Pos} {x:Str} {k:Nat}
theorem LT.sq {K:PySem.W.Frag} {G:Wd} {H:Hp} {O:Af} {d:D} {xs:List D} {v:V} (h:LT O d xs) (s:SA K G H O) (i:Is K G d v):∃ k a vs,v=.ref a/\Sq k K H a vs/\Am K G xs vs:=by
 rcases h with h | rfl
 ·obtain ⟨a,vs,rfl,q,r⟩:=h.sq s i; exact ⟨true,a,vs,rfl,q,r⟩
 ·obtain ⟨a,vs,rfl,q,r⟩:=FZ s i; exact ⟨false,a,vs,rfl,q,r⟩
theorem VD (ns:List Int):preSum (λi=>ns.getD i 0) ns.length=ns.sum:=by rw [preSum_getD,List.take_length]
theorem J2 {k:Bool} {h:Heap} {l:Addr} {ys:Array Value} (q:BC k h l ys):l<h.objs.size:=by
 cases k with
 | true=>obtain ⟨o,g,_⟩:=(q:h.IsList l ys); exact Heap.lt_size g
 | false=>obtain ⟨o,g,_⟩:=(q:h.IsTuple l ys); exact Heap.lt_size g
theorem Q1r {prog:Program} {w:World} {A:Around} {E:Value->Shared->Prop} {s:Shared} {k:Bool} {l:Addr} {its:List Value} {ns:List Int} {Q:Value->Shared->Prop} (hh:A.handled=none) (q:BC k s.heap l its.toArray) (hv:∀ (i:Nat) (v:Value),its[i]?=some v->∃ t,v=.int (ns.getD i 0) t) (hn:ns.length=its.length)
  (h:∀ h' tk t,(∀ b o,s.heap.get? b=some o->h'.get? b=some o)->Q (.int ns.sum t) { s with heap:=h',toks:=tk }):wpAny (model prog w) A (call (.builtin "sum") [.ref l]) Q E s:=by
 have hl:=J2 q
 have fin:∀ (h2:Heap),(∀ b o,s.heap.get? b=some o->h2.get? b=some o)->∀ h' tk t',(∀ b o,b∉[s.heap.objs.size]->h2.get? b=some o->h'.get? b=some o)->Q (.int (preSum (λi=>ns.getD i 0) its.toArray.size) t') { s with heap:=h',toks:=tk }:=λh2 up h' tk t' kp=>by
  rw [show its.toArray.size=ns.length by simp [hn],VD]
  exact h h' tk t' λb o e=>kp b o (by simpa using Nat.ne_of_lt (Heap.lt_size e)) (up b o e)
 cases k with
 | true=>
  refine call_sum_walkG (wpAny_pyIter_list q ⟨s.heap.objs.size,[s.heap.objs.size,l],[s.heap.objs.size],its.toArray.size,λi v=>its.toArray[i]?=some v,λi h=>h.IsListIter s.heap.objs.size l i/\h.IsList l its.toArray,λi=>ns.getD i 0,rfl,Walks.list (A:=A.in1) hh _ l (Nat.ne_of_lt hl) its.toArray,⟨⟨_,Heap.get?_push_size _ rfl,rfl,rfl⟩,Heap.IsList.push q _⟩,λb hb=>?_,λi v e=>hv i v (by simpa using e),fin _ λb o e=>Heap.get?_push_of_some _ e⟩)
  rw [Heap.size_push]
  rcases List.mem_cons.mp hb with rfl | hb
  ·exact Nat.lt_succ_self _
  ·rw [List.mem_singleton.mp hb]; exact Nat.lt_succ_of_lt hl
 | false=>
  refine call_sum_walkG (wpAny_pyIter_tuple q ⟨s.heap.objs.size,[s.heap.objs.size,l],[s.heap.objs.size],its.toArray.size,λi v=>its.toArray[i]?=some v,λi h=>h.IsTupleIter s.heap.objs.size l i/\h.IsTuple l its.toArray,λi=>ns.getD i 0,rfl,Walks.tuple (A:=A.in1) hh _ l (Nat.ne_of_lt hl) its.toArray,⟨⟨_,Heap.get?_push_size _ rfl,rfl,rfl⟩,(BC.at (k:=false) q λo e=>Heap.get?_push_of_some _ e:BC false _ l _)⟩,λb hb=>?_,λi v e=>hv i v (by simpa using e),fin _ λb o e=>Heap.get?_push_of_some _ e⟩)
  rw [Heap.size_push]
  rcases List.mem_cons.mp hb with rfl | hb
  ·exact Nat.lt_succ_self _
  ·rw [List.mem_singleton.mp hb]; exact Nat.lt_succ_of_lt hl
theorem DY {ns:List Int} (h:LT O d (ns.map D.int)) (hc:X.calm=true:=by rfl):BR X O (.builtin "sum") [d] (.int ns.sum):=λG pins s σ H vs us Q I r ⟨h1,h2,h3⟩=>by
 cases h2 with | cons i r2=>
 cases r2
 obtain ⟨kk,ad,ws,rfl,q,is⟩:=h.sq h1 i
 obtain ⟨u,rfl,ru⟩:=Dz r
 cases ru
 obtain ⟨its,va,sq,_⟩:=DN I q
 have e:=is.toInts
 subst e
 have el:=va.length
 rw [List.length_map] at el
 refine Q1r (ns:=ns) (I.ok.hd hc) sq (λi v hv=>?_) el λh' tk t kp=>⟨.int ns.sum,H,I.kept kp,⟨t,rfl⟩,h3 _ G H (Ag.refl _) h1 (.int _)⟩
 have hi:i<ns.length:=by rw [el]; exact (List.getElem?_eq_some_iff.mp hv).1
 obtain ⟨w,hw,rw'⟩:=va.get (i:=i) (x:=.int ns[i]) (by simp [hi])
 rw [hv] at hw
 cases hw
 obtain ⟨t,e⟩:=rw'
 exact ⟨t,by rw [e,Gn hi]⟩
theorem Q1A {prog:Program} {w:World} {A:Around} {E:Value->Shared->Prop} {s:Shared} {k:Bool} {l:Addr} {its:List Value} {bs:List Bool} {Q:Value->Shared->Prop} (hh:A.handled=none) (q:BC k s.heap l its.toArray) (hv:∀ (i:Nat) (v:Value),its[i]?=some v->v=.bool (bs.getD i true)) (hn:bs.length=its.length) (al:Bool)
  (h:∀ h' tk,(∀ b o,s.heap.get? b=some o->h'.get? b=some o)->Q (.bool (if al then bs.all id else bs.any id)) { s with heap:=h',toks:=tk }):wpAny (model prog w) A (call (.builtin (if al then "all" else "any")) [.ref l]) Q E s:=by
 have hl:=J2 q
 have ea:(List.range its.toArray.size).all (λi=>bs.getD i true)=bs.all id:=by
  have:bs=(List.range bs.length).map λi=>bs.getD i true:=by
   apply List.ext_getElem
   ·simp
   ·intro i h1 h2; simp; rw [List.getElem?_eq_getElem h1]; rfl
  conv=>rhs; rw [this,List.all_map]
  rw [show its.toArray.size=bs.length by simp [hn]]
  rfl
 have eb:(List.range its.toArray.size).any (λi=>bs.getD i true)=bs.any id:=by
  have:bs=(List.range bs.length).map λi=>bs.getD i true:=by
   apply List.ext_getElem
   ·simp
   ·intro i h1 h2; simp; rw [List.getElem?_eq_getElem h1]; rfl
  conv=>rhs; rw [this,List.any_map]
  rw [show its.toArray.size=bs.length by simp [hn]]
  rfl
 have kp':∀ (h2:Heap),(∀ b o,s.heap.get? b=some o->h2.get? b=some o)->∀ h':Heap,(∀ b o,b∉[s.heap.objs.size]->h2.get? b=some o->h'.get? b=some o)->∀ b o,s.heap.get? b=some o->h'.get? b=some o:=λh2 up h' kp b o e=>kp b o (by simpa using Nat.ne_of_lt (Heap.lt_size e)) (up b o e)
 have tr:TruthOf prog w A.in1 (λi v=>its.toArray[i]?=some v) (λi=>bs.getD i true):=λi v s Q E hP hQ=>by
  rw [hv i v (by simpa using hP)]; exact wpAny_truthy_bool hQ
 cases k with
 | true=>
  have W:=Walks.list (prog:=prog) (w:=w) (A:=A.in1) hh s.heap.objs.size l (Nat.ne_of_lt hl) its.toArray
  have st:(s.heap.push { cls:=.type "list_iterator",data:=.fields #[.ref l,.int 0 0] }).IsListIter s.heap.objs.size l 0/\(s.heap.push { cls:=.type "list_iterator",data:=.fields #[.ref l,.int 0 0] }).IsList l its.toArray:=⟨⟨_,Heap.get?_push_size _ rfl,rfl,rfl⟩,Heap.IsList.push q _⟩
  cases al with
  | true=>exact call_all_walk (wpAny_pyIter_list q ⟨_,_,_,_,_,_,_,rfl,W,st,tr,λh' tk kp=>by rw [ea]; exact h h' tk (kp' _ (λb o e=>Heap.get?_push_of_some _ e) h' kp)⟩)
  | false=>exact call_any_walk (wpAny_pyIter_list q ⟨_,_,_,_,_,_,_,rfl,W,st,tr,λh' tk kp=>by rw [eb]; exact h h' tk (kp' _ (λb o e=>Heap.get?_push_of_some _ e) h' kp)⟩)
 | false=>
  have W:=Walks.tuple (prog:=prog) (w:=w) (A:=A.in1) hh s.heap.objs.size l (Nat.ne_of_lt hl) its.toArray
  have st:(s.heap.push { cls:=.type "tuple_iterator",data:=.fields #[.ref l,.int 0 0] }).IsTupleIter s.heap.objs.size l 0/\(s.heap.push { cls:=.type "tuple_iterator",data:=.fields #[.ref l,.int 0 0] }).IsTuple l its.toArray:=⟨⟨_,Heap.get?_push_size _ rfl,rfl,rfl⟩,(BC.at (k:=false) q λo e=>Heap.get?_push_of_some _ e:BC false _ l _)⟩
  cases al with
  | true=>exact call_all_walk (wpAny_pyIter_tuple q ⟨_,_,_,_,_,_,_,rfl,W,st,tr,λh' tk kp=>by rw [ea]; exact h h' tk (kp' _ (λb o e=>Heap.get?_push_of_some _ e) h' kp)⟩)
  | false=>exact call_any_walk (wpAny_pyIter_tuple q ⟨_,_,_,_,_,_,_,rfl,W,st,tr,λh' tk kp=>by rw [eb]; exact h h' tk (kp' _ (λb o e=>Heap.get?_push_of_some _ e) h' kp)⟩)
theorem RB {bs:List Bool} (al:Bool) (h:LT O d (bs.map D.bl)) (hc:X.calm=true):BR X O (.builtin (if al then "all" else "any")) [d] (.bl (if al then bs.all id else bs.any id)):=λG pins s σ H vs us Q I r ⟨h1,h2,h3⟩=>by
 cases h2 with | cons i r2=>
 cases r2
 obtain ⟨kk,ad,ws,rfl,q,is⟩:=h.sq h1 i
 obtain ⟨u,rfl,ru⟩:=Dz r
 cases ru
 obtain ⟨its,va,sq,_⟩:=DN I q
 have e1:=is.length
 have e2:=va.length
 rw [List.length_map] at e1
 refine Q1A (bs:=bs) (I.ok.hd hc) sq (λi v hv=>?_) wF al λh' tk kp=>⟨.bl _,H,I.kept kp,rfl,h3 _ G H (Ag.refl _) h1 (.bl _)⟩
 have hi:i<bs.length:=by rw [e1,e2]; exact (List.getElem?_eq_some_iff.mp hv).1
 obtain ⟨w,hw,iw⟩:=is.get (i:=i) (d:=.bl bs[i]) (by simp [hi])
 obtain ⟨z,hz,rz⟩:=va.get hw
 rw [hv] at hz
 cases hz
 cases iw
 rw [Gn hi]
 exact rz
theorem HA {bs:List Bool} (h:LT O d (bs.map D.bl)) (hc:X.calm=true:=by rfl):BR X O (.builtin "all") [d] (.bl (bs.all id)):=RB true h hc
theorem Q1I {bs:List Bool} (h:LT O d (bs.map D.bl)) (hc:X.calm=true:=by rfl):BR X O (.builtin "any") [d] (.bl (bs.any id)):=RB false h hc
end
end DL
namespace DL
open PySem PySem.Spec PyProof.Rows L2
mutual
def Fu:D->Bool
 | .ptr _=>false
 | .tup xs=>D4 xs
 | .lst xs=>D4 xs
 | .scr xs=>D4 xs
 | .dct _ xs=>D4 xs
 | _=>true
def D4:List D->Bool
 | []=>true
 | d::ds=>Fu d&&D4 ds
end
theorem Qo {α:Type} {f:α->D} (h:∀ a,Fu (f a)=true) (l:List α):D4 (l.map f)=true:=by
 induction l with
 | nil=>rfl
 | cons a l ih=>rw [List.map_cons]; unfold D4; rw [h,ih]; rfl
theorem Yc (l:List Int):D4 (l.map D.int)=true:=Qo (λ_=>rfl) l
section
variable {K:PySem.W.Frag} {G G':Wd} {t:List Addr}
mutual
theorem Is.cut:∀ {d:D} {v:V},Is K G' d v->Fu d=true->∀ l,Is K ⟨G'.g,l⟩ d v
 | _,_,.non,_,l=>.non
 | _,_,.bl b,_,l=>.bl b
 | _,_,.int i,_,l=>.int i
 | _,_,.str x,_,l=>.str x
 | _,_,.tup h r,e,l=>.tup h (Am.cut r e l)
 | _,_,.lst h r,e,l=>.lst h (Am.cut r e l)
 | _,_,.scr h r,e,l=>.scr h (Am.cut r e l)
 | _,_,.ptr n h,e,l=>by cases e
 | _,_,.ty n,_,l=>.ty n
 | _,_,.fn n,_,l=>.fn n
 | _,_,.dct h hl r,e,l=>.dct h hl (Am.cut r e l)
theorem Am.cut:∀ {ds:List D} {vs:List V},Am K G' ds vs->D4 ds=true->∀ l,Am K ⟨G'.g,l⟩ ds vs
 | _,_,.nil,_,l=>.nil
 | _,_,.cons h r,e,l=>by
  have e:=(Bool.and_eq_true _ _).mp e
  exact .cons (Is.cut h e.1 l) (Am.cut r e.2 l)
end
mutual
theorem Is.back (e:G'.l=G.l++t):∀ {d:D} {v v0:V},Is K G d v0->Is K G' d v->Is K ⟨G'.g,G.l⟩ d v
 | _,_,_,.non,h=>by cases h; exact .non
 | _,_,_,.bl b,h=>by cases h; exact .bl b
 | _,_,_,.int i,h=>by cases h; exact .int i
 | _,_,_,.str x,h=>by cases h; exact .str x
 | _,_,_,.tup _ r0,h=>by cases h with | tup h r=>exact .tup h (Am.back e r0 r)
 | _,_,_,.lst _ r0,h=>by cases h with | lst h r=>exact .lst h (Am.back e r0 r)
 | _,_,_,.scr _ r0,h=>by cases h with | scr h r=>exact .scr h (Am.back e r0 r)
 | _,_,_,.ptr n q,h=>by
  cases h with
  | ptr _ h=>
   refine .ptr n ?_
   rw [e,List.getElem?_append_left (List.getElem?_eq_some_iff.mp q).1] at h
   exact h
 | _,_,_,.ty n,h=>by cases h; exact .ty n
 | _,_,_,.fn n,h=>by cases h; exact .fn n
 | _,_,_,.dct _ _ r0,h=>by cases h with | dct h hl r=>exact .dct h hl (Am.back e r0 r)
theorem Am.back (e:G'.l=G.l++t):∀ {ds:List D} {vs v0:List V},Am K G ds v0->Am K G' ds vs->Am K ⟨G'.g,G.l⟩ ds vs
 | _,_,_,.nil,h=>by cases h; exact .nil
 | _,_,_,.cons q r,h=>by cases h with | cons h1 h2=>exact .cons (Is.back e q h1) (Am.back e r h2)
end
theorem BE.back (e:G'.l=G.l++t):∀ {fs:List (Str×D)} {vs v0:List (Str×V)},BE K G fs v0->BE K G' fs vs->BE K ⟨G'.g,G.l⟩ fs vs
 | _,_,_,.nil,h=>by cases h; exact .nil
 | _,_,_,.cons q r,h=>by cases h with | cons h1 h2=>exact .cons (Is.back e q h1) (BE.back e r h2)
theorem SA.cut {H H':Hp} {O O2:Af} (s:SA K G H O) (e:Ag G G') (s':SA K G' H' (O++O2)):Ag G ⟨G'.g,G.l⟩/\SA K ⟨G'.g,G.l⟩ H' O:=by
 obtain ⟨t,et⟩:=e.l
 refine ⟨⟨e.g,[],(List.append_nil _).symm⟩,⟨s'.sub,s.len,s.nd,λa ha=>s'.liv a (by rw [et]; exact List.mem_append_left _ ha),λn m h=>?_⟩⟩
 have hn:=(List.getElem?_eq_some_iff.mp h).1
 obtain ⟨a,q1,q2,q3⟩:=s'.mt n m (by rw [List.getElem?_append_left hn]; exact h)
 obtain ⟨a0,p1,p2,p3⟩:=s.mt n m h
 rw [et,List.getElem?_append_left (by rw [s.len]; exact hn)] at q1
 refine ⟨a,q1,q2,?_⟩
 cases m with
 | lst xs=>
  obtain ⟨vs,g1,g2⟩:=q3
  obtain ⟨v0,h1,h2⟩:=p3
  exact ⟨vs,g1,Am.back et h2 g2⟩
 | ins C fs=>
  obtain ⟨dx,vs,g1,g2⟩:=q3
  obtain ⟨dx0,v0,h1,h2⟩:=p3
  exact ⟨dx,vs,g1,BE.back et h2 g2⟩
 | exc C fs ha=>
  obtain ⟨ob,g1,g2,g3,g4⟩:=q3
  obtain ⟨ob0,h1,h2,h3,_⟩:=p3
  refine ⟨ob,g1,g2,?_,g4⟩
  rcases h3 with h3 | ⟨dx0,v0,b1,b2,b3⟩
  ·exact .inl h3
  ·refine g3.imp id ?_
   rintro ⟨dx,vs,a1,a2,a3⟩
   exact ⟨dx,vs,a1,a2,BE.back et b3 a3⟩
 | dct ks xs=>
  obtain ⟨vs,g1,g2,g3⟩:=q3
  obtain ⟨v0,h1,h2,h3⟩:=p3
  exact ⟨vs,g1,g2,Am.back et h3 g3⟩
 | pin ob vs ks xs=>exact ⟨q3.1,q3.2.1,Am.back et p3.2.2 q3.2.2⟩
end
section
variable {X:Cx} {ρ:Aj} {O:Af} {e a b c:Expr} {es:List Expr} {d da db:D} {ds:List D} {R:D->Af->Prop} {pos p:Pos} {x:Str} {rest:List Stmt} {P:Bf}
theorem Fj (h:Cm X ρ O rest { nx:=λ_ _=>False,rt:=λd O'=>(∃ O2,O'=O++O2)/\Fu d=true/\P.rt d O }):Cm X ρ O rest P:=λG pins s σ H E I ⟨q1,q2,q3⟩=>by
 refine h G pins s σ H E I ⟨q1,q2,⟨λσ' ρ' O' G3 H3 e3 s3 n3 q=>q.elim,λv d O' G3 H3 e3 s3 i3 r=>?_,λσ' ρ' O' G3 H3 e3 s3 n3 q=>q.elim,λσ' ρ' O' G3 H3 e3 s3 n3 q=>q.elim⟩⟩
 obtain ⟨⟨O2,rfl⟩,r2,r3⟩:=r
 obtain ⟨e4,s4⟩:=q1.cut e3 s3
 exact q3.rt v d O _ H3 e4 s4 (i3.cut r2 _) r3
def Gc (pre:List D->Prop) (f:List D->D->Prop):AH:=λds O R=>pre ds/\∀ d,f ds d->R d O
theorem JO {tg:Expr} (he:Ev X ρ O e λd O'=>∃ ρ1,Tg X tg d ρ ρ1/\P.nx ρ1 O') (hs:swapsWithSole [tg] e pos.line X.env=pure false:=by rfl) (hw:swappedStores [tg] e X.env=pure none:=by rfl)
  (h1:(assignEach [tg] X.env).map (·.2)=[assign tg X.env]:=by rfl):Ex X ρ O (.Assign [tg] e pos) P:=λG=>
 PS.imp (PY (he G) (g:=λv σ H Q=>∃ G1 d ρ1,Tg X tg d ρ ρ1/\Is X.K G1 d v/\BB G1.g H/\AF X.K G1 σ ρ/\∀ σ',AF X.K G1 σ' ρ1->Q σ' H) (λpins s σ H v u Q I r ⟨G1,d,ρ1,ht,q⟩=>ht G1 pins s σ H v u Q I r q) hs hw h1) λE σ H ⟨q1,q2,q3⟩=>
  ⟨q1,q2,λv d O' G' H' e1 s1 i1 ⟨ρ1,t1,r1⟩=>⟨G',d,ρ1,t1,i1,s1.sub,q2.ext e1,λσ' n'=>q3.nx _ _ O' G' H' e1 s1 n' r1⟩⟩
theorem A7 {m:Option MO} {O2:Af}:(O++m::O2)[O.length]?=some m:=by
 rw [List.getElem?_append_right (Nat.le_refl _),Nat.sub_self]; rfl
theorem B5 {m z:Option MO} {O2:Af}:(O++m::O2).set O.length z=O++z::O2:=by
 rw [List.set_append_right (h:=Nat.le_refl _),Nat.sub_self]; rfl
section
variable {α:Type} {ps:List α} {f g:α->D} {h:α->Option D} {tg iter elt:Expr} {ifs:List Expr} {scope:Scope}
theorem Q1 (ps:List α) (g:α->D):(ps.map λq=>some (g q)).filterMap id=ps.map g:=by
 induction ps with
 | nil=>rfl
 | cons a l ih=>rw [List.map_cons,List.filterMap_cons,ih]; rfl
theorem I0 (ps:List α) (h:α->Option D):(ps.map h).filterMap id=ps.filterMap h:=by
 rw [List.filterMap_map]; rfl
theorem Gs (h:α->Option D) (T F:List Str) (js:List Nat) (hi:Ce X ρ O tg iter (ps.map f)) (hsz:ps.length<=sizeLine) (turn:∀ q,q∈ps->GG X T F js ρ O scope tg elt ifs (f q) (h q))
  (hfl:F.length=js.length:=by rfl) (hB:Dk X.N X.env.scope.names scope.names F js=true:=by rfl) (hc:X.calm=true:=by rfl) (hk:scope.kind=.function:=by rfl) (hs:∀ x,foldedSetIterable iter X.env x=pure x:=by intro _; rfl) :
  Ac X ρ O (.ListComp elt [⟨tg,iter,ifs,0⟩] scope pos) (.lst (ps.filterMap h)):=by
 rw [<- I0]
 refine Q0i T F js hi (by rw [List.length_map,List.length_map]) (by rw [List.length_map]; exact hsz) (λi x z h1 h2=>?_) hfl hB hc hk hs
 rw [List.getElem?_map] at h1 h2
 cases e:ps[i]? with
 | none=>rw [e] at h1; cases h1
 | some q=>rw [e] at h1 h2; cases h1; cases h2; exact turn q (List.mem_of_getElem? e)
theorem BN (g:α->D) (T F:List Str) (js:List Nat) (hi:Ce X ρ O tg iter (ps.map f)) (hsz:ps.length<=sizeLine) (turn:∀ q,q∈ps->GG X T F js ρ O scope tg elt ifs (f q) (some (g q)))
  (hfl:F.length=js.length:=by rfl) (hB:Dk X.N X.env.scope.names scope.names F js=true:=by rfl) (hc:X.calm=true:=by rfl) (hk:scope.kind=.function:=by rfl) (hs:∀ x,foldedSetIterable iter X.env x=pure x:=by intro _; rfl) :
  Ac X ρ O (.ListComp elt [⟨tg,iter,ifs,0⟩] scope pos) (.lst (ps.map g)):=by
 rw [<- Q1,I0]
 exact Gs (λq=>some (g q)) T F js hi hsz turn hfl hB hc hk hs
theorem Si {x:Str} {p spos:Pos} (k:Nat) (h:α->Option D) (T F:List Str) (js:List Nat) (hi:Ce X ρ O tg iter (ps.map f)) (hsz:ps.length<=sizeLine) (turn:∀ q,q∈ps->GG X T F js ρ O scope tg elt ifs (f q) (h q))
  (hP:P.nx (ρ.set k (some (.lst (ps.filterMap h)))) O) (hN:X.N.Nodup) (hx:X.N[k]?=some x:=by rfl) (hlc:EN X.env.scope x:=by first | exact Or.inl rfl | exact Or.inr rfl) (hf:X.fn x=true\/X.env.scope.names.lookup x=some .local:=by first | exact .inl rfl | exact .inr rfl | assumption)
  (hfl:F.length=js.length:=by rfl) (hB:Dk X.N X.env.scope.names scope.names F js=true:=by rfl) (hc:X.calm=true:=by rfl) (hk:scope.kind=.function:=by rfl) (hs:∀ x,foldedSetIterable iter X.env x=pure x:=by intro _; rfl)
  (hsw:swapsWith (.ListComp elt [⟨tg,iter,ifs,0⟩] scope pos) (some (.Name x p)) spos.line X.env=pure true:=by rfl):Ex X ρ O (.Assign [.Name x p] (.ListComp elt [⟨tg,iter,ifs,0⟩] scope pos) spos) P:=by
 rw [<- I0] at hP
 refine Sj k T F js hi (by rw [List.length_map,List.length_map]) (by rw [List.length_map]; exact hsz) (λi x z h1 h2=>?_) hP hN hx hlc hf hfl hB hc hk hs hsw
 rw [List.getElem?_map] at h1 h2
 cases e:ps[i]? with
 | none=>rw [e] at h1; cases h1
 | some q=>rw [e] at h1 h2; cases h1; cases h2; exact turn q (List.mem_of_getElem? e)
theorem Sh {x:Str} {p spos:Pos} (k:Nat) (g:α->D) (T F:List Str) (js:List Nat) (hi:Ce X ρ O tg iter (ps.map f)) (hsz:ps.length<=sizeLine) (turn:∀ q,q∈ps->GG X T F js ρ O scope tg elt ifs (f q) (some (g q)))
  (hP:P.nx (ρ.set k (some (.lst (ps.map g)))) O) (hN:X.N.Nodup) (hx:X.N[k]?=some x:=by rfl) (hlc:EN X.env.scope x:=by first | exact Or.inl rfl | exact Or.inr rfl) (hf:X.fn x=true\/X.env.scope.names.lookup x=some .local:=by first | exact .inl rfl | exact .inr rfl | assumption)
  (hfl:F.length=js.length:=by rfl) (hB:Dk X.N X.env.scope.names scope.names F js=true:=by rfl) (hc:X.calm=true:=by rfl) (hk:scope.kind=.function:=by rfl) (hs:∀ x,foldedSetIterable iter X.env x=pure x:=by intro _; rfl)
  (hsw:swapsWith (.ListComp elt [⟨tg,iter,ifs,0⟩] scope pos) (some (.Name x p)) spos.line X.env=pure true:=by rfl):Ex X ρ O (.Assign [.Name x p] (.ListComp elt [⟨tg,iter,ifs,0⟩] scope pos) spos) P:=by
 rw [<- Q1,I0] at hP
 exact Si k (λq=>some (g q)) T F js hi hsz turn hP hN hx hlc hf hfl hB hc hk hs hsw
theorem Bz {xs:List D} (he:Ac X ρ O e d) (fa:LF d xs):Ce X ρ O tg e xs:=by
 rcases fa with rfl | rfl | rfl
 ·exact Q0F he
 ·exact Q0D he
 ·exact Q0B he
end
end
def Cc {α:Type} (a:List α) (lo hi:Option Int):List α:=(a.drop (HT.sIx a.length 0 lo)).take (HT.sIx a.length a.length hi-HT.sIx a.length 0 lo)
theorem TF {α:Type} {f:α->D} (a:List α) (lo hi:Option Int):GT (a.map f) lo hi=(Cc a lo hi).map f:=by
 unfold GT Cc
 rw [List.length_map,List.map_take,List.map_drop]
theorem Q0Q {α:Type} {a:List α} {lo hi:Option Int} {x:α} (h:x∈Cc a lo hi):x∈a:=List.mem_of_mem_drop (List.mem_of_mem_take h)
theorem Q0R {α:Type} (a:List α) (lo hi:Option Int):(Cc a lo hi).length<=a.length:=by
 unfold Cc
 rw [List.length_take,List.length_drop]
 omega
theorem Rs {α:Type} (a:List α) (k:Nat):Cc a none (some (k:Int))=a.take k:=by
 unfold Cc
 rw [HT.sIx_none,HT.sIx_nat,List.drop_zero,Nat.sub_zero]
 rcases Nat.le_total k a.length with h | h
 ·rw [Nat.min_eq_left h]
 ·rw [Nat.min_eq_right h,List.take_of_length_le (Nat.le_refl _),List.take_of_length_le h]
theorem Q0P {α:Type} (a:List α) (j k:Nat):Cc a (some (j:Int)) (some (k:Int))=(a.drop j).take (k-j):=by
 unfold Cc
 rw [HT.sIx_nat,HT.sIx_nat]
 rcases Nat.le_total j a.length with h | h
 ·rw [Nat.min_eq_left h]
  rcases Nat.le_total k a.length with h2 | h2
  ·rw [Nat.min_eq_left h2]
  ·rw [Nat.min_eq_right h2,List.take_of_length_le (by rw [List.length_drop]; omega),List.take_of_length_le (by rw [List.length_drop]; omega)]
 ·rw [Nat.min_eq_right h,List.drop_of_length_le (Nat.le_refl _),List.drop_of_length_le h,List.take_nil,List.take_nil]
theorem NA {α β:Type} {f:α->D} {g:β->D}:∀ (a:List α) (b:List β),Fi (a.map f) (b.map g)=(a.zip b).map λq=>.tup [f q.1,g q.2]
 | [],_=>rfl
 | _::_,[]=>rfl
 | x::a,y::b=>by
  have ih:=NA (f:=f) (g:=g) a b
  unfold Fi at ih ⊢
  rw [List.map_cons,List.map_cons,List.zipWith_cons_cons,ih]
  rfl
section
variable {X:Cx} {ρ:Aj} {O:Af} {e a b c:Expr} {es:List Expr} {d da db:D} {ds:List D} {R:D->Af->Prop} {pos p:Pos} {x:Str} {rest:List Stmt} {P:Bf}
theorem MI {α:Type} {f:α->D} {as:List α} {lo hi:Option Expr} {l u:Option Int} {p2:Pos} (ha:Ac X ρ O a da) (hx:LV O da (as.map f)) (hl:GF X ρ O lo l) (hh:GF X ρ O hi u):Ac X ρ O (.Subscript a (.Slice lo hi none p2) pos) (.lst ((Cc as l u).map f)):=by
 rw [<- TF]
 exact Z9 ha hx hl hh
theorem FA {α β:Type} {f:α->D} {g:β->D} {as:List α} {bs:List β} (ha:Ac X ρ O a da) (hb:Ac X ρ O b db) (fa:LF da (as.map f)) (fb:LF db (bs.map g)) (hm:X.mg "zip" = none) (hg:Gl X "zip" := by rfl) (hs:starEach [a,b] X.env=[(false,eval a X.env),(false,eval b X.env)]:=by rfl) (hs2:starEach [b] X.env=[(false,eval b X.env)]:=by rfl) :
  GE X ρ O (.Call (.Name "zip" p) [a,b] [] pos) ((as.zip bs).map λq=>.tup [f q.1,g q.2]) "zip" := by
 rw [<- NA]
 exact Z5 ha hb fa fb hm hg hs hs2
end
theorem Q1U {α:Type} {f:α->D} {a:List α} {i:Int} {v:α} (h0:0<=i) (h:a[i.toNat]?=some v):Be (a.map f) i=some (f v):=by
 obtain ⟨k,rfl⟩:=Int.eq_ofNat_of_zero_le h0
 rw [Int.toNat_natCast] at h
 exact DZ (by rw [List.getElem?_map,h]; rfl)
def sm {α:Type} (g:α->Int):List α->Int
 | []=>0
 | a::l=>g a+sm g l
section
variable {α β:Type} {g h:α->Int} {l m:List α}
theorem Kq:sm g (l++m)=sm g l+sm g m:=by
 induction l with
 | nil=>exact (Int.zero_add _).symm
 | cons a l ih=>show g a+sm g (l++m)=(g a+sm g l)+sm g m; rw [ih]; omega
theorem Ko (p:l.Perm m):sm g l=sm g m:=by
 induction p with
 | nil=>rfl
 | cons a _ ih=>unfold sm; rw [ih]
 | swap a b l=>unfold sm; unfold sm; omega
 | trans _ _ h1 h2=>rw [h1,h2]
theorem Tz {i:Nat} {a:α} (e:l[i]?=some a):sm g (l.take (i+1))=sm g (l.take i)+g a:=by
 rw [List.take_add_one,e,Kq]
 show _+(g a+0)=_
 omega
theorem DR (g:α->Int) (l:List α):(l.map g).sum=sm g l:=by
 induction l with
 | nil=>rfl
 | cons a l ih=>rw [List.map_cons,List.sum_cons,ih]; rfl
theorem Tk (l:List Int):l.sum=sm (λi=>i) l:=by rw [<- DR,List.map_id']
theorem GS (q:∀ a∈l,g a<=h a):sm g l<=sm h l:=by
 induction l with
 | nil=>exact Int.le_refl _
 | cons a l ih=>
  have h1:=q a List.mem_cons_self
  have h2:=ih λb hb=>q b (List.mem_cons_of_mem _ hb)
  unfold sm
  omega
theorem ES (q:∀ a∈l,g a=h a):sm g l=sm h l:=by
 induction l with
 | nil=>rfl
 | cons a l ih=>
  have h1:=q a List.mem_cons_self
  have h2:=ih λb hb=>q b (List.mem_cons_of_mem _ hb)
  unfold sm
  omega
theorem F7:sm (λa=>g a+h a) l=sm g l+sm h l:=by
 induction l with
 | nil=>rfl
 | cons a l ih=>unfold sm; rw [ih]; omega
theorem O8:sm (λ_:α=>(0:Int)) l=0:=by
 induction l with
 | nil=>rfl
 | cons a l ih=>unfold sm; rw [ih]; rfl
theorem ER (q:∀ a∈l,0<=g a):0<=sm g l:=by
 have:=GS (g:=λ_=>0) (h:=g) q
 rw [O8] at this
 exact this
theorem TD {B:Int} (q:∀ a∈l,g a<=B):sm g l<=l.length*B:=by
 induction l with
 | nil=>show (0:Int)<=((0:Nat):Int)*B; simp
 | cons a l ih=>
  have h1:=q a List.mem_cons_self
  have h2:=ih λb hb=>q b (List.mem_cons_of_mem _ hb)
  unfold sm
  rw [List.length_cons,Int.natCast_add,Int.add_mul]
  show _<=_+(1:Int)*B
  omega
theorem sm_bd' {B:Int} {n:Nat} (hB:0<=B) (hn:l.length<=n) (q:∀ a∈l,g a<=B):sm g l<=n*B:=by
 have h1:=TD q
 have h2:(l.length:Int)*B<=(n:Int)*B:=Int.mul_le_mul_of_nonneg_right wF hB
 omega
theorem O7 {a:List β} {b:List Int} (e:a.length=b.length):sm (λq:β×Int=>q.2) (a.zip b)=b.sum:=by
 induction a generalizing b with
 | nil=>cases b with | nil=>rfl | cons _ _=>cases e
 | cons x a ih=>
  cases b with
  | nil=>cases e
  | cons y b=>
   rw [List.zip_cons_cons,List.sum_cons]
   unfold sm
   rw [ih (by simpa using e)]
end
theorem RC {b:Int} {n:Nat} (h0:0<=b) (h1:b<2 ^ n):PySem.Builtin.Int.intBits b<=n:=by
 unfold PySem.Builtin.Int.intBits
 split
 ·exact Nat.zero_le _
 ·rename_i hz
  have hn:b.natAbs<2 ^ n:=by
   have e:((2 ^ n:Nat):Int)=2 ^ n:=by rw [Int.natCast_pow]; rfl
   omega
  have hp:b.natAbs≠0:=by
   intro z; apply hz; rw [Int.natAbs_eq_zero.mp z]; rfl
  have:=(Nat.log2_lt hp).mpr hn
  omega
theorem D8 {a b:Int} {m n:Nat} (a0:0<=a) (a1:a<2 ^ m) (b0:0<=b) (b1:b<2 ^ n) (h:m+n<=134217728:=by decide):IntMulOk a b:=IntMulOk.of_le (RC a0 a1) (RC b0 b1) h
section
variable {prog:Program} {w:World} {A:Around} {E:Value->Shared->Prop} {s:Shared}
end
section
variable {X:Cx} {ρ:Aj} {O:Af} {e a b c st:Expr} {es:List Expr} {d da db:D} {ds xs:List D} {R:D->Af->Prop} {pos p p2:Pos} {x:Str} {rest:List Stmt} {P:Bf}
theorem U9 {K:PySem.W.Frag} {G:Wd} {vs:List V} (r:Am K G xs vs) (k:Nat):Am K G (List.replicate k xs).flatten (List.replicate k vs).flatten:=by
 induction k with
 | zero=>exact .nil
 | succ k ih=>rw [List.replicate_succ,List.replicate_succ,List.flatten_cons,List.flatten_cons]; exact r.append ih
theorem L9 {d:D} (n:Nat):(List.replicate n [d]).flatten=List.replicate n d:=by
 induction n with
 | zero=>rfl
 | succ n ih=>rw [List.replicate_succ,List.flatten_cons,ih]; rfl
end
theorem Q2 {α:Type} (p:α->Bool) (g:α->D) (l:List α):l.filterMap (λq=>if p q=true then some (g q) else none)=(l.filter p).map g:=by
 induction l with
 | nil=>rfl
 | cons a l ih=>
  rw [List.filterMap_cons,List.filter_cons]
  cases h:p a with
  | true=>simp [ih]
  | false=>simp [ih]
theorem TC {α:Type} {p:α->Bool} {g:α->Int} {l:List α} (h:∀ a∈l,p a=false->g a=0):sm g (l.filter p)=sm g l:=by
 induction l with
 | nil=>rfl
 | cons a l ih=>
  have ih:=ih λb hb=>h b (List.mem_cons_of_mem _ hb)
  rw [List.filter_cons]
  cases e:p a with
  | true=>rw [if_pos rfl]; show g a+_=g a+_; rw [ih]
  | false=>
   rw [if_neg Bool.false_ne_true,ih]
   show _=g a+_
   rw [h a List.mem_cons_self e,Int.zero_add]
theorem Ir {α:Type} {g:α->Int} {l:List α} (c:Int):sm (λa=>c*g a) l=c*sm g l:=by
 induction l with
 | nil=>show (0:Int)=c*0; rw [Int.mul_zero]
 | cons a l ih=>show c*g a+_=c*(g a+_); rw [ih,Int.mul_add]
theorem TB {α β:Type} {g:β->Int} {f:α->β} {l:List α}:sm g (l.map f)=sm (λa=>g (f a)) l:=by
 induction l with
 | nil=>rfl
 | cons a l ih=>show g (f a)+_=g (f a)+_; rw [ih]
section
variable {prog:Program} {w:World} {A:Around} {E:Value->Shared->Prop} {s:Shared}
theorem Yf:fillsNumberSlot (.type "tuple") "mul" = pure false:=
 PySem.fillsNumberSlot_seq (id := "tuple.__mul__") (r:=some (.builtin "tuple.__rmul__")) F.slot_tuple_mul.lookup wD F.slot_tuple_rmul.lookup wD
theorem Va:seqRepeat? (.type "tuple")=pure (some (.builtin "tuple.__mul__")):=by
 unfold seqRepeat?
 rw [PySem.seqSlot_of (T := "tuple") (name := "__mul__") F.slot_tuple_mul.lookup wD,PySem.seqSlot_of (T := "tuple") (name := "__rmul__") F.slot_tuple_rmul.lookup wD]
 rfl
theorem U8 {a:Int} {t:Tok} {l:Addr} {its:List Value} {Q:Value->Shared->Prop} (ht:IsTup s.heap l its.toArray) (h:Q .notImplemented s):wpAny (model prog w) A (call (.builtin "int.__rmul__") [.int a t,.ref l]) Q E s:=by
 refine wpAny_call_entry F.slot_int_rmul (typeIs_int s a t) F.entry_int_rmul ?_ (F.args_int_rmul_2 _ _)
 obtain ⟨o,ho,hc,n,hd⟩:=ht
 show wpAny (model prog w) _ (asInt? (.ref l) >>= _) _ _ s
 refine wpAny_bind ?_
 unfold asInt?
 refine wpAny_bind (wpAny_load ho ?_)
 rw [hd]
 refine wpAny_pure ?_
 exact wpAny_bind (wpAny_rule (wpAny_pure ⟨_,rfl,h⟩))
theorem Yv {k:Int} {t:Tok} {l:Addr} {its:List Value} {Q:Value->Shared->Prop} (ht:IsTup s.heap l its.toArray) (h1:1<=k) (h2:k<2 ^ 62) (hn:its≠[]) (hz:its.length*k.toNat<=sizeLine)
  (hq1:k=1->Q (.ref l) s) (hq2:k≠1->Q (.ref s.heap.objs.size) { s with heap:=s.heap.push { cls:=.type "tuple",data:=.seq (List.replicate k.toNat its).flatten.toArray } }):wpAny (model prog w) A (call (.builtin "tuple.__mul__") [.ref l,.int k t]) Q E s:=by
 refine wpAny_call_entry F.slot_tuple_mul ht.typeIs F.entry_tuple_mul ?_ (F.args_tuple_mul_2 _ _)
 show wpAny (model prog w) _ (asIndex (.int k t) >>= _) _ _ s
 refine wpAny_bind ?_
 show wpAny (model prog w) _ (pure k) _ _ s
 refine wpAny_pure ?_
 rw [if_neg (by rw [Bool.or_eq_true,decide_eq_true_eq,decide_eq_true_eq]; omega)]
 refine wpAny_bind (tupleItemsOf_ ht ?_)
 have he:its.toArray.isEmpty=false:=by cases its with | nil=>exact absurd rfl hn | cons a l=>rfl
 by_cases hk:k=1
 ·rw [if_pos (by rw [hk,Bool.or_eq_true]; exact Or.inr rfl)]
  unfold Builtin.Tuple.tupleIsExact
  refine wpAny_bind (wpAny_bind (wpAny_typeOf ht.typeIs (wpAny_pure ?_)))
  rw [if_pos wE]
  exact wpAny_bind (wpAny_rule (wpAny_pure ⟨_,rfl,hq1 hk⟩))
 ·have hk2:(k==1)=false:=by simpa using hk
  rw [if_neg (by rw [he,hk2]; exact Bool.false_ne_true)]
  rw [if_neg (by rw [he,Bool.or_false,decide_eq_true_eq]; omega)]
  have hs:((its.toArray.size:Nat):Int)*k<=(sizeLine:Nat):=by
   rw [List.size_toArray]
   have e:k=((k.toNat:Nat):Int):=by omega
   rw [e]
   exact_mod_cast hz
  have hl:=sizeLine_eq
  rw [hl] at hs
  rw [if_neg wF]
  have ht2:Builtin.Tuple.tupleTooMany (((its.toArray.size:Nat):Int)*k)=false:=by
   unfold Builtin.Tuple.tupleTooMany
   rw [hl]
   exact decide_eq_false wF
  rw [if_neg (by rw [ht2]; exact Bool.false_ne_true)]
  have e:List.foldl (λx1 x2=>x1++x2) #[] (List.replicate k.toNat its.toArray)=(List.replicate k.toNat its).flatten.toArray:=by
   have:=QY its k.toNat []
   rw [List.nil_append] at this
   exact this
  rw [e]
  exact wpAny_bind (m:=Builtin.Tuple.tupleExact _) (wpAny_newObj_type (wpAny_pure ⟨_,rfl,hq2 hk⟩) (by
   show (List.replicate k.toNat its).flatten.toArray.size<=sizeLine
   rw [List.size_toArray,QA,Nat.mul_comm]
   exact hz))
end
section
variable {X:Cx} {O:Af} {xs:List D}
theorem Ft {i:Int} (h1:1<=i) (h2:i<2 ^ 62) (hn:xs≠[]) (hz:xs.length*i.toNat<=sizeLine):Bg X O (binaryOp .Mult) (.tup xs) (.int i) (.tup (List.replicate i.toNat xs).flatten):=λG pins s σ H x y v u Q I rx ry ⟨sa,j1,j2,k⟩=>by
 cases j2
 have j:=j1
 obtain ⟨q,vs,rfl,g,r⟩:=FZ sa j1
 cases rx
 obtain ⟨t,rfl⟩:=ry
 obtain ⟨its,rr,ht,hzz⟩:=I.tuple g
 have hlen:=rr.length
 have hn2:its≠[]:=by
  rintro rfl
  have:=r.length
  rw [hlen] at this
  exact hn (List.eq_nil_of_length_eq_zero this)
 refine wpAny_binaryOp_repeat_ref (T := "tuple") (U := "int") wE ht.typeIs (λs'=>typeIs_int s' i t) Yf F.fills_int_mul F.slot_int_rmul Va F.slot_int_index.lookup
  (U8 ht ⟨rfl,ht.typeIs,Yv ht h1 h2 hn2 (by rw [<- hlen,<- r.length]; exact hz) (λe=>?_) (λe=>?_)⟩)
 ·subst e
  refine ⟨.ref q,H,I,rfl,k _ G H (Ag.refl _) sa ?_⟩
  have:(List.replicate (1:Int).toNat xs).flatten=xs:=by show (xs++[])=xs; rw [List.append_nil]
  rw [this]
  exact j
 ·obtain ⟨e4,s4⟩:=sa.laid (o:=.tup (List.replicate i.toNat vs).flatten) (p:=s.heap.objs.size) (I.hok.fresh (Nat.le_refl _))
  refine ⟨.ref _,_,I.laid (t':=s.toks) (o:=.tup (List.replicate i.toNat vs).flatten) (λb ob q=>Heap.get?_push_of_some _ q) (Nat.le_refl _) ?_,rfl,k _ _ _ e4 s4 (.tup (Bv.of BF) ((U9 r _).ext e4))⟩
  exact ⟨by rw [QA,Nat.mul_comm,<- r.length]; exact hz,_,rr.rep i.toNat,EM.new _ _⟩
end
def A6 (f:Str) (d:D):List (Str×D)->List (Str×D)
 | []=>[(f,d)]
 | (g,x)::r=>if g=f then (g,d)::r else (g,x)::A6 f d r
section
variable {K:PySem.W.Frag} {G:Wd}
theorem BE.look {f:Str} {d:D}:∀ {fs:List (Str×D)} {vs:List (Str×V)},BE K G fs vs->fs.lookup f=some d->∃ v,vs.lookup f=some v/\Is K G d v
 | _,_,.nil,e=>by cases e
 | _,_,.cons (f:=g) h r,e=>by
  rw [List.lookup_cons] at e
  cases hc:f==g with
  | true=>
   rw [hc] at e
   cases e
   exact ⟨_,by rw [List.lookup_cons,hc],h⟩
  | false=>
   rw [hc] at e
   obtain ⟨v,e1,e2⟩:=BE.look r e
   exact ⟨v,by rw [List.lookup_cons,hc]; exact e1,e2⟩
theorem BE.none {f:Str}:∀ {fs:List (Str×D)} {vs:List (Str×V)},BE K G fs vs->fs.lookup f=Option.none->vs.lookup f=Option.none
 | _,_,.nil,e=>rfl
 | _,_,.cons (f:=g) h r,e=>by
  rw [List.lookup_cons] at e
  cases hc:f==g with
  | true=>rw [hc] at e; cases e
  | false=>
   rw [hc] at e
   rw [List.lookup_cons,hc]
   exact BE.none r e
theorem BE.put {f:Str} {d:D} {v:V} (i:Is K G d v):∀ {fs:List (Str×D)} {vs:List (Str×V)},BE K G fs vs->BE K G (A6 f d fs) (CI f v vs)
 | _,_,.nil=>.cons i .nil
 | _,_,.cons (f:=g) h r=>by
  unfold A6 CI
  by_cases e:g=f
  ·rw [if_pos e,if_pos e]; exact .cons i r
  ·rw [if_neg e,if_neg e]; exact .cons h (BE.put i r)
theorem BE.len:∀ {fs:List (Str×D)} {vs:List (Str×V)},BE K G fs vs->fs.length=vs.length
 | _,_,.nil=>rfl
 | _,_,.cons _ r=>by rw [List.length_cons,List.length_cons,r.len]
end
theorem SA.ins {K:PySem.W.Frag} {G:Wd} {H:Hp} {O:Af} {q:Nat} {C:Addr} {fs:List (Str×D)} {v:V} (s:SA K G H O) (i:Is K G (.ptr q) v) (h:O[q]?=some (some (.ins C fs))):∃ a dx vs,v=.ref a/\G.l[q]?=some a/\H a=some (.ins C dx vs)/\BE K G fs vs:=by
 cases i with
 | ptr _ ha=>
  obtain ⟨a,h1,h2,dx,vs,h3,h4⟩:=s.mt q _ h
  cases Option.some.inj (ha.symm.trans h1)
  exact ⟨_,dx,vs,rfl,h1,h3,h4⟩
section
variable {X:Cx} {ρ:Aj} {O:Af} {e a b c o value:Expr} {es:List Expr} {d da db:D} {ds:List D} {R:D->Af->Prop} {pos p apos pos':Pos} {x f m:Str} {rest:List Stmt} {P:Bf} {q:Nat} {C:Addr} {fs:List (Str×D)}
theorem Aq (he:Ac X ρ O e (.ptr q)) (hq:O[q]?=some (some (.ins C fs))) (c:A5 X.K C) (n:Ap X.K C f) (hl:fs.lookup f=some d) (hb:attributeBase e f X.env (eval e X.env)=eval e X.env:=by rfl):Ac X ρ O (.Attribute e f pos) d:=λG=>
 PE.imp (V5 (he G) hb) λσ H Q ⟨h1,h2,h3⟩=>⟨h1,h2,λv G1 H1 e1 s1 i1=>by
  obtain ⟨a,dx,vs,rfl,g1,g2,g3⟩:=s1.ins i1 hq
  obtain ⟨v,l,iv⟩:=g3.look hl
  exact ⟨a,C,dx,vs,v,rfl,g2,c,n,l,h3 v G1 H1 e1 s1 iv⟩⟩
theorem Bw (hv:Ac X ρ O value d) (ho:Ac X ρ O o (.ptr q)) (hq:O[q]?=some (some (.ins C fs))) (c:A5 X.K C) (n:Ap X.K C f) (hz:fs.length<1000) (h:P.nx ρ (O.set q (some (.ins C (A6 f d fs))))) (hs:swapsWith value (some (.Attribute o f pos')) pos.line X.env=pure false:=by rfl) :
  Ex X ρ O (.Assign [.Attribute o f pos'] value pos) P:=λG pins s σ H E I ⟨h1,h2,h3⟩=>by
 refine plainObj_wpAny_Assign_Attribute (Az (hv G pins s σ H (λv H1=>∃ G1,Ag G G1/\SA X.K G1 H1 O/\Is X.K G1 d v) I ⟨h1,h2,λv G' H' e s i=>⟨G',e,s,i⟩⟩) λu s1 ⟨y,H1,I1,ry,G1,e1,sa1,i1⟩=>
  Az (ho G1 pins s1 σ H1 (λv H2=>∃ G2,Ag G1 G2/\SA X.K G2 H2 O/\Is X.K G2 (.ptr q) v) I1 ⟨sa1,h2.ext e1,λv G' H' e s i=>⟨G',e,s,i⟩⟩) λov s2 ⟨x,H2,I2,rx,G2,e2,sa2,i2⟩=>?_) hs
 obtain ⟨a,dx,vs,rfl,g1,g2,g3⟩:=sa2.ins i2 hq
 obtain rfl:ov=Value.ref a:=rx
 refine Pa I2 g2 c n (by rw [<- g3.len]; exact hz) ry λs3 I3=>⟨σ,_,I3,?_⟩
 exact h3.nx σ ρ _ G2 _ (e1.trans e2) (sa2.put (m':=.ins C (A6 f d fs)) hq g1 ⟨dx,_,BF,g3.put (i1.ext e2)⟩) (h2.ext (e1.trans e2)) h
structure Al (P:Program) (w:World) (K:PySem.W.Frag) (mg:Str->Option Value) (base:Heap) (C:Addr) (k:Nat) (m:Str) (sp:AH):Prop where
 ex:∃ f fd ps,AM P w K mg base AQ k f fd ps (AN K sp)/\JE K C m f/\Binds K fd ps []
 cls:A5 K C
theorem CN {k:Nat} {sp:AH} {pl:Sem Bool} (M:Al X.prog X.w X.K X.mg X.base C k m sp) (hr:AL k X.A) (ho:Ac X ρ O o (.ptr q)) (hq:O[q]?=some (some (.ins C fs))) (hno:fs.lookup m=none) (ha:BK X ρ O (e::es) ds) (hs:sp (.ptr q::ds) O R)
  (hst:starEach (e::es) X.env=(false,eval e X.env)::starEach es X.env:=by rfl) (hpl:(backTo pos (starEach es X.env)).any (·.1)=false:=by rfl)
  (ht:eval (.Call (.Attribute o m apos) (e::es) [] pos) X.env=(do
   let ov <- eval o X.env
   standAt apos.atName
   let (f,first) <- holding [ov] (getMethod ov m pl)
   callWith pos f first (backTo pos (starEach (e::es) X.env)) (backToKw pos (keywordEach [] X.env))):=by rfl):Ev X ρ O (.Call (.Attribute o m apos) (e::es) [] pos) R:=λG pins s σ H Q I ⟨h1,h2,h3⟩=>by
 obtain ⟨f,fd,ps,g1,g2,g3⟩:=M.ex
 refine V2 (t:=λσ H Q=>∃ G1,SA X.K G1 H O/\AF X.K G1 σ ρ/\∀ vs G' H',Ag G1 G'->SA X.K G' H' O->Am X.K G' ds vs->Q vs H') (ho G) M.cls g2 g1 hr g3 .nil Gf (λpos pins s σ H Q I ⟨G1,z⟩=>ha G1 pos pins s σ H Q I z) hst hpl ht pins s σ H Q I ⟨h1,h2,λv G1 H1 e1 s1 i1=>?_⟩
 obtain ⟨a,dx,vs,rfl,k1,k2,k3⟩:=s1.ins i1 hq
 refine ⟨a,dx,vs,rfl,k2,k3.none hno,G1,s1,h2.ext e1,λus G2 H2 e2 s2 i2=>?_⟩
 show AN X.K sp (V.ref a::(us++[])) H2 Q E0
 rw [List.append_nil]
 exact ⟨G2,O,.ptr q::ds,R,s2,.cons (i1.ext e2) i2,hs,λv d O' G' H' e3 s3 i3 r3=>h3 v d O' G' H' ((e1.trans e2).trans e3) s3 i3 r3⟩
theorem CZ {k:Nat} {sp:AH} {pl:Sem Bool} (M:Al X.prog X.w X.K X.mg X.base C k m sp) (hr:AL k X.A) (ho:Ac X ρ O o (.ptr q)) (hq:O[q]?=some (some (.ins C fs))) (hno:fs.lookup m=none) (hs:sp [.ptr q] O R)
  (ht:eval (.Call (.Attribute o m apos) [] [] pos) X.env=(do
   let ov <- eval o X.env
   standAt apos.atName
   let (f,first) <- holding [ov] (getMethod ov m pl)
   callWith pos f first (backTo pos (starEach [] X.env)) (backToKw pos (keywordEach [] X.env))):=by rfl):Ev X ρ O (.Call (.Attribute o m apos) [] [] pos) R:=λG pins s σ H Q I ⟨h1,h2,h3⟩=>by
 obtain ⟨f,fd,ps,g1,g2,g3⟩:=M.ex
 refine V1 (ho G) M.cls g2 g1 hr g3 .nil Gf ht pins s σ H Q I ⟨h1,h2,λv G1 H1 e1 s1 i1=>?_⟩
 obtain ⟨a,dx,vs,rfl,k1,k2,k3⟩:=s1.ins i1 hq
 refine ⟨a,dx,vs,rfl,k2,k3.none hno,?_⟩
 show AN X.K sp (V.ref a::[]) H1 Q E0
 exact ⟨G1,O,[.ptr q],R,s1,.cons i1 .nil,hs,λv d O' G' H' e3 s3 i3 r3=>h3 v d O' G' H' (e1.trans e3) s3 i3 r3⟩
structure Cv (P:Program) (w:World) (K:PySem.W.Frag) (mg:Str->Option Value) (base:Heap) (C:Addr) (k:Nat) (x:Str) (sp:AH):Prop where
 ex:∃ f fd ps,AM P w K mg base AQ k f fd ps (AN K sp)/\Mk K C f/\Binds K fd ps []
 at_:mg x=some (.ref C)
theorem made {K:PySem.W.Frag} {G:Wd} {H:Hp} {y dx:Addr} (s:SA K G H O) (h1:H y=none) (h2:H dx=none) (h3:dx≠y):Ag G ⟨G.g,G.l++[y]⟩/\SA K ⟨G.g,G.l++[y]⟩ (AI (AI H dx (.own y)) y (.ins C dx [])) (O++[some (.ins C [])]):=
 (s.grow (GZ h2)).new (by rw [A4]; exact h1; exact λe=>h3 e.symm) ⟨dx,[],BF,.nil⟩
theorem Dc {k:Nat} {sp:AH} (M:Cv X.prog X.w X.K X.mg X.base C k x sp) (hr:AL (k+1) X.A) (ha:BK X ρ O (e::es) ds) (hs:sp (.ptr O.length::ds) (O++[some (.ins C [])]) λd O'=>d=.non/\R (.ptr O.length) O')
  (hg:Gl X x:=by rfl) (hdb:(x==("__debug__" : Str))=false:=by decide) (he:starEach (e::es) X.env=(false,eval e X.env)::starEach es X.env:=by rfl) (hpl:(backTo pos (starEach es X.env)).any (·.1)=false:=by rfl) :
  Ev X ρ O (.Call (.Name x p) (e::es) [] pos) R:=λG pins s σ H Q I ⟨h1,h2,h3⟩=>by
 obtain ⟨f,fd,ps,g1,g2,g3⟩:=M.ex
 refine P9 g2 g1 hr hg M.at_ g3 .nil Gf (ha G) hdb he hpl pins s σ H Q I ⟨h1,h2,λvs G1 H1 e1 s1 i1=>λy dx k1 k2 k3=>?_⟩
 obtain ⟨e2,s2⟩:=made (C:=C) s1 k1 k2 k3
 have iy:Is X.K ⟨G1.g,G1.l++[y]⟩ (.ptr O.length) (.ref y):=.ptr _ (by rw [<- s1.len,List.getElem?_append_right (Nat.le_refl _),Nat.sub_self]; rfl)
 show AN X.K sp (V.ref y::(vs++[])) _ _ E0
 rw [List.append_nil]
 refine ⟨_,_,.ptr O.length::ds,_,s2,.cons iy (i1.ext e2),hs,λv d O' G' H' e3 s3 i3 r3=>?_⟩
 obtain ⟨rfl,r⟩:=r3
 cases i3
 exact ⟨rfl,h3 _ _ O' G' H' ((e1.trans e2).trans e3) s3 (iy.ext e3) r⟩
end
section
variable {X:Cx} {ρ:Aj} {O:Af} {e a b c o ix value:Expr} {es:List Expr} {d da db:D} {ds xs:List D} {R:D->Af->Prop} {pos p apos tpos:Pos} {x f m:Str} {rest:List Stmt} {P:Bf} {q j:Nat} {i:Int}
end
end DL
namespace DL
open PySem PySem.Spec PyProof.Rows L2 PySem.W
structure EW (n:Nat) (k:Bool) (l i:Nat) (j:Int) (xs:Array Value) (f0 f1 old:Value) (h:Heap):Prop where
 z:h.get? (n+1)=some { cls:=.type "enumerate",dict:=none,data:=.fields #[f0,f1,.ref n,.int j 0,.none,old],slots:=#[] }
 w:CT k h n l i
 s:BC k h l xs
 b:l<n
def BT (n:Nat) (h h':Heap):Prop:=∀ c o,c≠n->c≠n+1->h.get? c=some o->h'.get? c=some o
theorem BT.refl (n:Nat) (h:Heap):BT n h h:=λ_ _ _ _ e=>e
theorem BT.on {n:Nat} {h h1 h2:Heap} (p:BT n h h1) (q:BT n h1 h2):BT n h h2:=λc o c1 c2 e=>q c o c1 c2 (p c o c1 c2 e)
theorem BT.more {n:Nat} {h h':Heap} {o:Obj} (p:BT n h h'):BT n h (h'.push o):=p.on λc u _ _ q=>Heap.get?_push_of_some _ q
section
variable {prog:Program} {w:World} {A:Around} {E:Value->Shared->Prop} {s:Shared} {n l i:Nat} {j:Int} {k:Bool} {xs:Array Value} {f0 f1 old v:Value}
theorem EW.set {m:Nat} {vs:Array Value} {Q:Unit->Shared->Prop} (W:EW n k l i j xs f0 f1 old s.heap) (hm:m<6)
  (hQ:∀ h',h'.get? (n+1)=some { cls:=.type "enumerate",dict:=none,data:=.fields ((#[f0,f1,.ref n,.int j 0,.none,old]:Array Value).setIfInBounds m v),slots:=#[] }->CT k h' n l i->BC k h' l xs->BT n s.heap h'->h'.objs.size=s.heap.objs.size->Q () { s with heap:=h' }):wpAny (model prog w) A (setField (.ref (n+1)) m v) Q E s:=
 wpAny_setField_rec W.z hm λh' g e=>hQ h' g (W.w.at λo=>e.extBut _ _ (ap wF)) (W.s.at λo=>e.extBut _ _ (ap (by have:=W.b; omega))) (λc o _ c2 q=>e.extBut _ _ c2 q) e.1
theorem EW.set0 {Q:Unit->Shared->Prop} (W:EW n k l i j xs f0 f1 old s.heap) (hQ:∀ h',EW n k l i j xs v f1 old h'->BT n s.heap h'->h'.objs.size=s.heap.objs.size->Q () { s with heap:=h' }):wpAny (model prog w) A (setField (.ref (n+1)) 0 v) Q E s:=W.set (vs:=#[]) wE λh' a b c d e=>hQ h' ⟨a,b,c,W.b⟩ d e
theorem EW.set1 {Q:Unit->Shared->Prop} (W:EW n k l i j xs f0 f1 old s.heap) (hQ:∀ h',EW n k l i j xs f0 v old h'->BT n s.heap h'->h'.objs.size=s.heap.objs.size->Q () { s with heap:=h' }):wpAny (model prog w) A (setField (.ref (n+1)) 1 v) Q E s:=W.set (vs:=#[]) wE λh' a b c d e=>hQ h' ⟨a,b,c,W.b⟩ d e
theorem EW.set3 {j':Int} {Q:Unit->Shared->Prop} (W:EW n k l i j xs f0 f1 old s.heap) (hQ:∀ h',EW n k l i j' xs f0 f1 old h'->BT n s.heap h'->h'.objs.size=s.heap.objs.size->Q () { s with heap:=h' }):wpAny (model prog w) A (setField (.ref (n+1)) 3 (rawInt j')) Q E s:=W.set (vs:=#[]) wE λh' a b c d e=>hQ h' ⟨a,b,c,W.b⟩ d e
theorem EW.set4 {Q:Unit->Shared->Prop} (W:EW n k l i j xs f0 f1 old s.heap) (hQ:∀ h',EW n k l i j xs f0 f1 old h'->BT n s.heap h'->h'.objs.size=s.heap.objs.size->Q () { s with heap:=h' }):wpAny (model prog w) A (setField (.ref (n+1)) 4 .none) Q E s:=W.set (vs:=#[]) wE λh' a b c d e=>hQ h' ⟨a,b,c,W.b⟩ d e
theorem EW.set5 {Q:Unit->Shared->Prop} (W:EW n k l i j xs f0 f1 old s.heap) (hQ:∀ h',EW n k l i j xs f0 f1 v h'->BT n s.heap h'->h'.objs.size=s.heap.objs.size->Q () { s with heap:=h' }):wpAny (model prog w) A (setField (.ref (n+1)) 5 v) Q E s:=W.set (vs:=#[]) wE λh' a b c d e=>hQ h' ⟨a,b,c,W.b⟩ d e
theorem EW.inner {Q:Value->Shared->Prop} (W:EW n k l i j xs f0 f1 old s.heap) (h:Q (.ref n) s):wpAny (model prog w) A (field (.ref (n+1)) 2) Q E s:=wpAny_field W.z rfl (x:=.ref n) rfl h
theorem EW.draw {x:Value} {Q:Value->Shared->Prop} (W:EW n k l i j xs f0 f1 old s.heap) (hx:xs[i]?=some x) (hQ:∀ h',EW n k l (i+1) j xs f0 f1 old h'->BT n s.heap h'->h'.objs.size=s.heap.objs.size->Q x { s with heap:=h' }):wpAny (model prog w) A (Builtin.SmallTypes.nextOf (.ref n)) Q E s:=
 J3 W.w W.s hx λh' g e=>hQ h' ⟨e.extBut _ _ (ap wF) W.z,g,W.s.at λo=>e.extBut _ _ (ap (by have:=W.b; omega)),W.b⟩ (λc o c1 _ q=>e.extBut _ _ c1 q) e.1
theorem EW.free {Q:Bool->Shared->Prop} (W:EW n k l i j xs f0 f1 old s.heap) (hf:ZF f0) (y:Q true s) (z:∀ h' f,EW n k l i j xs f0 f old h'->BT n s.heap h'->h'.objs.size=s.heap.objs.size->Q false { s with heap:=h' }):wpAny (model prog w) A (Builtin.SmallTypes.ownedTupleIsFree (.ref (n+1))) Q E s:=by
 obtain ⟨h,g,d,tk,os⟩:=s
 have hz:=W.z
 dsimp only at hz
 rcases hf with rfl | ⟨c,rfl⟩
 ·wp_walk
  exact y
 ·wp_walk using RS
  cases h.get? (Int.toNat (c:Int)) with
  | none=>wp_walk; exact y
  | some o=>
   by_cases m:f1=.bool true
   ·subst m
    wp_walk
    exact z _ _ W (BT.refl _ _) rfl
   ·wp_walk using W.set1
    exact λh' V o1 o2=>wpAny_pure (z h' _ V o1 o2)
theorem EW.more {h:Heap} {o:Obj} (W:EW n k l i j xs f0 f1 old h):EW n k l i j xs f0 f1 old (h.push o):=
 have e:∀ c u,h.get? c=some u->(h.push o).get? c=some u:=λc u q=>Heap.get?_push_of_some _ q
 ⟨e _ _ W.z,W.w.at (e _),W.s.at (e _),W.b⟩
theorem Q0z {x:Value} {Q:Value->Shared->Prop} (W:EW n k l i j xs f0 f1 old s.heap) (hf:ZF f0) (hx:xs[i]?=some x)
  (hQ:∀ h' t f0' f1' old' tk',EW n k l (i+1) (j+1) xs f0' f1' old' h'->ZF f0'->IsPair h' s.heap.objs.size (.int j t) x->BT n s.heap h'->Q (.ref s.heap.objs.size) { s with heap:=h',toks:=tk' }) :
  wpAny (model prog w) A (Builtin.«enumerate.__next__» ⟨[.ref (n+1)],[]⟩) (λfin s'=>∃ v,fin=.done (.ret v)/\Q v s') E s:=by
 obtain ⟨h,g,d,tk,os⟩:=s
 dsimp only at W hQ
 have z:=W.z
 have lt:n+1<h.objs.size:=Heap.lt_size z
 wp_walk using W.inner,W.draw hx
 intro h1 W1 o1 z1
 have t1:=W1.z
 wp_walk using EW.set3 (s:=⟨h1,g,d,tk+1,os⟩) W1
 intro h2 W2 o2 z2
 wp_walk using EW.set4 (s:=⟨h2,g,d,tk+1,os⟩) W2
 intro h3 W3 o3 z3
 have zl:h3.objs.size=h.objs.size:=z3.trans (z2.trans z1)
 have ol:BT n h h3:=o1.on (o2.on o3)
 have W4:EW n k l (i+1) (j+1) xs f0 f1 old (h3.push { cls:=.type "tuple",data:=.seq #[.int j tk,x] }):=W3.more
 have t4:=W4.z
 have pr:IsPair (h3.push { cls:=.type "tuple",data:=.seq #[.int j tk,x] }) h3.objs.size (.int j tk) x:=Heap.get?_push_size _ rfl
 have BM:∀ m,m<=1->h3.objs.size≠n+m:=λm hm=>by omega
 have far0:h3.objs.size≠n:=BM 0 wE
 have far1:h3.objs.size≠n+1:=BM 1 wE
 rw [<- zl] at hQ
 wp_walk using EW.free (s:=⟨h3.push _,g,d,tk+1,os⟩) W4 hf,EW.set5 (s:=⟨h3.push _,g,d,tk+1,os⟩) W4
 ·intro h5 W5 o5 z5
  wp_walk using EW.set0 (s:=⟨h5,g,d,tk+1,os⟩) W5
  intro h6 W6 o6 z6
  wp_walk using EW.set1 (s:=⟨h6,g,d,tk+1,os⟩) W6
  intro h7 W7 o7 z7
  wp_walk
  exact ⟨_,rfl,hQ h7 tk _ _ _ _ W7 (.inr ⟨_,rfl⟩) (o7 _ _ far0 far1 (o6 _ _ far0 far1 (o5 _ _ far0 far1 pr))) (ol.more.on (o5.on (o6.on o7)))⟩
 ·intro h5 f W5 o5 z5
  wp_walk
  exact ⟨_,rfl,hQ h5 tk _ _ _ _ W5 hf (o5 _ _ far0 far1 pr) (ol.more.on o5)⟩
theorem Q0A {Q:PySem.Fin->Shared->Prop} (hh:A.handled=none) (W:EW n k l i j xs f0 f1 old s.heap) (he:xs[i]?=none) (hE:∀ h' e,BT n s.heap h'->(∃ o,h'.get? e=some o/\o.cls=.type "StopIteration")->E (.ref e) { s with heap:=h' }) :
  wpAny (model prog w) A (Builtin.«enumerate.__next__» ⟨[.ref (n+1)],[]⟩) Q E s:=by
 obtain ⟨h,g,d,tk,os⟩:=s
 dsimp only at W hE
 wp_walk using W.inner,J4 hh W.w W.s he
 exact λh' e x y=>hE h' e (λc o c1 _ q=>x c o c1 q) y
def FC (k:Bool) (n l i:Nat) (h:Heap):Prop:=∃ f0 f1 old,ZF f0/\h.get? (n+1)=some { cls:=.type "enumerate",dict:=none,data:=.fields #[f0,f1,.ref n,.int i 0,.none,old],slots:=#[] }/\CT k h n l i
theorem EW.tn {h:Heap} (W:EW n k l i i xs f0 f1 old h) (hf:ZF f0):FC k n l i h:=⟨f0,f1,old,hf,W.z,W.w⟩
theorem ZL {tg:Expr} {u:Value} {Q:Unit->Shared->Prop} (W:EW n k l i j xs f0 f1 old s.heap) (hf:ZF f0) (hQ:∀ h' f,EW n k l i j xs f f1 old h'->ZF f->BT n s.heap h'->Q () { s with heap:=h' }):wpAny (model prog w) A (letOwnedTupleGo tg (.ref (n+1)) u) Q E s:=by
 have same:Q () s:=hQ s.heap _ W hf (BT.refl _ _)
 obtain ⟨h,g,d,tk,os⟩:=s
 have z:=W.z
 dsimp only at z
 unfold letOwnedTupleGo
 cases tg <;> try exact wpAny_pure same
 all_goals cases u <;> try exact wpAny_pure same
 all_goals
  wp_walk
  split
  ·exact wpAny_bind (wpAny_rule (W.set0 (s:=⟨h,g,d,tk,os⟩) (v:=.none) λh' V o z=>hQ h' _ V (.inl rfl) o))
  ·exact wpAny_pure same
theorem SQ {M:Model} {c:Value} {Q:Bool->Shared->Prop} (h:∀ b,Q b s):wpAny M A (Builtin.SmallTypes.calledThroughType c) Q E s:=wpAny_bind (wpAny_stack_any λ_=>wpAny_pure (h _))
end
theorem Q0y (k:Bool) (l:Addr) (xs:Array Value) :
  Meets (Builtin.«enumerate.__new__» ⟨[.type "enumerate",.ref l],[]⟩) (λ_ R s=>BC k s.heap l xs /\
   ∀ h',EW s.heap.objs.size k l 0 0 xs .none (.bool false) .none h'->(∀ c o,s.heap.get? c=some o->h'.get? c=some o)->R (.ok (.ret (.ref (s.heap.objs.size+1)))) { s with heap:=h' }):=
 .of_wp λprog w A R s q=>by
  obtain ⟨h,g,d,tk,os⟩:=s
  obtain ⟨t,q⟩:=q
  have hsub:=sub_enumerate
  have lt:l<h.objs.size:=by
   cases k with
   | true=>obtain ⟨o,g,_⟩:=(t:h.IsList l xs); exact Heap.lt_size g
   | false=>obtain ⟨o,g,_⟩:=(t:h.IsTuple l xs); exact Heap.lt_size g
  wp_walk using SQ
  intro b
  have fin:∀ a,a.isFreed=false->(∀ (h:Heap) c,h.get? c=some a->CT k h c l 0)->R (.ok (.ret (.ref (h.push a).objs.size))) ⟨(h.push a).push { cls:=.type "enumerate",data:=.fields #[.none,.bool false,.ref h.objs.size,.int 0 0,.none,.none] },g,d,tk,os⟩:=λa fa ia=>by
   have up:∀ c u,h.get? c=some u->((h.push a).push { cls:=.type "enumerate",data:=.fields #[.none,.bool false,.ref h.objs.size,.int 0 0,.none,.none] }).get? c=some u:=λc u e=>Heap.get?_push_of_some _ (Heap.get?_push_of_some _ e)
   rw [Heap.size_push]
   refine q _ ⟨?_,ia _ _ (Heap.get?_push_of_some _ (Heap.get?_push_size _ fa)),t.at (up _),lt⟩ up
   rw [<- Heap.size_push h a]
   exact Heap.get?_push_size _ rfl
  cases b
  all_goals
   wp_walk using Mw t
   intro a fa ia
   wp_walk
   exact ⟨_,rfl,fin a fa ia⟩
theorem Q1y {prog:Program} {w:World} {A:Around} {E:Value->Shared->Prop} {s:Shared} {k:Bool} {l:Addr} {xs:Array Value} {Q:Value->Shared->Prop} (t:BC k s.heap l xs)
  (hQ:∀ h',FC k s.heap.objs.size l 0 h'->(∀ c o,s.heap.get? c=some o->h'.get? c=some o)->Q (.ref (s.heap.objs.size+1)) { s with heap:=h' }):wpAny (model prog w) A (call (.type "enumerate") [.ref l]) Q E s:=
 callType_new F.called_enumerate wE (F.typeCall_enumerate_1 _) (F.newCall_enumerate_1 _) (λobj=>F.args_object_init_2 obj _) F.entry_enumerate_new (Q0y k l xs) ⟨t,λh' W up=>⟨⟨_,W.z,rfl⟩,hQ h' (W.tn (.inl rfl)) up⟩⟩
def Nt (k:Bool) (K:PySem.W.Frag) (l:Addr):It:=
  ⟨λi H=>∃ as a,Sq k K H l as/\as[i]?=some a,
   λi H x H'=>∃ T a,H T=none/\H'=AI H T (.tup [.int (i:Nat),a])/\x=.ref T/\∀ as,Sq k K H l as->as[i]?=some a,
   λi H=>∃ as,Sq k K H l as/\as.length<=i⟩
def DW (n:Nat):List Addr:=[n,n+1]
theorem Q0p {k:Bool} {n l i:Nat} {h h':Heap} (st:FC k n l i h) (q:∀ b∈DW n,∀ o,h.get? b=some o->h'.get? b=some o):FC k n l i h':=by
 obtain ⟨f0,f1,old,hf,z,w⟩:=st
 exact ⟨f0,f1,old,hf,q _ (by simp [DW]) _ z,w.at (q _ (by simp [DW]))⟩
theorem Rc {k:Bool} {n l i:Nat} {h:Heap} (st:FC k n l i h):∀ b∈DW n,∃ o,h.get? b=some o/\∀ v,o.data≠.cell v:=by
 obtain ⟨f0,f1,old,hf,z,w⟩:=st
 intro b hb
 rcases List.mem_cons.mp hb with rfl | hb
 ·exact w.obj
 ·cases List.mem_singleton.mp hb
  exact ⟨_,z,λv e=>by cases e⟩
theorem BT.fp {n:Nat} {h h':Heap} (p:BT n h h'):∀ c o,c∉DW n->h.get? c=some o->h'.get? c=some o:=λc o hc=>p c o (λe=>hc (by simp [DW,e])) (λe=>hc (by simp [DW,e]))
theorem SJ {P:Program} {w:World} {K:PySem.W.Frag} {tg:Expr} (k:Bool) (n l:Nat) (hl:l<n):EL P w K tg (Nt k K l) (DW n) (n+1) (FC k n l) where
 mem:=by simp [DW]
 obj:=λi h st=>Rc st
 keep:=λi h h' st q=>Q0p st q
 item:=by
  intro X hP hw hK hc i pins s σ H E I hf st hg
  subst hP hw hK
  obtain ⟨as,a,q1,ga⟩:=hg
  obtain ⟨ia,va,sa,_⟩:=DN I q1
  obtain ⟨ua,hua,rua⟩:=va.get ga
  have hTn:s.heap.objs.size∉DW n:=λm=>let ⟨o,e,_⟩:=Rc st _ m; Nat.lt_irrefl _ (Heap.lt_size e)
  obtain ⟨f0,f1,old,zf,z,w1⟩:=st
  refine IJ ⟨_,z,rfl⟩ F.slot_enumerate_next F.entry_enumerate_next (F.args_enumerate_next_1 _) (Q0z (x:=ua) ⟨z,w1,sa,hl⟩ zf (by simpa using hua) λh1 t f0' f1' old' tk' W1 zf1 pr o1=>⟨_,rfl,ZL (s:={ s with heap:=h1,toks:=tk' }) W1 zf1 λh2 f W2 zf2 o2=>?_⟩)
  have Iz:L2.Inv X pins σ H { s with heap:=h2,toks:=tk' }:=FO I hf (o1.on o2).fp
  have fr:H s.heap.objs.size=none:=I.hok.fresh (Nat.le_refl _)
  refine ⟨.ref s.heap.objs.size,AI H s.heap.objs.size (.tup [.int (i:Nat),a]),?_,rfl,⟨_,a,fr,rfl,rfl,λcs q=>?_⟩,?_,λc hb=>?_⟩
  ·refine R1 Iz (I.fpOk (Nat.le_refl _) fr) I.sz ⟨show 2<=sizeLine by decide,[.int i t,ua],.cons ⟨t,rfl⟩ (.cons rua .nil),?_⟩
   exact ⟨_,o2.fp _ _ hTn pr,rfl,rfl,_,rfl⟩
  ·rw [Nu I q q1]; exact ga
  ·exact EW.tn (i:=i+1) W2 zf2
  ·rw [A4 (λe=>hTn (by rw [<- e]; exact hb))]; exact (hf c hb).1
 done:=by
  intro X hP hw hK hc i pins s σ H E I hf st hg
  subst hP hw hK
  obtain ⟨as,q1,hend⟩:=hg
  obtain ⟨ia,va,sa,_⟩:=DN I q1
  obtain ⟨f0,f1,old,zf,z,w1⟩:=st
  have e1:=va.length
  exact IJ ⟨_,z,rfl⟩ F.slot_enumerate_next F.entry_enumerate_next (F.args_enumerate_next_1 _) (Q0A (I.ok.hd hc) ⟨z,w1,sa,hl⟩ (by simp; omega) λh' e p q=>⟨q,rfl,FO (t':=s.toks) I hf p.fp⟩)
 self:=λA i s Q E st h=>by
  obtain ⟨f0,f1,old,zf,z,_⟩:=st
  exact Qe ⟨_,z,rfl⟩ F.slot_enumerate_iter F.entry_enumerate_iter (F.args_enumerate_iter_1 _) F.slot_enumerate_next (wpAny_pure ⟨rfl,rfl⟩) h
theorem Zf {K:PySem.W.Frag} {G:Wd} {k:Bool} {l:Addr} {vs:List V} {xs:List D} (h1:Sq k K G.g l vs) (r1:Am K G xs vs):DJ K G (Nt k K l) (xs.zipIdx.map λp=>.tup [.int (p.2:Nat),p.1]) where
 go:=λi H e hi=>by
  have hi:i<xs.length:=by simpa using hi
  obtain ⟨a,ha,_⟩:=r1.get (i:=i) (d:=xs[i]) (by simp)
  exact ⟨vs,a,h1.same e,ha⟩
 stop:=λi H e hi=>by
  have hi:xs.length<=i:=by simpa using hi
  exact ⟨vs,h1.same e,by rw [<- r1.length]; exact hi⟩
 yld:=λi v H H' G2 O2 e s y hi=>by
  obtain ⟨T,a,hT,rfl,rfl,y1⟩:=y
  obtain ⟨x,hx,ix⟩:=r1.getV (y1 vs (h1.same (e.g.trans s.sub)))
  obtain ⟨e3,s3⟩:=s.laid (o:=.tup [.int (i:Nat),a]) hT
  refine ⟨.tup [.int (i:Nat),x],_,?_,e3,s3,.tup (Bv.of BF) (.cons (.int _) (.cons (ix.ext (e.trans e3)) .nil))⟩
  rw [List.getElem?_map,List.getElem?_zipIdx,hx]
  simp
section
variable {X:Cx} {ρ:Aj} {O:Af} {e a b c:Expr} {es:List Expr} {d da db:D} {ds:List D} {R:D->Af->Prop} {pos p:Pos} {x:Str} {xs ys:List D}
theorem Z6 (ha:Ac X ρ O a da) (fa:LF da xs) (hm:X.mg "enumerate" = none) (hg:Gl X "enumerate" := by rfl) (hs:starEach [a] X.env=[(false,eval a X.env)]:=by rfl) :
  GE X ρ O (.Call (.Name "enumerate" p) [a] [] pos) (xs.zipIdx.map λp=>.tup [.int (p.2:Nat),p.1]) "enumerate" := λG tg pins s σ H R I sa en k=>by
 refine Call_ (EZ I hg hm boot_enumerate (PyProof.Rows.callWith_type1 (Az (Ab ha Ae hs G pos pins s σ H (λvs H'=>∃ G',Ag G G'/\SA X.K G' H' O/\Am X.K G' [da] vs) I ⟨sa,en,λvs G' H' e1 s1 i1=>⟨G',e1,s1,i1⟩⟩) λus s1 ⟨vs,H1,I1,r1,G1,e1,sa1,is1⟩=>?_) (by rw [hs]; rfl) rfl))
 cases is1 with | cons i1 is1=>
 cases is1
 obtain ⟨k1,l1,v1,rfl,q1,j1⟩:=fa.sq i1
 obtain ⟨u,rfl,ru⟩:=Dz r1
 cases ru
 obtain ⟨t1,w1,g1,z1⟩:=DN I1 (q1.same sa1.sub)
 have lt:l1<s1.heap.objs.size:=by
  cases k1 with
  | true=>obtain ⟨o,g,_⟩:=(g1:s1.heap.IsList l1 _); exact Heap.lt_size g
  | false=>obtain ⟨o,g,_⟩:=(g1:s1.heap.IsTuple l1 _); exact Heap.lt_size g
 refine Q1y g1 λh' Z kp=>?_
 have Ik:L2.Inv X pins σ H1 { s1 with heap:=h',toks:=s1.toks }:=I1.kept kp
 refine ⟨⟨s1.heap.objs.size+1,DW s1.heap.objs.size,FC k1 s1.heap.objs.size l1,Nt k1 X.K l1,H1,rfl,Ik,SJ k1 _ l1 lt,Z,λb hb=>?_,k _ G1 H1 e1 sa1 (Zf q1 j1)⟩,?_⟩
 ·have hb':s1.heap.objs.size<=b:=by
   rcases List.mem_cons.mp hb with rfl | hb
   ·exact Nat.le_refl _
   ·cases List.mem_singleton.mp hb; exact Nat.le_succ _
  exact I1.fpOk hb' (I1.hok.fresh hb')
 ·obtain ⟨f0,f1,old,_,hz,_⟩:=Z
  exact ⟨_,hz,rfl⟩
theorem MF {α:Type} {f:α->D} {as:List α} (ha:Ac X ρ O a da) (fa:LF da (as.map f)) (hm:X.mg "enumerate" = none) (hg:Gl X "enumerate" := by rfl) (hs:starEach [a] X.env=[(false,eval a X.env)]:=by rfl) :
  GE X ρ O (.Call (.Name "enumerate" p) [a] [] pos) (as.zipIdx.map λp=>.tup [.int (p.2:Nat),f p.1]) "enumerate" := by
 have e:(as.zipIdx.map λp=>D.tup [.int (p.2:Nat),f p.1])=((as.map f).zipIdx.map λp=>D.tup [.int (p.2:Nat),p.1]):=by
  rw [List.zipIdx_map,List.map_map]
  rfl
 rw [e]
 exact Z6 ha fa hm hg hs
end
end DL
namespace DL
open PySem PySem.Spec PyProof.Rows L2
section
variable {X:Cx} {ρ:Aj} {O:Af} {e a b c o value:Expr} {es:List Expr} {d da db:D} {ds:List D} {R:D->Af->Prop} {pos p p2 apos pos':Pos} {x y f m:Str} {rest:List Stmt} {P:Bf} {q:Nat} {C C2:Addr} {fs:List (Str×D)}
theorem Hr {i:Int} {t:Tok} (hm:X.mg x=some (.int i t)) (hg:Gl X x:=by rfl) (hd:(x==("__debug__" : Str))=false:=by decide):Ac X ρ O (.Name x pos) (.int i):=λG=>
 PE.imp (Mf (v:=.int i) hg hm ⟨t,rfl⟩ hd) λσ H Q ⟨h1,h2,h3⟩=>h3 _ G H (Ag.refl _) h1 (.int i)
structure Dr (K:PySem.W.Frag) (C:Addr):Prop where
 cls:A5 K C
 ha:PySem.W.findIn K (.ref C) "__class__" = some (some (.builtin "object.__class__"))
 hn:PySem.W.specialIn K (.builtin "object.__class__") "__get__" = some (some (.builtin "getset_descriptor.__get__"))
 htk:PySem.W.takesIn K (.builtin "object.__class__")=some true
 hm:PySem.W.mroIn K C (.type "object")=some true
theorem Hq {k:Bool} (hm:X.mg "isinstance" = none) (he:Ac X ρ O e (.ptr q)) (hq:O[q]?=some (some (.ins C fs))) (T:Dr X.K C) (hx:X.mg x=some (.ref C2)) (hk:PySem.W.kitOne X.K (.ref C) (.ref C2)=some k)
  (hg:Gl X "isinstance" := by rfl) (hgx:Gl X x:=by rfl) (hdx:(x==("__debug__" : Str))=false:=by decide) (hs:starEach [e,.Name x p2] X.env=(false,eval e X.env)::starEach [.Name x p2] X.env:=by rfl) (hpl:(backTo pos (starEach [.Name x p2] X.env)).any (·.1)=false:=by rfl) :
  Ac X ρ O (.Call (.Name "isinstance" p) [e,.Name x p2] [] pos) (.bl k):=λG=>by
 refine PE.imp (Qd (id := "isinstance") (r:=λvs H Q=>∃ a dx fs,vs=[.ref a,.ref C2]/\H a=some (.ins C dx fs)/\Q (.bl k) H) (λpins s σ H xs us Q I r h=>?_) hg hm (by first | rfl | decide +kernel) (Fr (he G) (Fr (Mf (v:=.ref C2) hgx hx rfl hdx) He rfl) hs) wE wE hs hpl) λσ H Q ⟨h1,h2,h3⟩=>?_
 ·obtain ⟨a,dx,fs,rfl,ha,hQ⟩:=h
  obtain ⟨u,u',rfl,ru,ru'⟩:=FX r
  cases ru'
  exact Zg I ru (.ins ha T.cls T.ha T.hn T.htk T.hm) hk λtk=>⟨.bl k,H,I.kept λ_ _ e=>e,rfl,hQ⟩
 ·refine ⟨h1,h2,λv G1 H1 e1 s1 i1=>?_⟩
  obtain ⟨a,dx,vs,rfl,g1,g2,g3⟩:=s1.ins i1 hq
  exact ⟨a,dx,vs,rfl,g2,h3 _ G1 H1 e1 s1 (.bl k)⟩
structure Fg (P:Program) (w:World) (K:PySem.W.Frag) (mg:Str->Option Value) (base:Heap) (x:Str) (k:Nat) (m:Str) (sp:AH):Prop where
 ex:∃ C mc f fd ps,mg x=some (.ref C)/\PySem.W.specialIn K (.ref C) "__getattribute__" = some (some (.builtin "type.__getattribute__"))/\PySem.W.readsIn K C mc=true/\PySem.W.findCls K (.ref C) mc m=some (.val (.ref f))/\PySem.W.handedIn (.ref f)=true /\
  AM P w K mg base AQ k f fd ps (AN K sp)/\PySem.W.keepIn K (.ref f)=true/\Binds K fd ps []
theorem Ho {k:Nat} {sp:AH} {pl:Sem Bool} (M:Fg X.prog X.w X.K X.mg X.base x k m sp) (hr:AL k X.A) (ha:BK X ρ O (e::es) ds) (hs:sp ds O R) (hg:Gl X x:=by rfl) (hdb:(x==("__debug__" : Str))=false:=by decide)
  (hst:starEach (e::es) X.env=(false,eval e X.env)::starEach es X.env:=by rfl) (hpl:(backTo pos (starEach es X.env)).any (·.1)=false:=by rfl)
  (ht:eval (.Call (.Attribute (.Name x p) m apos) (e::es) [] pos) X.env=(do
   let ov <- eval (.Name x p) X.env
   standAt apos.atName
   let (f,first) <- holding [ov] (getMethod ov m pl)
   callWith pos f first (backTo pos (starEach (e::es) X.env)) (backToKw pos (keywordEach [] X.env))):=by rfl):Ev X ρ O (.Call (.Attribute (.Name x p) m apos) (e::es) [] pos) R:=λG pins s σ H Q I ⟨h1,h2,h3⟩=>by
 obtain ⟨C,mc,f,fd,ps,g1,g2,g3,g4,g5,g6,g7,g8⟩:=M.ex
 refine PySem.W.methodCall_KW (pl:=pl) (IQ I hg g1 (PySem.W.method_cls I.kIn g2 (PySem.W.cls_value I.kIn g3 g4 g5 ?_)) hdb) ht
 have I1:L2.Inv X pins σ H { s with toks:=s.toks+1 }:=I.kept λ_ _ e=>e
 refine PySem.W.callWith_K (first:=[]) (h₀:=X.base) I.ok.mod.kin g7 (Az (ha G pos pins _ σ H (λvs H'=>∃ G',Ag G G'/\SA X.K G' H' O/\Am X.K G' ds vs) I1 ⟨h1,h2,λvs G' H' e1 s1 i1=>⟨G',e1,s1,i1⟩⟩) λus s2 ⟨vs,H2,I2,r,G1,e1,s1,i1⟩=>⟨I2.kIn,?_⟩) hst hpl
 refine Iy (us:=us) (vs:=vs) (dvs:=[]) (E:=E0) g6 hr g8 .nil Gf I2 r ?_
 show AN X.K sp (vs++[]) H2 Q E0
 rw [List.append_nil]
 exact ⟨G1,O,ds,R,s1,i1,hs,λv d O' G' H' e2 s2 i2 r2=>h3 v d O' G' H' (e1.trans e2) s2 i2 r2⟩
end
def JH (X:Cx) (ρ:Aj) (O:Af) (e:Expr) (R:Bool->Af->Prop):Prop:=
 ∀ G,PT X e (λσ H Q=>SA X.K G H O/\AF X.K G σ ρ/\∀ k O' G' H',Ag G G'->SA X.K G' H' O'->R k O'->Q k H')
section
variable {X:Cx} {ρ:Aj} {O:Af} {e a b c:Expr} {body orelse:List Stmt} {d da db:D} {pos:Pos} {P:Bf}
theorem NB {R:Bool->Af->Prop} (hc:JH X ρ O c R) (h:∀ k O',R k O'->(k=true->Cm X ρ O' body P)/\(k=false->Cm X ρ O' orelse P)):Ex X ρ O (.If c body orelse pos) P:=λG=>
 PS.imp (PV (hc G) (t:=λE σ H=>∃ G1 O',R true O'/\SA X.K G1 H O'/\AF X.K G1 σ ρ/\DO X.K G1 P E) (λpins s σ H E I ⟨G1,O',z,q⟩=>(h true O' z).1 rfl G1 pins s σ H E I q)
  (u:=λE σ H=>∃ G1 O',R false O'/\SA X.K G1 H O'/\AF X.K G1 σ ρ/\DO X.K G1 P E) (λpins s σ H E I ⟨G1,O',z,q⟩=>(h false O' z).2 rfl G1 pins s σ H E I q)) λE σ H ⟨q1,q2,q3⟩=>
  ⟨q1,q2,λk O' G' H' e1 s1 r1=>by
   cases k with
   | true=>exact IR ⟨G',O',r1,s1,q2.ext e1,q3.ext e1⟩
   | false=>exact IS ⟨G',O',r1,s1,q2.ext e1,q3.ext e1⟩⟩
end
section
variable {X:Cx} {ρ:Aj} {O:Af} {a b:Expr} {pos:Pos} {R:D->Af->Prop} {xs:List D}
end
end DL
namespace DL
open PySem PySem.Spec PyProof.Rows L2 PySem.W
section
variable {X:Cx} {ρ:Aj} {O:Af} {d:D} {xs ys:List D}
def Gi (ns:List Int):Int:=ns.getD (argBest (λi j=>decide (ns.getD i 0<ns.getD j 0)) (ns.length-1)) 0
def QP (ns:List Int):Int:=ns.getD (argBest (λi j=>decide (ns.getD i 0>ns.getD j 0)) (ns.length-1)) 0
theorem M7 (bt:Nat->Nat->Bool):∀ k,argBest bt k<=k
 | 0=>Nat.le_refl _
 | k+1=>by
  have:=M7 bt k
  unfold argBest
  split <;> omega
theorem YL {ns:List Int} (h:ns≠[]):Gi ns∈ns:=by
 have h0:=List.length_pos_iff.mpr h
 unfold Gi
 rw [Gn (by have:=M7 (λi j=>decide (ns.getD i 0<ns.getD j 0)) (ns.length-1); omega)]
 exact List.getElem_mem _
theorem Q1z {prog:Program} {w:World} {A:Around} {E:Value->Shared->Prop} {s:Shared} {k:Bool} {l:Addr} {its:List Value} {ns:List Int} {Q:Value->Shared->Prop} (mx:Bool) (hh:A.handled=none) (q:BC k s.heap l its.toArray) (hv:∀ (i:Nat) (v:Value),its[i]?=some v->∃ t,v=.int (ns.getD i 0) t) (hn:ns.length=its.length) (h0:0<ns.length)
  (h:∀ h' tk t,(∀ b o,s.heap.get? b=some o->h'.get? b=some o)->Q (.int (if mx then QP ns else Gi ns) t) { s with heap:=h',toks:=tk }):wpAny (model prog w) A (call (.builtin (if mx then "max" else "min")) [.ref l]) Q E s:=by
 have hl:=J2 q
 have hz:its.toArray.size=ns.length:=by simp [hn]
 have hv':∀ (i:Nat) (v:Value),its.toArray[i]?=some v->∃ t,v=.int (ns.getD i 0) t:=λi v e=>hv i v (by simpa using e)
 have BM:∀ (h2:Heap),(∀ b o,s.heap.get? b=some o->h2.get? b=some o)->∀ h':Heap,(∀ b o,b∉[s.heap.objs.size]->h2.get? b=some o->h'.get? b=some o)->∀ b o,s.heap.get? b=some o->h'.get? b=some o:=λh2 up h' kp b o e=>kp b o (by simpa using Nat.ne_of_lt (Heap.lt_size e)) (up b o e)
 have fpl:∀ b∈[s.heap.objs.size,l],b<s.heap.objs.size+1:=λb hb=>by
  rcases List.mem_cons.mp hb with rfl | hb
  ·exact Nat.lt_succ_self _
  ·rw [List.mem_singleton.mp hb]; exact Nat.lt_succ_of_lt hl
 cases k with
 | true=>
  have W:=Walks.list (prog:=prog) (w:=w) (A:=A.in1) hh s.heap.objs.size l (Nat.ne_of_lt hl) its.toArray
  have st:(s.heap.push { cls:=.type "list_iterator",data:=.fields #[.ref l,.int 0 0] }).IsListIter s.heap.objs.size l 0/\(s.heap.push { cls:=.type "list_iterator",data:=.fields #[.ref l,.int 0 0] }).IsList l its.toArray:=⟨⟨_,Heap.get?_push_size _ rfl,rfl,rfl⟩,Heap.IsList.push q _⟩
  cases mx with
  | true=>
   refine call_max_walk (wpAny_pyIter_list q ⟨_,_,_,_,_,_,_,rfl,W,st,by rw [Heap.size_push]; exact fpl,by rw [hz]; exact h0,CmpOf.ints_gt (λi=>ns.getD i 0) hv',λv h' tk hP kp=>?_⟩)
   obtain ⟨t,rfl⟩:=hv' _ _ hP
   rw [hz]
   exact h h' tk t (BM _ (λb o e=>Heap.get?_push_of_some _ e) h' kp)
  | false=>
   refine call_min_walk (wpAny_pyIter_list q ⟨_,_,_,_,_,_,_,rfl,W,st,by rw [Heap.size_push]; exact fpl,by rw [hz]; exact h0,CmpOf.ints_lt (λi=>ns.getD i 0) hv',λv h' tk hP kp=>?_⟩)
   obtain ⟨t,rfl⟩:=hv' _ _ hP
   rw [hz]
   exact h h' tk t (BM _ (λb o e=>Heap.get?_push_of_some _ e) h' kp)
 | false=>
  have W:=Walks.tuple (prog:=prog) (w:=w) (A:=A.in1) hh s.heap.objs.size l (Nat.ne_of_lt hl) its.toArray
  have st:(s.heap.push { cls:=.type "tuple_iterator",data:=.fields #[.ref l,.int 0 0] }).IsTupleIter s.heap.objs.size l 0/\(s.heap.push { cls:=.type "tuple_iterator",data:=.fields #[.ref l,.int 0 0] }).IsTuple l its.toArray:=⟨⟨_,Heap.get?_push_size _ rfl,rfl,rfl⟩,(BC.at (k:=false) q λo e=>Heap.get?_push_of_some _ e:BC false _ l _)⟩
  cases mx with
  | true=>
   refine call_max_walk (wpAny_pyIter_tuple q ⟨_,_,_,_,_,_,_,rfl,W,st,by rw [Heap.size_push]; exact fpl,by rw [hz]; exact h0,CmpOf.ints_gt (λi=>ns.getD i 0) hv',λv h' tk hP kp=>?_⟩)
   obtain ⟨t,rfl⟩:=hv' _ _ hP
   rw [hz]
   exact h h' tk t (BM _ (λb o e=>Heap.get?_push_of_some _ e) h' kp)
  | false=>
   refine call_min_walk (wpAny_pyIter_tuple q ⟨_,_,_,_,_,_,_,rfl,W,st,by rw [Heap.size_push]; exact fpl,by rw [hz]; exact h0,CmpOf.ints_lt (λi=>ns.getD i 0) hv',λv h' tk hP kp=>?_⟩)
   obtain ⟨t,rfl⟩:=hv' _ _ hP
   rw [hz]
   exact h h' tk t (BM _ (λb o e=>Heap.get?_push_of_some _ e) h' kp)
theorem Q1H {ns:List Int} (mx:Bool) (h:LT O d (ns.map D.int)) (h0:ns≠[]) (hc:X.calm=true):BR X O (.builtin (if mx then "max" else "min")) [d] (.int (if mx then QP ns else Gi ns)):=λG pins s σ H vs us Q I r ⟨h1,h2,h3⟩=>by
 cases h2 with | cons i r2=>
 cases r2
 obtain ⟨kk,ad,ws,rfl,q,is⟩:=h.sq h1 i
 obtain ⟨u,rfl,ru⟩:=Dz r
 cases ru
 obtain ⟨its,va,sq,_⟩:=DN I q
 have e:=is.toInts
 subst e
 have el:=va.length
 rw [List.length_map] at el
 refine Q1z (ns:=ns) mx (I.ok.hd hc) sq (λi v hv=>?_) el (List.length_pos_iff.mpr h0) λh' tk t kp=>⟨.int _,H,I.kept kp,⟨t,rfl⟩,h3 _ G H (Ag.refl _) h1 (.int _)⟩
 have hi:i<ns.length:=by rw [el]; exact (List.getElem?_eq_some_iff.mp hv).1
 obtain ⟨w,hw,rw'⟩:=va.get (i:=i) (x:=.int ns[i]) (by simp [hi])
 rw [hv] at hw
 cases hw
 obtain ⟨t,e⟩:=rw'
 exact ⟨t,by rw [e,Gn hi]⟩
theorem Q1D {ns:List Int} (h:LT O d (ns.map D.int)) (h0:ns≠[]) (hc:X.calm=true:=by rfl):BR X O (.builtin "min") [d] (.int (Gi ns)):=Q1H false h h0 hc
end
structure HM (K:PySem.W.Frag) (x qual:Str) (st:Stmt) (f:Addr) (fd:FuncData) (dv:List Value):Prop where
 ex:∃ (T:Addr) (cT:Value) (dT:Option Addr) (nT:Nat) (sT:Array (Option Value)) (oc:Value) (od:Option Addr) (kV doc pm:Value) (an:Option Addr) (cdv ct:Value) (osl:Array (Option Value)),
  fd=PySem.W.fnOf x qual (Dw st) (CQ st) (An st) (.ref T) kV doc pm an cdv ct/\K.lookup f=some ⟨oc,od,.func fd,osl⟩/\PySem.W.codeIn K cdv qual=true/\K.lookup T=some ⟨cT,dT,.seq dv.toArray nT,sT⟩
 kp:PySem.W.keepIn K (.ref f)=true
theorem ZU {K:PySem.W.Frag} {x qual:Str} {st:Stmt} {f T:Addr} {cT oc:Value} {dT od an:Option Addr} {nT:Nat} {sT osl:Array (Option Value)} {kV doc pm cdv ct:Value} {dv:List Value} (l:K.lookup f=some ⟨oc,od,.func (PySem.W.fnOf x qual (Dw st) (CQ st) (An st) (.ref T) kV doc pm an cdv ct),osl⟩)
  (t:K.lookup T=some ⟨cT,dT,.seq dv.toArray nT,sT⟩) (c:PySem.W.codeIn K cdv qual=true) (k:PySem.W.keepIn K (.ref f)=true):HM K x qual st f (PySem.W.fnOf x qual (Dw st) (CQ st) (An st) (.ref T) kV doc pm an cdv ct) dv:=⟨⟨T,cT,dT,nT,sT,oc,od,kV,doc,pm,an,cdv,ct,osl,rfl,l,c,t⟩,k⟩
theorem HM.binds {K:PySem.W.Frag} {x qual:Str} {st:Stmt} {f:Addr} {fd:FuncData} {dv rest:List Value} {ps:List Str} (F:HM K x qual st f fd dv)
  (h:∀ (T:Addr) (kV doc pm:Value) (an:Option Addr) (cdv ct:Value) (us:List Value),(us++rest).length=ps.length->∃ k,bindArgs (PySem.W.fnOf x qual (Dw st) (CQ st) (An st) (.ref T) kV doc pm an cdv ct) ⟨us,[]⟩=seqItems? (.ref T) >>= k/\k (some dv.toArray)=pure (ps.zip (us++rest))):Binds K fd ps rest:=by
 obtain ⟨T,cT,dT,nT,sT,oc,od,kV,doc,pm,an,cdv,ct,osl,rfl,l,c,t⟩:=F.ex
 intro s us X hl
 obtain ⟨k,h1,h2⟩:=h T kV doc pm an cdv ct us hl
 exact PySem.W.binds_K X rfl t rfl h1 h2
section
variable {P:Program} {w:World} {K:PySem.W.Frag} {mg:Str->Option Value} {base:Heap}
theorem X8 {x qual:Str} {st:Stmt} {f:Addr} {fd:FuncData} {N ps:List Str} {k:Nat} {sp:AH} {dv:List Value} (F:HM K x qual st f fd dv) (S:Av N ps (An st))
  (len:∀ ds O R,sp ds O R->ds.length=ps.length)
  (hbody:∀ (cdv:Value) (A:Around) (outer:List Env) (s:Shared) (H:Hp) (E:XK) (ds:List D) (O:Af) (R:D->Af->Prop),AL k (A.deeper (envOfC qual (An st) s.heap.objs.size f cdv))->sp ds O R->
   Cm (EH AQ P w K mg base N qual (An st) f cdv A outer s H E).nox (F2 N ds) O (CQ st) { nx:=λ_ O'=>R .non O',rt:=R }):AM P w K mg base AQ (k+1) f fd ps (AN K sp):=by
 obtain ⟨T,cT,dT,nT,sT,oc,od,kV,doc,pm,an,cdv,ct,osl,rfl,l,c,t⟩:=F.ex
 refine QZ l c S (λvs H Q E h=>?_) λA outer s H vs Q E hr h=>?_
 ·obtain ⟨G,O,ds,R,h1,h2,h3,h4⟩:=h
  rw [<- h2.length]
  exact len _ _ _ h3
 ·obtain ⟨G,O,ds,R,h1,h2,h3,h4⟩:=h
  exact ⟨_,(hbody cdv A outer s H E ds O R hr h3 G).nox,h1,Oc h2,⟨λσ ρ O' G' H' e1 s1 n1 q=>h4 _ _ O' G' H' e1 s1 .non q,λv d O' G' H' e1 s1 i1 q=>h4 v d O' G' H' e1 s1 i1 q,λσ ρ O' G' H' e1 s1 n1 q=>q.elim,λσ ρ O' G' H' e1 s1 n1 q=>q.elim⟩⟩
end
section
variable {X:Cx} {ρ:Aj} {O:Af} {a:Expr} {pos p:Pos} {R:D->Af->Prop} {xs:List D} {d:D}
end
def Fw (ps:List (Int×Int)):Int×Int:=ps.getD (argBest (λi j=>AS (ps.getD i (0,0)) (ps.getD j (0,0))) (ps.length-1)) (0,0)
theorem Qx (g:Nat->Int×Int):∀ k i,i<=k->AS (g i) (g (argBest (λi j=>AS (g i) (g j)) k))=false
 | 0,i,h=>by
  have:i=0:=by omega
  subst this
  show AS (g 0) (g 0)=false
  unfold AS
  exact decide_eq_false wF
 | k+1,i,h=>by
  have ih:=Qx g k
  unfold argBest
  by_cases hd:AS (g (k+1)) (g (argBest (λi j=>AS (g i) (g j)) k))=true
  ·rw [if_pos hd]
   by_cases he:i=k+1
   ·subst he; unfold AS; exact decide_eq_false wF
   ·have:=ih i wF
    generalize argBest (λi j=>AS (g i) (g j)) k=b at *
    unfold AS at *
    have h1:=of_decide_eq_true hd
    have h2:=of_decide_eq_false this
    exact decide_eq_false wF
  ·rw [if_neg hd]
   by_cases he:i=k+1
   ·subst he; exact Bool.eq_false_iff.mpr hd
   ·exact ih i wF
theorem YB {ps:List (Int×Int)} (h:ps≠[]):Fw ps∈ps:=by
 have h0:=List.length_pos_iff.mpr h
 unfold Fw
 rw [Gn (by have:=M7 (λi j=>AS (ps.getD i (0,0)) (ps.getD j (0,0))) (ps.length-1); omega)]
 exact List.getElem_mem _
theorem YC {ps:List (Int×Int)} {q:Int×Int} (h:q∈ps):AS q (Fw ps)=false:=by
 obtain ⟨i,hi,rfl⟩:=List.getElem_of_mem h
 have:=Qx (λi=>ps.getD i (0,0)) (ps.length-1) i wF
 rw [Gn hi] at this
 exact this
def HG (h:Heap) (v:Value) (p:Int×Int):Prop:=∃ a o n t u,v=.ref a/\h.get? a=some o/\o.cls=.type "tuple" /\ o.data=.seq #[.int p.1 t,.int p.2 u] n
section
variable {prog:Program} {w:World} {A:Around} {E:Value->Shared->Prop} {s:Shared}
theorem Qw {a b:Int} {t u:Tok} {Q:Value->Shared->Prop} (h:Q (.bool (decide (a<b))) s):wpAny (model prog w) A (richCompare .Lt (.int a t) (.int b u)) Q E s:=
 CmpOf.ints_lt (P:=λi v=>v=if i=0 then .int a t else .int b u) (λi=>if i=0 then a else b) (λi v e=>⟨if i=0 then t else u,by subst e; split <;> rfl⟩) 0 1 _ _ s Q E rfl rfl h
theorem YK {x y:Value} {p q:Int×Int} {Q:Value->Shared->Prop} (hx:HG s.heap x p) (hy:HG s.heap y q) (hu:A.units<cLine) (h:Q (.bool (AS p q)) s):wpAny (model prog w) A (richCompare .Lt x y) Q E s:=by
 obtain ⟨a,oa,na,ta,ua,rfl,a1,a2,a3⟩:=hx
 obtain ⟨b,ob,nb,tb,ub,rfl,b1,b2,b3⟩:=hy
 have Ta:s.TypeIs (.ref a) "tuple" :=⟨oa,a1,a2⟩
 have Tb:s.TypeIs (.ref b) "tuple" :=⟨ob,b1,b2⟩
 refine wpAny_richCompare_same_room (op:=.Lt) Ta Tb PySem.F.slot_tuple_lt (wpAny_call_entry PySem.F.slot_tuple_lt Ta PySem.F.entry_tuple_lt ?_ (PySem.F.args_tuple_lt_2 _ _)) hu
 obtain ⟨h0,g,d,tk,os⟩:=s
 obtain ⟨ca,da,xa,sa⟩:=oa
 obtain ⟨cb,db,xb,sb⟩:=ob
 simp only at a2 a3 b2 b3
 subst a2 a3 b2 b3
 dsimp only at a1 b1
 have f2:=AutoSeq1.sub_tuple_tuple
 have hq1:((p.1==q.1)=true) ↔ p.1=q.1:=by simp
 by_cases e1:p.1=q.1
 ·have z1:(p.1==q.1)=true:=by simpa using e1
  by_cases e2:p.2=q.2
  ·have z2:(p.2==q.2)=true:=by simpa using e2
   have z:AS p q=false:=by unfold AS; exact decide_eq_false wF
   rw [z] at h
   wp_walk using wpAny_loadPart' a1,wpAny_loadPart' b1,wpAny_eqBool_int
   exact ⟨.bool false,rfl,λz=>(by cases z),h⟩
  ·have z2:(p.2==q.2)=false:=by simpa using e2
   have z:AS p q=decide (p.2<q.2):=by unfold AS; exact decide_eq_decide.mpr wF
   rw [z] at h
   wp_walk using wpAny_loadPart' a1,wpAny_loadPart' b1,wpAny_eqBool_int,Qw
   exact ⟨_,rfl,λz=>(by cases z),h⟩
 ·have z1:(p.1==q.1)=false:=by simpa using e1
  have z:AS p q=decide (p.1<q.1):=by unfold AS; exact decide_eq_decide.mpr wF
  rw [z] at h
  wp_walk using wpAny_loadPart' a1,wpAny_loadPart' b1,wpAny_eqBool_int,Qw
  exact ⟨_,rfl,λz=>(by cases z),h⟩
theorem Mn {R:Result->Shared->Prop} {I S:Addr} {fp wr:List Addr} {n:Nat} {P:Nat->Value->Prop} {St:Nat->Heap->Prop} {Kp:Heap->Prop} {bt:Nat->Nat->Bool} (W:Walks prog w A.in1 I fp wr n P St)
  (hc:∀ i j vi vj (s:Shared) (Q:Value->Shared->Prop) (E:Value->Shared->Prop),P i vi->P j vj->Kp s.heap->Q (.bool (bt i j)) s->wpAny (model prog w) A.in1 (richCompare .Lt vi vj) Q E s)
  (hK:∀ h h':Heap,Kp h->(∀ b o,b∉wr->b≠S->h.get? b=some o->h'.get? b=some o)->Kp h') (hS:S∉fp) :
  ∀ (k j:Nat) (s:Shared) (vb:Value) (c:Nat),j+1+k=n->St (j+1) s.heap->Kp s.heap->P (argBest bt j) vb->s.heap.get? S=some (DG [vb,vb] c)->
   (∀ v h' tk,P (argBest bt (n-1)) v->(∀ b o,b∉wr->b≠S->s.heap.get? b=some o->h'.get? b=some o)->R (.ok (.ret v)) { s with heap:=h',toks:=tk })->codeAny (model prog w) A (.builtin "min.loop" ⟨[.ref I,.none,.ref S],[]⟩) R s
 | 0,j,s,vb,c,hk,st,kp,pb,own,fin=>by
  refine FH F.plain_min_loop F.entry_min_loop ?_
  obtain ⟨h,g,d,tk,os⟩:=s
  have hn:j+1=n:=hk
  subst hn
  have nx:∀ (Q:Option Value->Shared->Prop) (E:Value->Shared->Prop) (f:Value->Sem (Option Value)),(∀ h' tk',(∀ b o,b∉wr->h.get? b=some o->h'.get? b=some o)->Q none ⟨h',g,d,tk',os⟩)->wpAny (model prog w) A.in1 ((pyNext (.ref I)).tryCatch f) Q E ⟨h,g,d,tk,os⟩:=λQ E f q=>wpAny_tryCatch (W.done _ _ _ st q)
  wp_walk using wpAny_seqItems own rfl,nx
  intro h' tk' ke
  have own':=ke S _ (λz=>hS (W.sub _ z)) own
  wp_walk using wpAny_updateSeq own' rfl
  exact fin vb _ _ pb λb o hb hbS e=>(Heap.get?_update_other _ _ (Ne.symm hbS)).trans (ke b o hb e)
 | k+1,j,s,vb,c,hk,st,kp,pb,own,fin=>by
  refine FH F.plain_min_loop F.entry_min_loop ?_
  obtain ⟨h,g,d,tk,os⟩:=s
  have nx:∀ (Q:Option Value->Shared->Prop) (E:Value->Shared->Prop) (f:Value->Sem (Option Value)),(∀ v h' tk',P (j+1) v->St (j+2) h'->(∀ b o,b∉wr->h.get? b=some o->h'.get? b=some o)->Q (some v) ⟨h',g,d,tk',os⟩)->wpAny (model prog w) A.in1 ((pyNext (.ref I)).tryCatch f) Q E ⟨h,g,d,tk,os⟩:=λQ E f q=>wpAny_tryCatch (W.item _ _ _ _ wF st q)
  wp_walk using wpAny_seqItems own rfl,nx
  intro v h' tk' pv st' ke
  have own':=ke S _ (λz=>hS (W.sub _ z)) own
  have kp':Kp h':=hK h h' kp λb o hb _ e=>ke b o hb e
  have cmp:∀ (Q:Value->Shared->Prop) (E:Value->Shared->Prop),Q (.bool (bt (j+1) (argBest bt j))) ⟨h',g,d,tk',os⟩->wpAny (model prog w) A.in1 (richCompare .Lt v vb) Q E ⟨h',g,d,tk',os⟩:=λQ E q=>hc _ _ _ _ _ Q E pv pb kp' q
  wp_walk
  refine wpAny_tryCatch ?_
  have nm:(toString "min" ++ toString ".loop" : String) = "min.loop" := by decide
  rw [nm]
  have hb1:argBest bt (j+1)=if bt (j+1) (argBest bt j) then j+1 else argBest bt j:=rfl
  cases hz:bt (j+1) (argBest bt j) with
  | true=>
   rw [hz] at cmp hb1
   wp_walk using cmp,wpAny_truthy_bool,wpAny_updateSeq own' rfl
   refine ⟨plainId_quiet F.plain_min_loop _,Mn W hc hK hS k (j+1) _ v _ wF (W.frame _ _ _ st' λb hbf o e=>(Heap.get?_update_other _ _ (λz:S=b=>hS (by rw [z]; exact hbf))).trans e) (hK _ _ kp' λb o _ hbS e=>(Heap.get?_update_other _ _ (Ne.symm hbS)).trans e) (by rw [hb1]; exact pv) (Heap.get?_update_self _ own' rfl) λv2 h2 tk2 p2 ke2=>fin v2 h2 tk2 p2 λb o hbw hbS e=>ke2 b o hbw hbS ((Heap.get?_update_other _ _ (Ne.symm hbS)).trans (ke b o hbw e))⟩
  | false=>
   rw [hz] at cmp hb1
   wp_walk using cmp,wpAny_truthy_bool
   exact ⟨plainId_quiet F.plain_min_loop _,Mn W hc hK hS k (j+1) _ vb _ wF st' kp' (by rw [hb1]; exact pb) own' λv2 h2 tk2 p2 ke2=>fin v2 h2 tk2 p2 λb o hbw hbS e=>ke2 b o hbw hbS (ke b o hbw e)⟩
theorem YA {R:Result->Shared->Prop} {I S:Addr} {fp wr:List Addr} {n:Nat} {P:Nat->Value->Prop} {St:Nat->Heap->Prop} {Kp:Heap->Prop} {bt:Nat->Nat->Bool} {c:Nat} (W:Walks prog w A.in1 I fp wr n P St)
  (hc:∀ i j vi vj (s:Shared) (Q:Value->Shared->Prop) (E:Value->Shared->Prop),P i vi->P j vj->Kp s.heap->Q (.bool (bt i j)) s->wpAny (model prog w) A.in1 (richCompare .Lt vi vj) Q E s)
  (hK:∀ h h':Heap,Kp h->(∀ b o,b∉wr->b≠S->h.get? b=some o->h'.get? b=some o)->Kp h') (hS:S∉fp) (hn:0<n) (st:St 0 s.heap) (kp:Kp s.heap) (own:s.heap.get? S=some (DG [] c))
  (fin:∀ v h' tk,P (argBest bt (n-1)) v->(∀ b o,b∉wr->b≠S->s.heap.get? b=some o->h'.get? b=some o)->R (.ok (.ret v)) { s with heap:=h',toks:=tk }):codeAny (model prog w) A (.builtin "min.loop" ⟨[.ref I,.none,.ref S],[]⟩) R s:=by
 refine FH F.plain_min_loop F.entry_min_loop ?_
 obtain ⟨h,g,d,tk,os⟩:=s
 have nx:∀ (Q:Option Value->Shared->Prop) (E:Value->Shared->Prop) (f:Value->Sem (Option Value)),(∀ v h' tk',P 0 v->St 1 h'->(∀ b o,b∉wr->h.get? b=some o->h'.get? b=some o)->Q (some v) ⟨h',g,d,tk',os⟩)->wpAny (model prog w) A.in1 ((pyNext (.ref I)).tryCatch f) Q E ⟨h,g,d,tk,os⟩:=λQ E f q=>wpAny_tryCatch (W.item _ _ _ _ hn st q)
 wp_walk using wpAny_seqItems own rfl,nx
 intro v h' tk' pv st' ke
 have own':=ke S _ (λz=>hS (W.sub _ z)) own
 wp_walk using wpAny_updateSeq own' rfl
 have nm:(toString "min" ++ toString ".loop" : String) = "min.loop" := by decide
 rw [nm]
 exact ⟨plainId_quiet F.plain_min_loop _,Mn W hc hK hS (n-1) 0 _ v _ wF (W.frame _ _ _ st' λb hbf o e=>(Heap.get?_update_other _ _ (λz:S=b=>hS (by rw [z]; exact hbf))).trans e) (hK _ _ (hK _ _ kp λb o hb _ e=>ke b o hb e) λb o _ hbS e=>(Heap.get?_update_other _ _ (Ne.symm hbS)).trans e) pv (Heap.get?_update_self _ own' rfl) λv2 h2 tk2 p2 ke2=>fin v2 h2 tk2 p2 λb o hbw hbS e=>ke2 b o hbw hbS ((Heap.get?_update_other _ _ (Ne.symm hbS)).trans (ke b o hbw e))⟩
theorem Q1t {l:Addr} {its:List Value} {ps:List (Int×Int)} {Q:Value->Shared->Prop} (hh:A.handled=none) (hu:A.in1.units<cLine) (q:s.heap.IsList l its.toArray) (hv:∀ (i:Nat) (v:Value),its[i]?=some v->HG s.heap v (ps.getD i (0,0))) (hn:ps.length=its.length) (h0:0<ps.length)
  (h:∀ v h' tk,its[argBest (λi j=>AS (ps.getD i (0,0)) (ps.getD j (0,0))) (ps.length-1)]?=some v->(∀ b o,s.heap.get? b=some o->h'.get? b=some o)->Q v { s with heap:=h',toks:=tk }):wpAny (model prog w) A (call (.builtin "min") [.ref l]) Q E s:=by
 obtain ⟨h1,g,d,tk,os⟩:=s
 dsimp only at q hv h
 have hl:l<h1.objs.size:=by obtain ⟨o,e,_⟩:=q; exact Heap.lt_size e
 refine call_function_tree F.kind_min F.plain_min F.entry_min (F.args_min1 (.ref l)) ?_
 have bp:Builtin.Builtins.bindParams "min" ["key","default"] 0 ⟨[],[]⟩=pure [none,none]:=rfl
 wp_walk using wpAny_pyIter_list q
 have nm:(toString "min" ++ toString ".loop" : String) = "min.loop" := by decide
 rw [nm]
 have W:=Walks.list (prog:=prog) (w:=w) (A:=A.in1) hh h1.objs.size l (Nat.ne_of_lt hl) its.toArray
 have ez:its.toArray.size=ps.length:=by simp [hn]
 have up:∀ b o,h1.get? b=some o->((h1.push { cls:=.type "list_iterator",data:=.fields #[.ref l,.int 0 0] }).push { cls:=.type "list",data:=.seq #[] }).get? b=some o:=λb o e=>Heap.get?_push_of_some _ (Heap.get?_push_of_some _ e)
 have es:(h1.push { cls:=.type "list_iterator",data:=.fields #[.ref l,.int 0 0] }).objs.size=h1.objs.size+1:=Heap.size_push ..
 refine ⟨plainId_quiet F.plain_min_loop _,YA (c:=0) (Kp:=λh'=>∀ b o,h1.get? b=some o->h'.get? b=some o) (bt:=λi j=>AS (ps.getD i (0,0)) (ps.getD j (0,0))) W (λi j vi vj s' Q' E' pi pj kp hq=>?_) (λh2 h3 kp ke b o e=>?_) ?_ (by rw [ez]; exact h0) ⟨⟨_,Heap.get?_push_of_some _ (Heap.get?_push_size _ rfl),rfl,rfl⟩,?_⟩ up (Heap.get?_push_size _ rfl) λv h2 tk2 pv ke=>?_⟩
 ·have BM:∀ {x:Value} {p:Int×Int},HG h1 x p->HG s'.heap x p:=λ⟨a,o,n,t,u,e,e1,r⟩=>⟨a,o,n,t,u,e,kp a o e1,r⟩
  exact YK (BM (hv i vi (by simpa using pi))) (BM (hv j vj (by simpa using pj))) hu hq
 ·have hb:=Heap.lt_size e
  refine ke b o (by simpa using Nat.ne_of_lt hb) (λz=>?_) (kp b o e)
  rw [z] at hb
  have hb:h1.objs.size+1<h1.objs.size:=by rw [<- es]; exact hb
  omega
 ·intro z
  have z:h1.objs.size+1∈[h1.objs.size,l]:=by rw [<- es]; exact z
  rcases List.mem_cons.mp z with z | z
  ·exact Nat.succ_ne_self _ z
  ·have z:=List.mem_singleton.mp z
   rw [<- z] at hl
   exact Nat.lt_irrefl _ (Nat.lt_of_succ_lt hl)
 ·obtain ⟨o,e,r⟩:=q
  exact ⟨o,up _ _ e,r⟩
 ·rw [ez] at pv
  refine h v h2 tk2 (by simpa using pv) λb o e=>ke b o (by simpa using Nat.ne_of_lt (Heap.lt_size e)) (λz=>?_) (up b o e)
  have hb:=Heap.lt_size e
  rw [z] at hb
  have hb:h1.objs.size+1<h1.objs.size:=by rw [<- es]; exact hb
  omega
end
section
variable {X:Cx} {O:Af} {d:D} {k:Nat}
theorem Q1C {ps:List (Int×Int)} (hr:AL k X.A) (h:LV O d (ps.map pD)) (h0:ps≠[]) (hc:X.calm=true:=by rfl):BR X O (.builtin "min") [d] (pD (Fw ps)):=λG pins s σ H vs us Q I r ⟨h1,h2,h3⟩=>by
 cases h2 with | cons i r2=>
 cases r2
 obtain ⟨ad,ws,rfl,q,is⟩:=h.sq h1 i
 obtain ⟨u,rfl,ru⟩:=Dz r
 cases ru
 obtain ⟨its,va,sq,_⟩:=I.list q
 have e1:=is.length
 have e2:=va.length
 rw [List.length_map] at e1
 have hp:=List.length_pos_iff.mpr h0
 have at':∀ i (v:Value),its[i]?=some v->∃ x,ws[i]?=some x/\AR x v/\∃ p,ps[i]?=some p/\Is X.K G (pD p) x:=λi v hv=>by
  have hi:i<ps.length:=by rw [e1,e2]; exact (List.getElem?_eq_some_iff.mp hv).1
  obtain ⟨x,hx,ix⟩:=is.get (i:=i) (d:=pD ps[i]) (by simp [hi])
  obtain ⟨z,hz,rz⟩:=va.get hx
  rw [hv] at hz
  cases hz
  exact ⟨x,hx,rz,ps[i],List.getElem?_eq_getElem hi,ix⟩
 refine Q1t (ps:=ps) (I.ok.hd hc) (show X.A.in1.units<cLine from ?_) sq.isList (λi v hv=>?_) wF hp λv h' tk hv kp=>?_
 ·exact Zw hr
 ·obtain ⟨x,hx,rx,p,hpp,ix⟩:=at' i v hv
  rw [List.getD_eq_getElem?_getD,hpp]
  cases ix with
  | tup hh rr=>
  cases rr with | cons j1 rr=>cases rr with | cons j2 rr=>
  cases rr
  cases j1
  cases j2
  cases rx
  obtain ⟨its2,v2,⟨o,g1,g2,n,g3⟩,_⟩:=I.tuple (DB h1.sub hh)
  obtain ⟨u1,u2,rfl,q1,q2⟩:=FX v2
  obtain ⟨t,rfl⟩:=q1
  obtain ⟨t',rfl⟩:=q2
  exact ⟨_,o,n,t,t',rfl,g1,g2,g3⟩
 ·obtain ⟨x,hx,rx,p,hpp,ix⟩:=at' _ v hv
  have e:Fw ps=p:=by
   unfold Fw
   rw [List.getD_eq_getElem?_getD,hpp]
   rfl
  rw [e] at h3
  exact ⟨x,H,I.kept kp,rx,h3 _ G H (Ag.refl _) h1 ix⟩
end
section
variable {X:Cx} {ρ:Aj} {O:Af} {e:Expr} {p p2 pos pos2:Pos}
end
section
variable {X:Cx} {ρ:Aj} {O:Af} {e:Expr} {es:List Expr} {ds:List D} {R:D->Af->Prop} {pos p:Pos} {x:Str} {C:Addr}
end
end DL
namespace DL
open PySem PySem.Spec PyProof.Rows L2
section
variable {X:Cx} {ρ:Aj} {O:Af} {a b:Expr} {pos:Pos}
theorem Rf {R:Bool->Af->Prop} (ha:Ev X ρ O a λd O'=>∃ k,d=.bl k/\R k O') (he:∀ whole,isTrue a X.env whole=(do let v <- whole; standAt a.pos; holding [v] (truthy v)):=by intro _; rfl):JH X ρ O a R:=λG=>
 (PR (ha G) he).imp λσ H Q ⟨q1,q2,q3⟩=>⟨q1,q2,λv d O' G' H' e1 s1 i1 r=>by
  obtain ⟨k,rfl,r⟩:=r
  cases i1
  exact ⟨k,rfl,q3 k O' G' H' e1 s1 r⟩⟩
theorem Re {R:Bool->Af->Prop} (ha:JH X ρ O a λk O'=>R (!k) O'):JH X ρ O (.UnaryOp .Not a pos) R:=λG=>
 (PU (ha G)).imp λσ H Q ⟨q1,q2,q3⟩=>⟨q1,q2,λk O' G' H' e1 s1 r=>q3 (!k) O' G' H' e1 s1 r⟩
end
section
variable {X:Cx} {ρ:Aj} {O:Af} {a e:Expr} {d:D}
end
section
variable {prog:Program} {w:World} {A:Around} {E:Value->Shared->Prop} {s:Shared}
end
section
variable {X:Cx} {O:Af} {xs:List D}
end
section
variable {X:Cx} {ρ:Aj} {O:Af} {a b:Expr} {d:D} {pos:Pos}
end
section
variable {X:Cx} {ρ:Aj} {O:Af} {e a b c st:Expr} {d da db:D} {xs ys:List D} {R:D->Af->Prop} {pos p p2:Pos} {P:Bf} {q:Nat}
end
section
variable {prog:Program} {w:World} {A:Around} {E:Value->Shared->Prop} {s:Shared}
end
section
variable {X:Cx} {ρ:Aj} {O:Af} {a st lo:Expr} {xs:List D} {pos p2:Pos}
end
section
variable {X:Cx} {ρ:Aj} {O:Af} {e:Expr} {C C2:Addr} {x:Str} {p p2 pos:Pos} {R:D->Af->Prop}
end
section
variable {X:Cx} {ρ:Aj} {O:Af} {o ix e:Expr} {pos tpos:Pos} {P:Bf} {q:Nat}
end
end DL
namespace DL
open PySem PySem.Spec PyProof.Rows L2 PySem.W
section
variable {prog:Program} {w:World} {A:Around} {E:Value->Shared->Prop} {s:Shared} {n l:Nat} {j:Int} {xs:Array Value} {v:Value}
end
section
variable {X:Cx} {ρ:Aj} {O:Af} {a:Expr} {pos p:Pos} {xs:List D}
end
section
variable {prog:Program} {w:World} {A:Around} {E:Value->Shared->Prop} {s:Shared} {l:Nat} {k:Int} {t:Tok} {vs:List Value} {ns:List Int}
end
section
variable {X:Cx} {ρ:Aj} {O:Af} {a e:Expr}
end
end DL
namespace L2
open PySem PySem.Spec PyProof.Rows
def DM {α:Type}:Sem α->Prop
 | .pure _=>True
 | .raise _=>True
 | .unsupported _=>True
 | .finish _=>True
 | .rule _ k=>DM (k ())
 | .at _ k=>DM (k ())
 | .load _ _ k=>∀ o,DM (k o)
 | .update _ _ f k=>(∀ o:Obj,((f o).dict=o.dict/\ctxOf (f o)=ctxOf o)/\(o.data≠.freed->(f o).data≠.freed))/\DM (k ())
 | .alloc _ k=>∀ a,DM (k a)
 | .loadIfAlive _ k=>∀ o,DM (k o)
 | .point _ k=>DM (k ())
 | .fresh k=>∀ t,DM (k t)
 | .ask k=>∀ t,DM (k t)
 | .handled _ k=>∀ t,DM (k t)
 | .stack k=>∀ t,DM (k t)
 | .thread k=>∀ t,DM (k t)
 | _=>False
section
variable {P:Program} {w:World}
end
section
variable {CX:Ds} {P:Program} {w:World} {K:PySem.W.Frag} {mg:Str->Option Value} {base:Heap} {N:List Str} {qual:Str} {scope:Scope} {f:Addr} {cd:Value} {A:Around} {outer:List Env} {s:Shared} {H:Hp} {E:XK}
end
end L2
namespace DL
open PySem PySem.Spec PyProof.Rows L2
abbrev XR:=Addr->List (Str×D)->Af->Prop
abbrev SpX:=List D->Af->(D->Af->Prop)->XR->Prop
abbrev XC:=Addr->List (Str×D)->Aj->Af->Prop
section
variable {X:Cx} {mk:Prop} {ρ:Aj} {O:Af} {e a b c o:Expr} {es:List Expr} {d da db:D} {ds:List D} {R:D->Af->Prop} {RX:XC} {pos p apos:Pos} {x m:Str} {st:Stmt} {rest body orelse:List Stmt} {P:Bf} {C:Addr} {q:Nat} {fs:List (Str×D)}
end
section
variable {P:Program} {w:World} {K:PySem.W.Frag} {mg:Str->Option Value} {base:Heap}
end
end DL
namespace L2
open PySem PySem.Spec PyProof.Rows
section
variable {X:Cx} {pins:List (Addr×Obj)} {σ:St} {H:Hp} {s:Shared}
abbrev Cx.as (X:Cx) (A:Around) (calm:Bool) (pn:List (Addr×Obj)) (E:Value->Shared->Prop):Cx:={ X with A:=A,calm:=calm,pn:=pn,xe:=E }
end
end L2
namespace DL
open PySem PySem.Spec PyProof.Rows L2
abbrev bmV:List Value:=[.type "ValueError",.type "Exception",.type "BaseException",.type "object"]
section
variable {X:Cx} {mk:Prop} {ρ:Aj} {O:Af} {e a b c o:Expr} {es:List Expr} {d da db:D} {ds:List D} {R:D->Af->Prop} {RX:XC} {pos p np cpos hpos:Pos} {x y n:Str} {st b₀:Stmt} {rest body suite:List Stmt} {P:Bf} {C CB:Addr} {fs:List (Str×D)}
end
end DL
namespace L2
open PySem PySem.Spec PyProof.Rows Builtin.ObjectAttr Builtin.Getset_descriptor
section
variable {prog:Program} {w:World} {A:Around} {E:Value->Shared->Prop} {s:Shared} {K:PySem.W.Frag} {x C:Addr} {n:Str}
end
end L2
namespace DL
open PySem PySem.Spec PyProof.Rows L2
section
variable {X:Cx} {ρ:Aj} {O:Af} {e:Expr} {es:List Expr} {p p2 pos:Pos} {x:Str} {C C2:Addr} {q:Nat} {fs:List (Str×D)} {k:Bool} {x1:Nat}
end
end DL
namespace L2
open PySem PySem.Spec PyProof.Rows
section
variable {X:Cx} {tg a b c:Expr} {p pos:Pos}
end
end L2
namespace DL
open PySem PySem.Spec PyProof.Rows L2
section
variable {X:Cx} {ρ:Aj} {O:Af} {a b c:Expr} {p pos:Pos} {P:Bf} {st:Stmt} {rest:List Stmt}
end
end DL
namespace L2
open PySem PySem.Spec PyProof.Rows Builtin.ObjectAttr
open DL (bmV)
section
variable {prog:Program} {w:World} {A:Around} {s:Shared} {K:PySem.W.Frag} {C f N:Addr} {nm q:Str} {bs bm:List Value} {hdct:Bool} {sn:List Str} {sub:List Value} {ab:Bool} {col:Option Bool} {dd:Option Addr} {k0 k1 k2 k3 k5:Option Value}
end
end L2
namespace L2
open PySem PySem.Spec PyProof.Rows Builtin.ObjectAttr DL
section
variable {X:Cx} {pins:List (Addr×Obj)} {σ:St} {H:Hp} {s:Shared} {C f a t:Addr} {name:Str}
end
end L2
namespace L2
open PySem PySem.Spec PyProof.Rows Builtin.ObjectAttr DL
section
variable {P:Program} {w:World} {K:PySem.W.Frag} {mg:Str->Option Value} {base:Heap} {C f:Addr} {name sn nn qual:Str} {st:Stmt} {fd:FuncData} {p1 p2 p3 p4:Pos}
end
end L2
namespace DL
open PySem PySem.Spec PyProof.Rows L2
section
variable {X:Cx} {mk:Prop} {ρ:Aj} {O:Af} {e:Expr} {d:D} {RX:XC} {pos np cpos:Pos} {x name:Str} {P:Bf} {C:Addr} {k:Nat}
end
end DL
namespace L2
open PySem PySem.Spec PyProof.Rows Builtin.ObjectAttr
section
variable {prog:Program} {w:World} {A:Around} {E:Value->Shared->Prop} {s:Shared} {K:PySem.W.Frag} {x C:Addr} {n:Str} {ox od:Obj} {u:Value}
end
end L2
namespace DL
open PySem PySem.Spec PyProof.Rows L2
section
variable {X:Cx} {ρ:Aj} {O:Af} {e:Expr} {d:D} {pos:Pos} {f:Str} {C:Addr} {q:Nat} {fs:List (Str×D)}
end
section
variable {P:Program} {w:World} {K:PySem.W.Frag} {mg:Str->Option Value} {base:Heap} {C:Addr} {k:Nat} {x m:Str} {sp:SpX}
end
end DL
namespace L2
open PySem PySem.Spec PyProof.Rows
end L2
namespace DL
open PySem PySem.Spec PyProof.Rows L2
section
variable {X:Cx} {O:Af}
end
section
variable {X:Cx} {mk:Prop} {ρ:Aj} {O:Af} {P:Bf} {RX:XC} {pos:Pos}
end
section
variable {X:Cx} {O:Af} {da db ea eb:D} {k:Nat} {v:Value}
end
section
variable {X:Cx} {ρ:Aj} {O:Af} {value o ix:Expr} {P:Bf} {pos tpos:Pos} {q j:Nat} {i:Int} {xs:List D}
end
end DL
namespace L2
open PySem PySem.Spec PyProof.Rows
def JN (n:Int):Str:=if n=1 then "0" else ⟨(List.replicate n.toNat (("0" : Str).cps)).foldl (·++·) #[]⟩
end L2
namespace DL
open PySem PySem.Spec PyProof.Rows L2
section
variable {X:Cx} {ρ:Aj} {O:Af} {a e:Expr} {d:D}
end
section
variable {X:Cx} {ρ:Aj} {O:Af} {elt tg iter:Expr} {ifs:List Expr} {scope:Scope} {pos:Pos} {xs:List D} {zs:List (Option D)}
end
section
variable {X:Cx} {ρ:Aj} {O:Af} {P:Bf} {pos:Pos}
variable {α:Type} {ps:List α} {f g:α->D} {h:α->Option D} {tg iter elt:Expr} {ifs:List Expr} {scope:Scope}
end
section
variable {P:Program} {w:World} {K:PySem.W.Frag} {mg:Str->Option Value} {base:Heap}
end
section
variable {prog:Program} {w:World} {A:Around} {E:Value->Shared->Prop} {s:Shared}
end
section
variable {X:Cx} {O:Af}
end
section
variable {X:Cx} {mk:Prop} {ρ:Aj} {O:Af} {value o:Expr} {RX:XC} {pos pos':Pos} {f:Str} {P:Bf} {C:Addr} {q:Nat} {fs:List (Str×D)}
end
end DL
namespace DL
open PySem PySem.Spec PyProof.Rows L2 PySem.SeqAt PySem.MeetsSeq
section
variable {X:Cx} {ρ:Aj} {O:Af} {a e:Expr} {d:D}
end
end DL
namespace DL
open PySem PySem.Spec PyProof.Rows L2 PySem.W
section
variable {prog:Program} {w:World} {A:Around} {s:Shared} {E:Value->Shared->Prop} {it:Addr} {Ty:String}
end
section
variable {prog:Program} {w:World} {A:Around} {s:Shared} {E:Value->Shared->Prop} {it l:Addr} {i:Int}
end
section
variable {X:Cx} {ρ:Aj} {O:Af} {a:Expr} {pos p pos2 p2:Pos} {xs:List D}
end
end DL
namespace L2
open PySem PySem.Spec PyProof.Rows
section
variable {X:Cx} {tg a b c:Expr} {p pos:Pos}
end
end L2
namespace DL
open PySem PySem.Spec PyProof.Rows L2
section
variable {X:Cx} {ρ:Aj} {O:Af} {a b c:Expr} {p pos:Pos} {P:Bf} {st:Stmt} {rest:List Stmt}
end
section
variable {X:Cx} {ρ:Aj} {O:Af} {a b e:Expr} {pos:Pos} {P:Bf} {d da db ea eb:D} {k:Nat} {xs:List D}
end
def Nq (x:Str):It:=⟨λi _=>i<x.cps.size,λi H v H'=>H'=H/\∃ c,x.cps[i]?=some c/\v=.str ⟨#[c]⟩,λi _=>x.cps.size<=i⟩
theorem SG {P:Program} {w:World} {K:PySem.W.Frag} {tg:Expr} (it:Addr) (x:Str) (t:Tok) (ty:String) (hty:ty = "str_ascii_iterator" \/ ty = "str_iterator"):EL P w K tg (Nq x) [it] it (λi h=>h.IsStrIter it ty x t i) where
 mem:=by simp
 obj:=λi h st b hb=>by
  have e:b=it:=by simpa using hb
  subst e
  obtain ⟨o,e,c,d⟩:=st
  exact ⟨o,e,λv z=>by rw [d] at z; cases z⟩
 keep:=λi h h' st k=>let ⟨o,ho,r⟩:=st; ⟨o,k it (by simp) o ho,r⟩
 item:=by
  intro X hP hw hK hc i pins s σ H E I hf st hg
  subst hP hw hK
  have hg:i<x.cps.size:=hg
  have hx:x.cps[i]?=some x.cps[i]:=by simp [hg]
  have fin:∀ (h':Heap) (tk:Nat) (u:Tok),h'.IsStrIter it ty x t (i+1)->Heap.SameBut it s.heap h'->∃ v,some (Value.str ⟨#[x.cps[i]]⟩ u)=some v /\
    wpAny (model X.prog X.w) X.A (letOwnedTupleGo tg (.ref it) v) (λ_ s2=>∃ y H',Inv X pins σ H' s2/\AR y v/\(Nq x).yld i H y H'/\s2.heap.IsStrIter it ty x t (i+1)/\∀ b∈[it],H' b=none) E { s with heap:=h',toks:=tk }:=λh' tk u st' sb=>by
   have I1:Inv X pins σ H { s with heap:=h',toks:=tk }:=FO I hf λc o hc e=>(sb.2 c (λz=>hc (by simp [z]))).trans e
   obtain ⟨o,e1,c1,d1⟩:=id st'
   exact ⟨_,rfl,IY (s:={ s with heap:=h',toks:=tk }) e1 c1 d1 (by rcases hty with rfl | rfl <;> decide) ⟨.str ⟨#[x.cps[i]]⟩,H,I1,⟨_,rfl⟩,⟨rfl,_,hx,rfl⟩,st',λb hb=>(hf b hb).1⟩⟩
  rcases hty with rfl | rfl
  ·exact wpAny_pyNext_ascii_item st hx λh' st' sb=>fin h' _ _ st' sb
  ·exact wpAny_pyNext_wide_item st hx λh' st' sb=>fin h' _ _ st' sb
 done:=by
  intro X hP hw hK hc i pins s σ H E I hf st hg
  subst hP hw hK
  have hg:x.cps.size<=i:=hg
  have hx:x.cps[i]?=none:=by simp; omega
  rcases hty with rfl | rfl
  ·exact wpAny_pyNext_ascii_end (I.ok.hd hc) st hx λh' eb=>⟨rfl,FO (t':=s.toks) I hf λc o hc e=>eb c o (λz=>hc (by simp [z])) e⟩
  ·exact wpAny_pyNext_wide_end (I.ok.hd hc) st hx λh' eb=>⟨rfl,FO (t':=s.toks) I hf λc o hc e=>eb c o (λz=>hc (by simp [z])) e⟩
 self:=λ_ _ _ _ _ st h=>by
  rcases hty with rfl | rfl
  ·exact wpAny_pyIter_striter_ascii st h
  ·exact wpAny_pyIter_striter_wide st h
section
variable {X:Cx} {ρ:Aj} {O:Af} {a b e:Expr} {pos p:Pos} {d:D} {x y:Str}
def GU (c:Nat):D:=.str ⟨#[c]⟩
theorem Ze {K:PySem.W.Frag} {G:Wd}:DJ K G (Nq x) (x.cps.toList.map GU) where
 go:=λi H _ hi=>show i<x.cps.size by simpa using hi
 stop:=λi H _ hi=>show x.cps.size<=i by simpa using hi
 yld:=λi v H H' G2 O2 e s y hi=>by
  obtain ⟨rfl,c,hc,rfl⟩:=y
  exact ⟨GU c,G2,by rw [List.getElem?_map]; simp [hc],Ag.refl _,s,.str _⟩
theorem Q0C {tg:Expr} (h:Ac X ρ O e (.str x)):Ce X ρ O tg e (x.cps.toList.map GU):=λG pins s σ H R I ⟨h1,h2,h3⟩=>
 Az (h G pins s σ H (λv H'=>∃ G',Ag G G'/\SA X.K G' H' O/\Is X.K G' (.str x) v) I ⟨h1,h2,λv G' H' e s i=>⟨G',e,s,i⟩⟩) λu s1 ⟨v,H1,I1,r,G1,e1,sa1,i1⟩=>by
  cases i1
  obtain ⟨t,rfl⟩:=(show ∃ t,u=Value.str x t from r)
  have fin:∀ (ty:String),(ty = "str_ascii_iterator" \/ ty = "str_iterator")->JB X pins σ tg R (.ref s1.heap.objs.size) { s1 with heap:=s1.heap.push { cls:=.type ty,data:=.fields #[.str x t,.int ((0:Nat):Int) 0] } }:=λty hty=>
   ⟨s1.heap.objs.size,[s1.heap.objs.size],_,_,H1,rfl,I1.kept (t':=s1.toks) λ_ _ e=>Heap.get?_push_of_some _ e,SG _ x t ty hty,⟨_,Heap.get?_push_size _ rfl,rfl,rfl⟩,λb hb=>by
    have hb':s1.heap.objs.size<=b:=by cases List.mem_singleton.mp hb; exact Nat.le_refl _
    exact I1.fpOk hb' (I1.hok.fresh hb'),h3 _ G1 H1 e1 sa1 Ze⟩
  cases ha:x.cps.all (· < 128)
  ·exact wpAny_pyIter_wide ha (fin _ (.inr rfl))
  ·exact wpAny_pyIter_ascii ha (fin _ (.inl rfl))
theorem Ql (hz:x.length+y.length<=sizeLine):Bg X O (binaryOp .Add) (.str x) (.str y) (.str (x++y)):=.of Wr λG v u H Q s h1 h2 k=>by
 cases h1; cases h2; exact ⟨x,y,rfl,rfl,hz,k _ G H (Ag.refl _) s (.str _)⟩
theorem Jt:Bg X O (compareOp .Eq) (.str x) (.str y) (.bl (x==y)):=.of Qg λG v u H Q s h1 h2 k=>by
 cases h1; cases h2; exact ⟨rfl,by rw [Jp]; exact k _ G H (Ag.refl _) s (.bl _)⟩
theorem MR:Bg X O (compareOp .NotEq) (.str x) (.str y) (.bl (!(x==y))):=.of Qf λG v u H Q s h1 h2 k=>by
 cases h1; cases h2; exact ⟨rfl,by rw [Jp]; exact k _ G H (Ag.refl _) s (.bl _)⟩
theorem Q1h {c:Nat}:Bg X O (compareOp .In) (GU c) (.str y) (.bl (decide (c∈y.cps.toList))):=.of Wl λG v u H Q s h1 h2 k=>by
 cases h1; cases h2
 refine ⟨_,y,rfl,rfl,?_⟩
 rw [StrLaws.found_one]
 exact k _ G H (Ag.refl _) s (.bl _)
theorem Ju (hz:x.length<=sizeLine):BR X O (.builtin "len") [.str x] (.int x.length):=.of Q1w λG vs H Q s is k=>by
 cases is with | cons i r=>cases r; cases i; exact ⟨x,rfl,hz,k _ G H (Ag.refl _) s (.int _)⟩
theorem Hy {i:Int} (h:-(2 ^ 62)<i/\i<2 ^ 62):BR X O (.type "str") [.int i] (.str (Str.ofString (toString i))):=λG pins s σ H xs us Q I r ⟨h1,h2,h3⟩=>by
 cases h2 with
 | cons i2 r2=>
  cases r2
  cases i2
  obtain ⟨u,rfl,t,rfl⟩:=Dz r
  refine PySem.P.str_of_int ?_ ⟨.str _,H,I.tok _,⟨_,rfl⟩,h3 _ G H (Ag.refl _) h1 (.str _)⟩
  have:i.natAbs<2 ^ 62:=by omega
  by_cases h0:i.natAbs=0
  ·rw [h0]; decide
  ·exact (Nat.log2_lt h0).mpr (Nat.lt_of_lt_of_le (show i.natAbs<2 ^ 62 by omega) (Nat.pow_le_pow_right wE wE))
theorem MZ {n:Int} (h:PySem.intText? x=some n) (hl:x.length<=640):BR X O (.type "int") [.str x] (.int n):=λG pins s σ H xs us Q I r ⟨h1,h2,h3⟩=>by
 cases h2 with
 | cons i2 r2=>
  cases r2
  cases i2
  obtain ⟨u,rfl,t,rfl⟩:=Dz r
  exact PySem.W.KIN.call_text h hl ⟨.int _,H,I.tok _,⟨_,rfl⟩,h3 _ G H (Ag.refl _) h1 (.int _)⟩
theorem Q0f {i c:Nat} (ha:Ac X ρ O a (.str x)) (hb:Ac X ρ O b (.int (i:Nat))) (hi:x.cps[i]?=some c) (hz:x.length<=sizeLine) (hs:RW b:=by intro _ _; rfl):Ac X ρ O (.Subscript a b pos) (GU c):=λG=>
 PE.imp (V3 (ha G) (tb:=λσ H Q=>∃ G1,SA X.K G1 H O/\AF X.K G1 σ ρ/\∀ v G' H',Ag G1 G'->SA X.K G' H' O->Is X.K G' (.int (i:Nat)) v->Q v H') (λpins s σ H Q I ⟨G1,q⟩=>hb G1 pins s σ H Q I q) hs) λσ H Q ⟨q1,q2,q3⟩=>⟨q1,q2,λv G1 H1 e1 s1 i1=>⟨G1,s1,q2.ext e1,λw G2 H2 e2 s2 i2=>by
  cases i1; cases i2
  have hl:i<x.length:=(Array.getElem?_eq_some_iff.mp hi).1
  have hn:=sizeLine_eq
  exact ⟨x,_,c,rfl,rfl,by omega,by omega,by omega,hi,q3 _ G2 H2 (e1.trans e2) s2 (.str _)⟩⟩⟩
end
theorem N7:∀ {ys:List Str} {us:List Value},AD (ys.map V.str) us->∃ l:List (Str×Tok),us=strValues l/\l.map (·.1)=ys
 | [],_,.nil=>⟨[],rfl,rfl⟩
 | y::ys,_,.cons r t=>by
  obtain ⟨k,rfl⟩:=r
  obtain ⟨l,rfl,e⟩:=N7 t
  exact ⟨(y,k)::l,rfl,by rw [List.map_cons,e]⟩
theorem NM:∀ l:List (Str×Tok),AD ((l.map (·.1)).map V.str) (strValues l)
 | []=>.nil
 | (y,k)::l=>.cons ⟨k,rfl⟩ (NM l)
theorem Am.strs {K:PySem.W.Frag} {G:Wd}:∀ {ys:List Str},Am K G (ys.map D.str) (ys.map V.str)
 | []=>.nil
 | y::ys=>.cons (.str y) Am.strs
theorem Am.toStrs {K:PySem.W.Frag} {G:Wd}:∀ {ys:List Str} {vs:List V},Am K G (ys.map D.str) vs->vs=ys.map V.str
 | [],_,.nil=>rfl
 | y::ys,_,.cons h r=>by cases h; rw [Am.toStrs r]; rfl
section
variable {X:Cx} {ρ:Aj} {O:Af} {a b e:Expr} {pos p:Pos} {d:D} {x y sep:Str}
def Ve (K:PySem.W.Frag):V->List V->Hp->VK->Prop:=λx vs H Q=>∃ (sep:Str) (ys:List Str) (p:Addr),x=.str sep/\vs=[.ref p]/\A9 K H p (ys.map V.str)/\JoinOk sep ys=true/\Q (.str (Str.join sep ys)) H
theorem Yy:Nk X "str.join" (Ve X.K):=by
 intro pins s σ H x vs v us Q I rx rv h
 obtain ⟨sep,ys,p,rfl,rfl,hq,hok,q⟩:=h
 obtain ⟨t,rfl⟩:=rx
 obtain ⟨u,rfl,ru⟩:=rv.one
 cases ru
 obtain ⟨its,r,pl,hz⟩:=I.list hq
 obtain ⟨l,rfl,rfl⟩:=N7 r
 have hok':Builtin.Str.tooLong ((l.map (·.1)).toArray.foldl (·+·.length+sep.length) 0)=false:=by unfold JoinOk at hok; rw [Bool.not_eq_true'] at hok; exact hok
 refine call_meets PySem.F.slot_str_join (typeIs_str _ _ _) PySem.F.entry_str_join (PySem.F.args_str_join_2 _ _) (meets_str_join_list sep t p l hok') ⟨pl.isList,post_join l ⟨joinFit_length hok',λt' k=>?_⟩⟩
 refine ⟨.str _,H,I.tok _,⟨_,rfl⟩,?_⟩
 rw [show Txt.join sep (l.map (·.1))=Str.join sep (l.map (·.1)) from StrLaws.glued_eq_join sep _]
 exact q
theorem Jj {ys:List Str} {apos cpos:Pos} (ho:Ac X ρ O a (.str sep)) (he:Ac X ρ O e d) (hl:LV O d (ys.map D.str)) (hok:JoinOk sep ys=true)
  (hbase:attributeBase a ("join" : Str) X.env (eval a X.env)=eval a X.env:=by rfl) (hline:(apos.endLine==cpos.line)=true:=by rfl) (hst:starEach [e] X.env=[(false,eval e X.env)]:=by rfl) :
  Ac X ρ O (.Call (.Attribute a ("join" : Str) apos) [e] [] cpos) (.str (Str.join sep ys)):=λG=>
 PE.imp (Mg PySem.F.plainAttrs_str PySem.F.slot_str_join PySem.F.type_str_join Yy (ho G)
  (Fr (te:=λσ H Q=>∃ G1,SA X.K G1 H O/\AF X.K G1 σ ρ/\∀ v G' H',Ag G1 G'->SA X.K G' H' O->Is X.K G' d v->Q v H') (λpins s σ H Q I ⟨G1,q⟩=>he G1 pins s σ H Q I q) He hst) hbase
  (by rw [hst]; rfl) hline hst (by rfl)) λσ H Q ⟨q1,q2,q3⟩=>⟨q1,q2,λv G1 H1 e1 s1 i1=>by
   cases i1
   refine ⟨rfl,G1,s1,q2.ext e1,λw G2 H2 e2 s2 i2=>?_⟩
   obtain ⟨p,vs,rfl,g1,g2⟩:=hl.sq s2 i2
   have:=g2.toStrs
   subst this
   exact ⟨sep,ys,p,rfl,rfl,g1,hok,q3 _ G2 H2 (e1.trans e2) s2 (.str _)⟩⟩
def Vb:V->List V->Hp->VK->Prop:=λx vs H Q=>∃ t y:Str,x=.str t/\vs=[.str y]/\(y.length==0)=false/\t.length<=1000000/\∀ l,H l=none->Q (.ref l) (AI H l (.lst ((Txt.split t y).map V.str)))
theorem Yx:Nk X "str.split" Vb:=by
 intro pins s σ H x vs v us Q I rx rv h
 obtain ⟨z,y,rfl,rfl,hy,hz,q⟩:=h
 obtain ⟨t,rfl⟩:=rx
 obtain ⟨u,rfl,ru⟩:=rv.one
 obtain ⟨tu,rfl⟩:=ru
 have hn:=sizeLine_eq
 have hle:=split_le z y
 have fin:∀ (l:List (Str×Tok)) (tk:Nat),l.map (·.1)=Txt.split z y->EP X pins σ Q (.ref s.heap.objs.size) { s with heap:=s.heap.push { cls:=.type "list",data:=.seq (strValues l).toArray },toks:=tk }:=λl tk e=>by
  have hl:l.length=(Txt.split z y).length:=by rw [<- e,List.length_map]
  refine ⟨.ref s.heap.objs.size,AI H s.heap.objs.size (.lst ((Txt.split z y).map V.str)),I.laid (λb o e=>Heap.get?_push_of_some _ e) (Nat.le_refl _) ⟨by rw [List.length_map]; omega,strValues l,0,by rw [<- e]; exact NM l,Heap.get?_push_size _ rfl⟩,rfl,q _ (I.hok.fresh (Nat.le_refl _))⟩
 cases h1:(decide (z.length<y.length)||decide (Builtin.Str.strKind z<Builtin.Str.strKind y))
 ·cases hf:(Builtin.Str.occurrences z y 0 z.length (z.length+1)).isEmpty
  ·have es:Txt.split z y=Builtin.Str.partsBetween z (Builtin.Str.occurrences z y 0 z.length (z.length+1)) y.length:=by
    unfold Txt.split
    rw [if_neg (by rw [h1]; exact Bool.false_ne_true),if_neg (by rw [hf]; exact Bool.false_ne_true)]
   refine call_meets PySem.F.slot_str_split (typeIs_str _ _ _) PySem.F.entry_str_split (PySem.F.args_str_split_2 _ _) (meets_str_split_sep z y t tu h1 hy hf wF (by rw [<- es]; omega)) ?_
   show wants _ _ _ { s with toks:=_,heap:=s.heap.push { cls:=.type "list",data:=.seq (strsFrom s.toks _).toArray } }
   rw [strsFrom_eq]
   exact fin _ _ ((numbered_texts _ _).trans es.symm)
  ·have es:Txt.split z y=[z]:=by
    unfold Txt.split
    rw [if_neg (by rw [h1]; exact Bool.false_ne_true),if_pos hf]
   exact call_meets PySem.F.slot_str_split (typeIs_str _ _ _) PySem.F.entry_str_split (PySem.F.args_str_split_2 _ _) (meets_str_split_not_found z y t tu h1 hy hf) (fin [(z,t)] s.toks es.symm)
 ·have es:Txt.split z y=[z]:=by
   unfold Txt.split
   rw [if_pos h1]
  exact call_meets PySem.F.slot_str_split (typeIs_str _ _ _) PySem.F.entry_str_split (PySem.F.args_str_split_2 _ _) (meets_str_split_cannot_occur z y t tu h1) (fin [(z,t)] s.toks es.symm)
theorem Q6 {apos cpos:Pos} (ho:Ac X ρ O a (.str x)) (he:Ac X ρ O e (.str y)) (hy:(y.length==0)=false) (hz:x.length<=1000000)
  (hbase:attributeBase a ("split" : Str) X.env (eval a X.env)=eval a X.env:=by rfl) (hline:(apos.endLine==cpos.line)=true:=by rfl) (hst:starEach [e] X.env=[(false,eval e X.env)]:=by rfl) :
  Ac X ρ O (.Call (.Attribute a ("split" : Str) apos) [e] [] cpos) (.lst ((Txt.split x y).map D.str)):=λG=>
 PE.imp (Mg PySem.F.plainAttrs_str PySem.F.slot_str_split PySem.F.type_str_split Yx (ho G)
  (Fr (te:=λσ H Q=>∃ G1,SA X.K G1 H O/\AF X.K G1 σ ρ/\∀ v G' H',Ag G1 G'->SA X.K G' H' O->Is X.K G' (.str y) v->Q v H') (λpins s σ H Q I ⟨G1,q⟩=>he G1 pins s σ H Q I q) He hst) hbase
  (by rw [hst]; rfl) hline hst (by rfl)) λσ H Q ⟨q1,q2,q3⟩=>⟨q1,q2,λv G1 H1 e1 s1 i1=>by
   cases i1
   refine ⟨rfl,G1,s1,q2.ext e1,λw G2 H2 e2 s2 i2=>?_⟩
   cases i2
   refine ⟨x,y,rfl,rfl,hy,hz,λl hl=>?_⟩
   obtain ⟨e3,s3⟩:=s2.laid (o:=.lst ((Txt.split x y).map V.str)) hl
   exact q3 _ _ _ (e1.trans (e2.trans e3)) s3 (.lst BF Am.strs)⟩
end
theorem Hj (c:Nat):∀ (w:Str) (ws:List Str),(Str.join ⟨#[c]⟩ (w::ws)).cps.toList=w.cps.toList++(ws.map λv=>c::v.cps.toList).flatten
 | w,[]=>by show w.cps.toList=w.cps.toList++[]; rw [List.append_nil]
 | w,v::ws=>by
  show (w++⟨#[c]⟩++Str.join ⟨#[c]⟩ (v::ws)).cps.toList=_
  rw [Str.cps_append,Str.cps_append,Array.toList_append,Array.toList_append,Hj c v ws,List.map_cons,List.flatten_cons]
  simp
theorem MP {c:Nat}:∀ {a b:List Nat} {x y:List (List Nat)},c∉a->c∉b->(∀ v∈x,c∉v)->(∀ v∈y,c∉v)->a++(x.map λv=>c::v).flatten=b++(y.map λv=>c::v).flatten->a=b/\x=y
 | [],[],[],[],_,_,_,_,_=>⟨rfl,rfl⟩
 | [],[],[],v::y,_,_,_,_,h=>by simp at h
 | [],[],v::x,[],_,_,_,_,h=>by simp at h
 | [],[],v::x,u::y,_,_,hx,hy,h=>by
  have h:v++(x.map λv=>c::v).flatten=u++(y.map λv=>c::v).flatten:=by simpa using h
  obtain ⟨e1,e2⟩:=MP (hx v List.mem_cons_self) (hy u List.mem_cons_self) (λz hz=>hx z (List.mem_cons_of_mem _ hz)) (λz hz=>hy z (List.mem_cons_of_mem _ hz)) h
  exact ⟨rfl,by rw [e1,e2]⟩
 | [],q::b,[],y,_,_,_,_,h=>by simp at h
 | [],q::b,v::x,y,_,hb,_,_,h=>by
  simp at h
  exact absurd (h.1 ▸ List.mem_cons_self) hb
 | p::a,[],x,[],_,_,_,_,h=>by simp at h
 | p::a,[],x,v::y,ha,_,_,_,h=>by
  simp at h
  exact absurd (h.1 ▸ List.mem_cons_self) ha
 | p::a,q::b,x,y,ha,hb,hx,hy,h=>by
  have h1:p=q/\a++(x.map λv=>c::v).flatten=b++(y.map λv=>c::v).flatten:=by simpa using h
  obtain ⟨e1,e2⟩:=MP (λz=>ha (List.mem_cons_of_mem _ z)) (λz=>hb (List.mem_cons_of_mem _ z)) hx hy h1.2
  exact ⟨by rw [h1.1,e1],e2⟩
theorem Oh (c:Nat) (w:Str) (ws:List Str) (h:∀ v∈w::ws,c∉v.cps.toList):Txt.split (Str.join ⟨#[c]⟩ (w::ws)) ⟨#[c]⟩=w::ws:=by
 have e:=StrLaws.join_split (Str.join ⟨#[c]⟩ (w::ws)) ⟨#[c]⟩
 have f:=StrLaws.split_free (Str.join ⟨#[c]⟩ (w::ws)) c
 have p:=split_pos (Str.join ⟨#[c]⟩ (w::ws)) ⟨#[c]⟩
 generalize Txt.split (Str.join ⟨#[c]⟩ (w::ws)) ⟨#[c]⟩=vs at e f p
 cases vs with
 | nil=>simp at p
 | cons v vs=>
  have e2:=congrArg (λs:Str=>s.cps.toList) e
  rw [Hj,Hj] at e2
  have m:∀ l:List Str,(l.map λv=>c::v.cps.toList)=(l.map λv=>v.cps.toList).map λv=>c::v:=λl=>by rw [List.map_map]; rfl
  rw [m,m] at e2
  obtain ⟨e3,e4⟩:=MP (f v List.mem_cons_self) (h w List.mem_cons_self) (λz hz=>by obtain ⟨u,hu,rfl⟩:=List.mem_map.mp hz; exact f u (List.mem_cons_of_mem _ hu)) (λz hz=>by obtain ⟨u,hu,rfl⟩:=List.mem_map.mp hz; exact h u (List.mem_cons_of_mem _ hu)) e2
  have inj:∀ a b:Str,a.cps.toList=b.cps.toList->a=b:=λa b z=>Str.ext' (Array.toList_inj.mp z)
  have inj2:∀ {a b:List Str},(a.map λv=>v.cps.toList)=(b.map λv=>v.cps.toList)->a=b:=λ{a}=>by
   induction a with
   | nil=>intro b z; cases b with
    | nil=>rfl
    | cons _ _=>simp at z
   | cons u a ih=>intro b z; cases b with
    | nil=>simp at z
    | cons u' b=>
     simp only [List.map_cons,List.cons.injEq] at z
     rw [inj _ _ z.1,ih z.2]
  rw [inj _ _ e3,inj2 e4]
section
variable {X:Cx} {ρ:Aj} {O:Af} {pos:Pos} {x y:Str}
theorem Gr {t:Tok} (hm:X.mg x=some (.str y t)) (hg:Gl X x:=by rfl) (hd:(x==("__debug__" : Str))=false:=by decide):Ac X ρ O (.Name x pos) (.str y):=λG=>
 PE.imp (Mf (v:=.str y) hg hm ⟨t,rfl⟩ hd) λσ H Q ⟨h1,h2,h3⟩=>h3 _ G H (Ag.refl _) h1 (.str y)
end
theorem joinOk_of {sep:Str} {ys:List Str} (h:(ys.map (·.length)).sum+ys.length*sep.length<=1000000):JoinOk sep ys=true:=by
 unfold JoinOk
 rw [Bool.not_eq_true',StrLaws.joinTotal]
 show decide (_>sizeLine)=false
 rw [sizeLine_eq]
 exact decide_eq_false wF
theorem QJ (sep:Str) (ys:List Str):(Str.join sep ys).length<=(ys.map (·.length)).sum+ys.length*sep.length:=StrLaws.join_length_le sep ys
theorem Fk {α:Type} {g:α->Nat} {B:Nat}:∀ {l:List α},(∀ a∈l,g a<=B)->(l.map g).sum<=l.length*B
 | [],_=>by simp
 | a::l,h=>by
  rw [List.map_cons,List.sum_cons,List.length_cons,Nat.succ_mul]
  have h1:=h a List.mem_cons_self
  have h2:=Fk (l:=l) λb hb=>h b (List.mem_cons_of_mem _ hb)
  omega
end DL
namespace L2
open PySem PySem.Spec PyProof.Rows
section
variable {prog:Program} {w:World} {A:Around} {E:Value->Shared->Prop}
end
end L2
namespace DL
open PySem PySem.Spec PyProof.Rows L2
section
variable {X:Cx} {ρ ρ1:Aj} {O:Af} {e a b:Expr} {es:List Expr} {d da:D} {ds xs:List D} {R:D->Af->Prop} {P:Bf} {pos p:Pos} {x:Str} {q:Nat} {v:Value}
end
section
variable {X:Cx} {ρ:Aj} {O:Af} {e a b c:Expr} {d da db y:D} {ks:List AY} {xs:List D} {k:AY} {j q:Nat} {R:D->Af->Prop} {P:Bf} {pos apos cpos tpos:Pos}
end
section
variable {X:Cx} {ρ:Aj} {O:Af} {a b e:Expr} {pos p:Pos} {d:D} {ks:List AY} {xs:List D}
end
section
variable {X:Cx} {ρ:Aj} {O:Af} {a b e:Expr} {elts:List Expr} {x1:Nat} {pos p tp apos cpos:Pos} {d:D} {ks:List AY} {xs:List D}
end
mutual
def sbD (n:Nat) (e:D):D->D
 | .ptr m=>if m=n then e else .ptr m
 | .tup xs=>.tup (Pm n e xs)
 | .non=>.non | .bl b=>.bl b | .int i=>.int i | .str x=>.str x | .lst xs=>.lst xs | .scr xs=>.scr xs | .ty t=>.ty t | .fn a=>.fn a | .dct ks xs=>.dct ks xs
def Pm (n:Nat) (e:D):List D->List D
 | []=>[]
 | x::xs=>sbD n e x::Pm n e xs
end
section
variable {X:Cx} {ρ:Aj} {O:Af} {rest:List Stmt} {P:Bf} {n q:Nat} {ks:List AY} {xs:List D} {d:D} {C:Addr} {fs:List (Str×D)} {f:Str}
end
end DL
namespace DL
open PySem PySem.Spec PyProof.Rows L2 PySem.W
section
variable {prog:Program} {w:World} {A:Around} {s:Shared} {E:Value->Shared->Prop} {T:String} {r d:Addr} {n:Nat} {P:Nat->Value->Prop} {OK:Heap->Prop}
end
section
variable {X:Cx} {ρ:Aj} {O:Af} {a b e:Expr} {pos p apos cpos:Pos} {d da:D} {ks:List AY} {xs:List D} {R:D->Af->Prop}
end
instance:Inhabited Str:=⟨⟨#[]⟩⟩
section
variable {X:Cx} {ρ:Aj} {O:Af} {e:Expr} {pos p:Pos} {da:D} {ps:List Str} {xs:List D}
end
section
variable {X:Cx} {ρ:Aj} {O:Af} {a e:Expr} {pos apos cpos:Pos} {q:Nat} {ps:List Str} {x:Str} {P:Bf} {ks:List AY} {xs:List D}
end
section
variable {X:Cx} {ρ:Aj} {O:Af} {value o:Expr} {pos pos':Pos} {q:Nat} {C:Addr} {fs:List (Str×D)} {f:Str} {P:Bf}
theorem NC (hv:Ev X ρ O value λd O'=>Ac X ρ O' o (.ptr q)/\O'[q]?=some (some (.ins C fs))/\P.nx ρ (O'.set q (some (.ins C (A6 f d fs))))) (c:A5 X.K C) (n:Ap X.K C f) (hz:fs.length<1000) (hs:swapsWith value (some (.Attribute o f pos')) pos.line X.env=pure false:=by rfl) :
  Ex X ρ O (.Assign [.Attribute o f pos'] value pos) P:=λG pins s σ H E I ⟨h1,h2,h3⟩=>by
 refine plainObj_wpAny_Assign_Attribute (Az (hv G pins s σ H (λv H1=>∃ d O1 G1,Ag G G1/\SA X.K G1 H1 O1/\Is X.K G1 d v/\Ac X ρ O1 o (.ptr q)/\O1[q]?=some (some (.ins C fs))/\P.nx ρ (O1.set q (some (.ins C (A6 f d fs))))) I ⟨h1,h2,λv d O' G' H' e s i r=>⟨d,O',G',e,s,i,r⟩⟩) λu s1 ⟨y,H1,I1,ry,d,O1,G1,e1,sa1,i1,ho,hq,h⟩=>
  Az (ho G1 pins s1 σ H1 (λv H2=>∃ G2,Ag G1 G2/\SA X.K G2 H2 O1/\Is X.K G2 (.ptr q) v) I1 ⟨sa1,h2.ext e1,λv G' H' e s i=>⟨G',e,s,i⟩⟩) λov s2 ⟨x,H2,I2,rx,G2,e2,sa2,i2⟩=>?_) hs
 obtain ⟨a,dx,vs,rfl,g1,g2,g3⟩:=sa2.ins i2 hq
 obtain rfl:ov=Value.ref a:=rx
 refine Pa I2 g2 c n (by rw [<- g3.len]; exact hz) ry λs3 I3=>⟨σ,_,I3,?_⟩
 exact h3.nx σ ρ _ G2 _ (e1.trans e2) (sa2.put (m':=.ins C (A6 f d fs)) hq g1 ⟨dx,_,BF,g3.put (i1.ext e2)⟩) (h2.ext (e1.trans e2)) h
end
section
variable {X:Cx} {ρ:Aj} {O:Af} {e:Expr} {qs:List Str} {xs:List D}
end
section
variable {X:Cx} {ρ:Aj} {O:Af}
theorem Z7 {es:List Expr} {R:D->Af->Prop} {x1:Nat} {pos:Pos} (h:Ek X ρ O es λds O'=>ds.length<=sizeLine/\R (.tup ds) O'):Ev X ρ O (.Tuple es x1 pos) R:=λG=>
 PE.imp (P8 (h G)) λσ H Q ⟨h1,h2,h3⟩=>⟨h1,h2,λvs ds O1 G1 H1 e1 s1 i1 r1=>⟨by rw [<- i1.length]; exact r1.1,λp hp=>by
  obtain ⟨e2,s2⟩:=s1.laid (o:=.tup vs) hp
  exact h3 _ _ _ _ _ (e1.trans e2) s2 (.tup (Bv.of BF) (i1.ext e2)) r1.2⟩⟩
end
section
variable {X:Cx} {ρ:Aj} {O:Af} {a:Expr} {pos apos cpos:Pos} {q:Nat} {ks:List AY} {xs:List D} {P:Bf}
end
end DL
namespace L2
open PySem PySem.Spec PyProof.Rows
end L2
namespace DL
open PySem PySem.Spec PyProof.Rows L2
end DL
namespace DL
open PySem PySem.Spec PyProof.Rows L2 PySem.W
section
variable {X:Cx} {O:Af} {da db ea:D} {k:Nat} {xs:List D}
end
section
variable {X:Cx} {ρ:Aj} {O:Af} {a e:Expr} {pos apos cpos:Pos} {q:Nat} {xs:List D} {P:Bf}
end
section
variable {X:Cx} {ρ:Aj} {O:Af} {e a b c:Expr} {body:List Stmt} {d da db:D} {xs:List D} {ks:List AY} {ps:List Str} {R:D->Af->Prop} {P:Bf} {pos p:Pos} {j n:Nat}
end
section
variable {X:Cx} {ρ:Aj} {O:Af} {e a b c iter tg:Expr} {st:Stmt} {body rest:List Stmt} {d da db:D} {xs:List D} {ks:List AY} {k:AY} {ob:Obj} {vs:List V} {ps:List Str} {R:D->Af->Prop} {P:Bf} {pos p:Pos} {j n:Nat}
end
section
variable {X:Cx} {O:Af} {da db:D} {ks:List AY} {ns:List Int} {j:Nat}
end
section
variable {X:Cx} {ρ:Aj} {O:Af} {a:Expr} {da:D} {xs:List D} {ks:List AY} {pos:Pos}
end
mutual
def ndD:D->Bool
 | .dct _ _=>false
 | .tup xs=>IK xs
 | .lst xs=>IK xs
 | .scr xs=>IK xs
 | .non=>true | .bl _=>true | .int _=>true | .str _=>true | .ptr _=>true | .ty _=>true | .fn _=>true
def IK:List D->Bool
 | []=>true
 | x::xs=>ndD x&&IK xs
end
section
variable {K:PySem.W.Frag} {G:Wd} {p:Addr} {ob:Obj} {kvs:List (AY×V)}
end
section
variable {X:Cx} {ρ:Aj} {O:Af} {e a b:Expr} {d d0:D} {xs:List D} {ks:List AY} {k:AY} {R:D->Af->Prop} {pos:Pos} {n:Nat}
end
section
variable {X:Cx} {ρ:Aj} {O:Af} {a b:Expr} {d da db:D} {ks:List AY} {k:AY} {ns:List Int} {R:D->Af->Prop} {pos:Pos} {j:Nat}
end
section
variable {X:Cx} {ρ:Aj} {O:Af} {e a b:Expr} {d:D} {xs:List D} {ks:List AY} {R:D->Af->Prop} {RT:Bool->Af->Prop} {pos:Pos} {n:Nat}
end
end DL
namespace L2
open PySem PySem.Spec PyProof.Rows
section
variable {M:Model} {A:Around} {E:Value->Shared->Prop} {s:Shared} {B:Heap} {l:List Env} {a:Addr} {cls a0:Value}
end
section
variable {CX:Ds} {P:Program} {w:World} {K:PySem.W.Frag} {mg:Str->Option Value} {base:Heap} {N:List Str} {qual:Str} {scope:Scope} {f:Addr} {cd:Value} {A:Around} {outer:List Env} {s:Shared} {H:Hp} {E:XK}
end
end L2
namespace DL
open PySem PySem.Spec PyProof.Rows L2
section
variable {X:Cx} {N:List Str} {scope:Scope} {s2 s9 s10:Shared} {H2 H9 H':Hp} {fp:List Addr} {F:Value->Shared->Prop} {pins pinsY:List (Addr×Obj)} {σ σ9:L2.St} {a C:Addr} {od:Option Addr} {B:Heap} {Q:Value->Shared->Prop} {acc:Value}
end
section
variable {X:Cx} {ρ:Aj} {O:Af} {elt tg iter:Expr} {scope:Scope} {pos:Pos} {xs zs:List D} {RX:XC}
end
section
variable {X:Cx} {ρ:Aj} {O:Af} {e c elt tg iter:Expr} {scope:Scope} {pos p:Pos} {xs:List D} {RX:XC} {st:Stmt} {rest body orelse:List Stmt} {P:Bf} {R:D->Af->Prop}
end
section
variable {P:Program} {w:World} {K:PySem.W.Frag} {mg:Str->Option Value} {base:Heap}
end
section
variable {prog:Program} {w:World} {A:Around} {E:Value->Shared->Prop} {s:Shared}
end
section
variable {X:Cx} {O:Af} {d:D} {q:Nat} {C ah:Addr} {fs:List (Str×D)}
end
end DL
namespace L2
open PySem PySem.Spec PyProof.Rows
end L2
namespace DL
open PySem PySem.Spec PyProof.Rows L2
section
variable {X:Cx} {ρ:Aj} {O:Af} {a b a2 b2:Expr} {d d2:D} {k k2:AY} {R:D->Af->Prop} {pos:Pos}
end
end DL
namespace DL
open PySem PySem.Spec PyProof.Rows L2 PySem.W
section
open PySem.AutoSeq1 (wpAny_loadPart')
open PySem.SeqAt PySem.MeetsSeq PySem.MeetsSeq2 PySem.MeetsSeq3 PySem.SeqRoads2
end
section
variable {X:Cx} {ρ:Aj} {O:Af} {da db:D} {ks:List AY} {ns:List Int} {j:Nat} {ts:List D}
end
end DL
namespace DL
open PySem PySem.Spec PyProof.Rows L2
section
variable {X:Cx} {ρ:Aj} {O:Af} {da ea:D} {xs:List D} {k:Nat} {es:List Expr} {R:D->Af->Prop} {pos:Pos}
end
section
variable {P:Program} {w:World} {K:PySem.W.Frag} {mg:Str->Option Value} {base:Heap} {C:Addr} {j k:Nat} {x m:Str} {sp sp':AH}
theorem Al.mono (M:Al P w K mg base C j m sp) (h:j<=k):Al P w K mg base C k m sp:=let ⟨f,fd,ps,h1,h2⟩:=M.ex; ⟨⟨f,fd,ps,h1.mono h,h2⟩,M.cls⟩
end
section
variable {X:Cx} {mk:Prop} {ρ:Aj} {O:Af} {x y:Str} {f:Addr} {p pos:Pos} {e:Expr} {es:List Expr} {ds:List D} {R:D->Af->Prop} {RX:XC}
end
end DL
set_option maxHeartbeats 2000000
namespace DL
open PySem PySem.Spec PyProof.Rows L2 PySem.W
section
variable {prog:Program} {w:World} {A:Around} {E:Value->Shared->Prop} {s:Shared} {n l1 l2 l3 i1 i2 i3:Nat} {k1 k2 k3:Bool} {xs ys zs:Array Value} {f0 f1 a b c v:Value}
end
section
variable {prog:Program} {w:World} {A:Around} {E:Value->Shared->Prop} {s:Shared} {n l1 l2 l3 i1 i2 i3 i:Nat} {k1 k2 k3:Bool} {xs ys zs:Array Value} {f0 f1 a b c v:Value}
end
section
variable {X:Cx} {ρ:Aj} {O:Af} {a b c:Expr} {da db dc:D} {pos p:Pos} {xs ys zs:List D}
end
end DL
set_option maxHeartbeats 1000000
namespace DL
open PySem PySem.Spec PyProof.Rows L2
section
variable {X:Cx} {ρ:Aj} {O:Af} {elt tg iter:Expr} {scope:Scope} {pos:Pos} {xs zs:List D}
theorem Q0Y (S:Nat->Af) (hS0:S 0=O) (N:List Str) (js:List Nat) (ρ0:Aj) (hi:Ce X ρ O tg iter xs) (hc:X.calm=true) (hk:scope.kind=.function) (hfr:HN X scope) (hnm:∀ x∈scope.names,x.2=.local->scope.names.lookup x.1=some .local)
  (hl0:ρ0.length=N.length)
  (h0:∀ (i:Nat) (d:D),ρ0[i]?=some (some d)->∃ (x:Str) (j:Nat),N[i]?=some x/\scope.names.lookup x=some .free/\(∀ y∈scope.names,y.1=x->y.2≠.cell)/\X.N[j]?=some x/\ρ[j]?=some (some d)/\EK X.env.scope x)
  (hzl:zs.length=xs.length) (hsz:xs.length<=sizeLine)
  (turn:∀ (s:Shared) (H:Hp) (fp:List Addr) (i:Nat) (x:D) (z:D),xs[i]?=some x->zs[i]?=some z->∃ ρ1,Tg (Dy X N scope s H fp) tg x ρ0 ρ1/\ρ1.length=ρ0.length/\(∀ (j:Nat) (d:D),ρ0[j]?=some (some d)->ρ1[j]?=some (some d))/\Ev (Dy X N scope s H fp) ρ1 (S i) elt λd O'=>d=z/\O'=S (i+1))
  {use:Option (Value->Sem Unit)} {pins:List (Addr×Obj)} {s:Shared} {σ:L2.St} {H:Hp} {G:Wd} {Q:Value->Shared->Prop} (I:L2.Inv X pins σ H s) (sa:SA X.K G H O) (en:AF X.K G σ ρ)
  (fin:∀ (D C:Addr) (s':Shared) (H5:Hp) (G5:Wd) (vs:List V),L2.Inv X pins σ (AI H5 D (.lst vs)) s'->Ag G G5->SA X.K G5 H5 (S xs.length)->H5 D=none->Am X.K G5 zs vs->Cl X pins (AI H5 D (.lst vs)) C->(∃ m,s'.heap.Ns C m)->compPost (model X.prog X.w) X.A X.xe use Q (.ref D) C (.ok .next) s')
  (hs:∀ x,foldedSetIterable iter X.env x=pure x:=by intro _; rfl) :
  wpAny (model X.prog X.w) X.A (comprehension (.ListComp elt [⟨tg,iter,[],0⟩] scope pos) scope X.env (firstIterPos [⟨tg,iter,[],0⟩] pos) (newList []) false (eval iter X.env) use) Q X.xe s:=by
 have efm:(zs.map some).filterMap id=zs:=by rw [List.filterMap_map]; exact List.filterMap_some
 refine Ru (zs:=zs.map some) S hS0 N js ρ0 hi hc hk hfr hnm hl0 h0 (by rw [List.length_map]; exact hzl) hsz (λs H fp i x z q1 q2=>?_) I sa en (λD C s' H5 G5 vs I5 e5 sa5 hD is5 f5 n5=>fin D C s' H5 G5 vs I5 e5 sa5 hD (by rw [efm] at is5; exact is5) f5 n5) hs
 rw [List.getElem?_map] at q2
 obtain ⟨y,hy,rfl⟩:=Option.map_eq_some_iff.mp q2
 obtain ⟨ρ1,t1,t2,t3,t4⟩:=turn s H fp i x y q1 hy
 exact ⟨ρ1,t1,t2,t3,y,rfl,t4⟩
def R6 (X:Cx) (T F:List Str) (js:List Nat) (ρ:Aj) (Oa Ob:Af) (scope:Scope) (tg elt:Expr) (x z:D):Prop:=
 ∀ (s:Shared) (H:Hp) (fp:List Addr),∃ ts:Aj,ts.length=T.length/\Tg (Dy X (T++F) scope s H fp) tg x (T.map (λ_=>(none:Option D))++CL ρ js) (ts++CL ρ js)/\Ev (Dy X (T++F) scope s H fp) (ts++CL ρ js) Oa elt λd O'=>d=z/\O'=Ob
theorem Q0k {R:D->Af->Prop} (S:Nat->Af) (hS0:S 0=O) (T F:List Str) (js:List Nat) (hi:Ce X ρ O tg iter xs) (hzl:zs.length=xs.length) (hsz:xs.length<=sizeLine) (turn:∀ (i:Nat) (x z:D),xs[i]?=some x->zs[i]?=some z->R6 X T F js ρ (S i) (S (i+1)) scope tg elt x z) (hR:R (.lst zs) (S xs.length))
  (hfl:F.length=js.length) (hB:Dk X.N X.env.scope.names scope.names F js=true) (hc:X.calm=true) (hk:scope.kind=.function) (hs:∀ x,foldedSetIterable iter X.env x=pure x) :
  Ev X ρ O (.ListComp elt [⟨tg,iter,[],0⟩] scope pos) R:=λG pins s σ H Q I ⟨h1,h2,h3⟩=>by
 rw [eval_ListComp]
 refine Q0Y S hS0 (T++F) js (T.map (λ_=>(none:Option D))++CL ρ js) hi hc hk (MA hB) (Mz hB) (by simp [CL,hfl]) (MB hB) hzl hsz (λs H fp i x z q1 q2=>?_) I h1 h2 (λdd C s' H5 G5 vs I' e' sa5 hd5 is5 fo ns=>?_) hs
 ·obtain ⟨ts,t1,t2,t3⟩:=turn i x z q1 q2 s H fp
  obtain ⟨u1,u2⟩:=J1 (fr:=CL ρ js) t1
  exact ⟨_,t2,u1,u2,t3⟩
 ·obtain ⟨m,hn⟩:=ns
  refine ⟨m,hn,λh' hs'=>?_⟩
  obtain ⟨f0,f1,f2,f3,f4,f5⟩:=fo
  obtain ⟨e2,s2⟩:=sa5.laid (o:=.lst vs) hd5
  exact ⟨.ref dd,AI H5 dd (.lst vs),I'.turned (t':=s'.toks) (λb o hb e=>(hs'.2 b hb).trans e) f0 f1 f3 f4 f5,rfl,h3 _ _ _ _ _ (e'.trans e2) s2 (.lst BF (is5.ext e2)) hR⟩
end
section
variable {X:Cx} {ρ:Aj} {O:Af} {e:Expr} {es:List Expr} {R:D->Af->Prop} {x:Str} {p pos:Pos}
theorem Q0m {T:String} (hm:X.mg x=none) (ha:Ek X ρ O (e::es) λds O1=>∃ d,BR X O1 (.type T) ds d/\R d O1) (hg:Gl X x:=by rfl) (hv:bootBuiltins x=some (.type T):=by first | rfl | decide +kernel) (hn:x ≠ "__name__" := by decide) (hdb:(x==("__debug__" : Str))=false:=by decide)
  (he:starEach (e::es) X.env=(false,eval e X.env)::starEach es X.env:=by rfl) (hpl:(backTo pos (starEach es X.env)).any (·.1)=false:=by rfl):Ev X ρ O (.Call (.Name x p) (e::es) [] pos) R:=λG=>
 PE.imp (Qc (r:=λvs H Q=>∃ G1 O1 ds d,SA X.K G1 H O1/\Am X.K G1 ds vs/\BR X O1 (.type T) ds d/\∀ w G' H',Ag G1 G'->SA X.K G' H' O1->Is X.K G' d w->Q w H') (λpins s σ H xs us Q I r ⟨G1,O1,ds,d,q1,q2,hc,q3⟩=>hc G1 pins s σ H xs us Q I r ⟨q1,q2,q3⟩) hg hm hv (ha G) hn hdb he hpl)
  λσ H Q ⟨h1,h2,h3⟩=>⟨h1,h2,λvs ds O1 G1 H1 e1 s1 i1 ⟨d,hc,hR⟩=>⟨G1,O1,ds,d,s1,i1,hc,λw G2 H2 e2 s2 i2=>h3 w d O1 G2 H2 (e1.trans e2) s2 i2 hR⟩⟩
end
section
variable {X:Cx} {ρ:Aj} {O:Af} {pos:Pos} {R:D->Af->Prop}
variable {α:Type} {ps:List α} {f:α->D} {tg iter elt:Expr} {scope:Scope}
theorem Q0j (g:Nat->D) (S:Nat->Af) (hS0:S 0=O) (T F:List Str) (js:List Nat) (hi:Ce X ρ O tg iter (ps.map f)) (hsz:ps.length<=sizeLine) (turn:∀ (i:Nat) (q:α),ps[i]?=some q->R6 X T F js ρ (S i) (S (i+1)) scope tg elt (f q) (g i)) (hR:R (.lst ((List.range ps.length).map g)) (S ps.length))
  (hfl:F.length=js.length:=by rfl) (hB:Dk X.N X.env.scope.names scope.names F js=true:=by first | rfl | decide +kernel) (hc:X.calm=true:=by rfl) (hk:scope.kind=.function:=by rfl) (hs:∀ x,foldedSetIterable iter X.env x=pure x:=by intro _; rfl) :
  Ev X ρ O (.ListComp elt [⟨tg,iter,[],0⟩] scope pos) R:=
 Q0k (zs:=(List.range ps.length).map g) S hS0 T F js hi (by rw [List.length_map,List.length_range,List.length_map]) (by rw [List.length_map]; exact hsz) (λi x z q1 q2=>by
  rw [List.getElem?_map] at q1 q2
  obtain ⟨q,hq,rfl⟩:=Option.map_eq_some_iff.mp q1
  obtain ⟨j,hj,rfl⟩:=Option.map_eq_some_iff.mp q2
  have hi:=(List.getElem?_eq_some_iff.mp hq).1
  rw [List.getElem?_range hi] at hj
  cases hj
  exact turn i q hq) (by rw [List.length_map]; exact hR) hfl hB hc hk hs
end
end DL
namespace DL
open PySem PySem.Spec PyProof.Rows L2 PySem.W
section
variable {X:Cx} {ρ:Aj} {O:Af} {e:Expr} {p p2 pos pos2:Pos}
variable {R:D->Af->Prop}
end
section
variable {X:Cx} {ρ:Aj} {O:Af} {e a b c:Expr} {body:List Stmt} {d da db:D} {xs:List D} {ks:List AY} {ps:List Str} {R:D->Af->Prop} {P:Bf} {pos p:Pos} {j n:Nat}
end
end DL
namespace DL
open PySem PySem.Spec PyProof.Rows L2
section
variable {X:Cx} {ρ:Aj} {O:Af} {e:Expr} {es:List Expr} {R:D->Af->Prop} {x:Str} {C:Addr} {p pos:Pos}
theorem Q0e {k:Nat} {sp:AH} (M:Cv X.prog X.w X.K X.mg X.base C k x sp) (hr:AL (k+1) X.A) (ha:Ek X ρ O (e::es) λds O1=>sp (.ptr O1.length::ds) (O1++[some (.ins C [])]) λd O'=>d=.non/\R (.ptr O1.length) O')
  (hg:Gl X x:=by rfl) (hdb:(x==("__debug__" : Str))=false:=by decide) (he:starEach (e::es) X.env=(false,eval e X.env)::starEach es X.env:=by rfl) (hpl:(backTo pos (starEach es X.env)).any (·.1)=false:=by rfl) :
  Ev X ρ O (.Call (.Name x p) (e::es) [] pos) R:=λG pins s σ H Q I ⟨h1,h2,h3⟩=>by
 obtain ⟨f,fd,ps,g1,g2,g3⟩:=M.ex
 refine P9 g2 g1 hr hg M.at_ g3 .nil Gf (ha G) hdb he hpl pins s σ H Q I ⟨h1,h2,λvs ds O1 G1 H1 e1 s1 i1 hs=>λy dx k1 k2 k3=>?_⟩
 obtain ⟨e2,s2⟩:=made (C:=C) s1 k1 k2 k3
 have iy:Is X.K ⟨G1.g,G1.l++[y]⟩ (.ptr O1.length) (.ref y):=.ptr _ (by rw [<- s1.len,List.getElem?_append_right (Nat.le_refl _),Nat.sub_self]; rfl)
 show AN X.K sp (V.ref y::(vs++[])) _ _ E0
 rw [List.append_nil]
 refine ⟨_,_,.ptr O1.length::ds,_,s2,.cons iy (i1.ext e2),hs,λv d O' G' H' e3 s3 i3 r3=>?_⟩
 obtain ⟨rfl,r⟩:=r3
 cases i3
 exact ⟨rfl,h3 _ _ O' G' H' ((e1.trans e2).trans e3) s3 (iy.ext e3) r⟩
end
end DL
set_option maxHeartbeats 4000000
namespace My
open PySem PySem.Spec PyProof.Rows L2 DL
def top (i:Nat):Stmt:=PySem.Challenge.pw_heedwise_k90_whole_from_a_text.main.body.getD i (.Pass ⟨0,0,0,0⟩)
abbrev KA:Stmt:=top 10
abbrev Q2g:List Str:=["what"]
theorem TW:Av Q2g ["what"] (An KA):=by constructor <;> first | rfl | decide +kernel
abbrev KG:Stmt:=top 11
abbrev Q2l:List Str:=["said","so"]
theorem T0:Av Q2l ["said","so"] (An KG):=by constructor <;> first | rfl | decide +kernel
abbrev Kz:Stmt:=top 12
abbrev Q2f:List Str:=["turns"]
theorem TV:Av Q2f ["turns"] (An Kz):=by constructor <;> first | rfl | decide +kernel
abbrev Lb:Stmt:=top 13
abbrev Q2O:List Str:=["most","word"]
theorem Ub:Av Q2O ["most","word"] (An Lb):=by constructor <;> first | rfl | decide +kernel
abbrev La:Stmt:=top 14
abbrev Q2N:List Str:=["scale","word"]
theorem Ua:Av Q2N ["scale","word"] (An La):=by constructor <;> first | rfl | decide +kernel
abbrev Lu:Stmt:=top 15
abbrev Q3g:List Str:=["many","scale","words"]
theorem Us:Av Q3g ["many","scale","words"] (An Lu):=by constructor <;> first | rfl | decide +kernel
abbrev KB:Stmt:=top 16
abbrev Q2h:List Str:=["word"]
theorem TX:Av Q2h ["word"] (An KB):=by constructor <;> first | rfl | decide +kernel
abbrev KH:Stmt:=top 17
abbrev Q2m:List Str:=["many","scale","number","row","words"]
theorem Pd:Av Q2m ["many","scale","number","row"] (An KH):=by constructor <;> first | rfl | decide +kernel
abbrev KI:Stmt:=top 18
abbrev Q2n:List Str:=["many","scale","text"]
theorem T1:Av Q2n ["many","scale","text"] (An KI):=by constructor <;> first | rfl | decide +kernel
abbrev K6:Stmt:=top 20
abbrev Q2J:List Str:=["value"]
theorem T6:Av Q2J ["value"] (An K6):=by constructor <;> first | rfl | decide +kernel
abbrev KL:Stmt:=top 21
abbrev Q2q:List Str:=["base","exponent","product","step"]
theorem Iu:Av Q2q ["base","exponent"] (An KL):=by constructor <;> first | rfl | decide +kernel
abbrev Lf:Stmt:=top 22
abbrev Q2S:List Str:=["weights"]
theorem Uf:Av Q2S ["weights"] (An Lf):=by constructor <;> first | rfl | decide +kernel
abbrev KP:Stmt:=top 23
abbrev Q2u:List Str:=["numbers","weights","shares","whole","reached","number","share"]
theorem Fp:Av Q2u ["numbers","weights"] (An KP):=by constructor <;> first | rfl | decide +kernel
abbrev Lg:Stmt:=top 30
abbrev Q2T:List Str:=["what","value","least","most"]
theorem Ug:Av Q2T ["what","value","least","most"] (An Lg):=by constructor <;> first | rfl | decide +kernel
abbrev Ll:Stmt:=top 31
abbrev Q2Y:List Str:=["scale"]
theorem Uk:Av Q2Y ["scale"] (An Ll):=by constructor <;> first | rfl | decide +kernel
abbrev Lp:Stmt:=top 32
abbrev Q3c:List Str:=["many","scale"]
theorem Uo:Av Q3c ["many","scale"] (An Lp):=by constructor <;> first | rfl | decide +kernel
abbrev Lq:Stmt:=top 33
abbrev Q3d:List Str:=["top","bottom"]
theorem Up:Av Q3d ["top","bottom"] (An Lq):=by constructor <;> first | rfl | decide +kernel
abbrev Ln:Stmt:=top 34
abbrev Q3a:List Str:=["many","push","one"]
theorem Ph:Av Q3a ["many","push"] (An Ln):=by constructor <;> first | rfl | decide +kernel
abbrev Lk:Stmt:=top 35
abbrev Q2X:List Str:=["share","parts"]
theorem Uj:Av Q2X ["share","parts"] (An Lk):=by constructor <;> first | rfl | decide +kernel
abbrev K9:Stmt:=top 37
abbrev Q2M:List Str:=["scale","value"]
theorem T9:Av Q2M ["scale","value"] (An K9):=by constructor <;> first | rfl | decide +kernel
abbrev K8:Stmt:=top 38
abbrev Q2L:List Str:=["many","scale","said"]
theorem T8:Av Q2L ["many","scale","said"] (An K8):=by constructor <;> first | rfl | decide +kernel
abbrev K7:Stmt:=top 39
abbrev Q2K:List Str:=["many","scale","turn"]
theorem T7:Av Q2K ["many","scale","turn"] (An K7):=by constructor <;> first | rfl | decide +kernel
abbrev Lm:Stmt:=top 40
abbrev Q2Z:List Str:=["many","scale","said"]
theorem Ul:Av Q2Z ["many","scale","said"] (An Lm):=by constructor <;> first | rfl | decide +kernel
abbrev Li:Stmt:=top 41
abbrev Q2V:List Str:=["many","scale","said","so"]
theorem Uh:Av Q2V ["many","scale","said","so"] (An Li):=by constructor <;> first | rfl | decide +kernel
abbrev Lh:Stmt:=top 42
abbrev Q2U:List Str:=["many","scale","turns","number","turn"]
theorem Kt:Av Q2U ["many","scale","turns"] (An Lh):=by constructor <;> first | rfl | decide +kernel
abbrev Ls:Stmt:=top 43
abbrev Q3f:List Str:=["said"]
theorem Ur:Av Q3f ["said"] (An Ls):=by constructor <;> first | rfl | decide +kernel
abbrev Lr:Stmt:=top 44
abbrev Q3e:List Str:=["what","so"]
theorem Uq:Av Q3e ["what","so"] (An Lr):=by constructor <;> first | rfl | decide +kernel
abbrev KO:Stmt:=top 46
abbrev Q2t:List Str:=["said","weights","awake"]
theorem Pf:Av Q2t ["said","weights"] (An KO):=by constructor <;> first | rfl | decide +kernel
abbrev L3:Stmt:=Bj (top 47) 0
abbrev Q3L:List Str:=["self","many","scale"]
theorem UR:Av Q3L ["self","many","scale"] (An L3):=by constructor <;> first | rfl | decide +kernel
abbrev LZ:Stmt:=Bj (top 47) 1
abbrev Q3I:List Str:=["self"]
theorem UO:Av Q3I ["self"] (An LZ):=by constructor <;> first | rfl | decide +kernel
abbrev LY:Stmt:=Bj (top 47) 2
abbrev Q3H:List Str:=["self","said"]
theorem UN:Av Q3H ["self","said"] (An LY):=by constructor <;> first | rfl | decide +kernel
abbrev L0:Stmt:=Bj (top 47) 3
abbrev Q3J:List Str:=["self","said","so"]
theorem UP:Av Q3J ["self","said","so"] (An L0):=by constructor <;> first | rfl | decide +kernel
abbrev L1:Stmt:=Bj (top 47) 4
abbrev Q3K:List Str:=["self"]
theorem UQ:Av Q3K ["self"] (An L1):=by constructor <;> first | rfl | decide +kernel
abbrev KK:Stmt:=top 49
abbrev Q2p:List Str:=["many","push"]
theorem T2:Av Q2p ["many","push"] (An KK):=by constructor <;> first | rfl | decide +kernel
abbrev Le:Stmt:=top 50
abbrev Q2R:List Str:=["scores","advisers"]
theorem Ue:Av Q2R ["scores","advisers"] (An Le):=by constructor <;> first | rfl | decide +kernel
abbrev Ga:Stmt:=Bj (top 51) 0
abbrev Q3Q:List Str:=["self","many","scale","push"]
theorem UV:Av Q3Q ["self","many","scale","push"] (An Ga):=by constructor <;> first | rfl | decide +kernel
abbrev L4:Stmt:=Bj (top 51) 1
abbrev Q3M:List Str:=["self"]
theorem US:Av Q3M ["self"] (An L4):=by constructor <;> first | rfl | decide +kernel
abbrev L5:Stmt:=Bj (top 51) 3
abbrev Q3N:List Str:=["self","said","awake"]
theorem Pl:Av Q3N ["self","said"] (An L5):=by constructor <;> first | rfl | decide +kernel
abbrev L6:Stmt:=Bj (top 51) 4
abbrev Q3O:List Str:=["self","said","so"]
theorem UT:Av Q3O ["self","said","so"] (An L6):=by constructor <;> first | rfl | decide +kernel
abbrev L7:Stmt:=Bj (top 51) 5
abbrev Q3P:List Str:=["self"]
theorem UU:Av Q3P ["self"] (An L7):=by constructor <;> first | rfl | decide +kernel
abbrev KM:Stmt:=top 52
abbrev Q2r:List Str:=["push","least","counted"]
theorem Pe:Av Q2r ["push","least"] (An KM):=by constructor <;> first | rfl | decide +kernel
abbrev Lo:Stmt:=top 54
abbrev Q3b:List Str:=["said"]
theorem Um:Av Q3b ["said"] (An Lo):=by constructor <;> first | rfl | decide +kernel
abbrev LX:Stmt:=Bj (top 55) 0
abbrev Q3G:List Str:=["self","many","scale","top","bottom"]
theorem UM:Av Q3G ["self","many","scale","top","bottom"] (An LX):=by constructor <;> first | rfl | decide +kernel
abbrev LS:Stmt:=Bj (top 55) 1
abbrev Q3D:List Str:=["self"]
theorem UL:Av Q3D ["self"] (An LS):=by constructor <;> first | rfl | decide +kernel
abbrev LU:Stmt:=Bj (top 55) 2
abbrev Q3E:List Str:=["self","said","shares"]
theorem Pk:Av Q3E ["self","said"] (An LU):=by constructor <;> first | rfl | decide +kernel
abbrev LW:Stmt:=Bj (top 55) 3
abbrev Q3F:List Str:=["self","said","so","whole","less"]
theorem Kw:Av Q3F ["self","said","so"] (An LW):=by constructor <;> first | rfl | decide +kernel
abbrev KJ:Stmt:=top 57
abbrev Q2o:List Str:=["hand","turns","runner","sayings","said","so"]
theorem GV:Av Q2o ["hand","turns"] (An KJ):=by constructor <;> first | rfl | decide +kernel
abbrev Ld:Stmt:=top 58
abbrev Q2Q:List Str:=["top","bottom","own"]
theorem Ud:Av Q2Q ["top","bottom","own"] (An Ld):=by constructor <;> first | rfl | decide +kernel
abbrev KN:Stmt:=top 59
abbrev Q2s:List Str:=["many","top","bottom","own","errors","kept","bound"]
theorem Fo:Av Q2s ["many","top","bottom","own"] (An KN):=by constructor <;> first | rfl | decide +kernel
abbrev LR:Stmt:=Bj (top 61) 0
abbrev Q3C:List Str:=["self","many","scale"]
theorem UK:Av Q3C ["self","many","scale"] (An LR):=by constructor <;> first | rfl | decide +kernel
abbrev LN:Stmt:=Bj (top 61) 2
abbrev Q3y:List Str:=["self"]
theorem UH:Av Q3y ["self"] (An LN):=by constructor <;> first | rfl | decide +kernel
abbrev LO:Stmt:=Bj (top 61) 3
abbrev Q3z:List Str:=["self"]
theorem UI:Av Q3z ["self"] (An LO):=by constructor <;> first | rfl | decide +kernel
abbrev LP:Stmt:=Bj (top 61) 4
abbrev Q3A:List Str:=["self","said","so","left"]
theorem Pj:Av Q3A ["self","said","so"] (An LP):=by constructor <;> first | rfl | decide +kernel
abbrev LQ:Stmt:=Bj (top 61) 5
abbrev Q3B:List Str:=["self"]
theorem UJ:Av Q3B ["self"] (An LQ):=by constructor <;> first | rfl | decide +kernel
abbrev KC:Stmt:=top 63
abbrev Q2i:List Str:=["keeper","own","off","kept"]
theorem Pc:Av Q2i ["keeper","own","off"] (An KC):=by constructor <;> first | rfl | decide +kernel
abbrev KD:Stmt:=top 64
abbrev Q2j:List Str:=["keeper","own"]
theorem TY:Av Q2j ["keeper","own"] (An KD):=by constructor <;> first | rfl | decide +kernel
abbrev KF:Stmt:=top 65
abbrev Q2k:List Str:=["keeper","own","what","so"]
theorem TZ:Av Q2k ["keeper","own","what","so"] (An KF):=by constructor <;> first | rfl | decide +kernel
abbrev LB:Stmt:=Bj (top 67) 0
abbrev Q3n:List Str:=["self","many","scale","top","bottom"]
theorem Uy:Av Q3n ["self","many","scale","top","bottom"] (An LB):=by constructor <;> first | rfl | decide +kernel
abbrev Ly:Stmt:=Bj (top 67) 1
abbrev Q3k:List Str:=["self"]
theorem Uv:Av Q3k ["self"] (An Ly):=by constructor <;> first | rfl | decide +kernel
abbrev Lx:Stmt:=Bj (top 67) 3
abbrev Q3j:List Str:=["self"]
theorem Uu:Av Q3j ["self"] (An Lx):=by constructor <;> first | rfl | decide +kernel
abbrev Lw:Stmt:=Bj (top 67) 4
abbrev Q3i:List Str:=["self","said","so","own"]
theorem Pi:Av Q3i ["self","said","so"] (An Lw):=by constructor <;> first | rfl | decide +kernel
abbrev Lz:Stmt:=Bj (top 67) 5
abbrev Q3l:List Str:=["self","said","so"]
theorem Uw:Av Q3l ["self","said","so"] (An Lz):=by constructor <;> first | rfl | decide +kernel
abbrev LA:Stmt:=Bj (top 67) 6
abbrev Q3m:List Str:=["self"]
theorem Ux:Av Q3m ["self"] (An LA):=by constructor <;> first | rfl | decide +kernel
abbrev LM:Stmt:=Bj (top 69) 0
abbrev Q3x:List Str:=["self","many","scale","top","bottom","share","parts"]
theorem UG:Av Q3x ["self","many","scale","top","bottom","share","parts"] (An LM):=by constructor <;> first | rfl | decide +kernel
abbrev LK:Stmt:=Bj (top 69) 1
abbrev Q3v:List Str:=["self","dealt","kept"]
theorem Kv:Av Q3v ["self"] (An LK):=by constructor <;> first | rfl | decide +kernel
abbrev LJ:Stmt:=Bj (top 69) 2
abbrev Q3u:List Str:=["self","said","so"]
theorem UE:Av Q3u ["self","said","so"] (An LJ):=by constructor <;> first | rfl | decide +kernel
abbrev LL:Stmt:=Bj (top 69) 3
abbrev Q3w:List Str:=["self"]
theorem UF:Av Q3w ["self"] (An LL):=by constructor <;> first | rfl | decide +kernel
abbrev Lv:Stmt:=top 71
abbrev Q3h:List Str:=["hands"]
theorem Ut:Av Q3h ["hands"] (An Lv):=by constructor <;> first | rfl | decide +kernel
abbrev Lc:Stmt:=top 72
abbrev Q2P:List Str:=["hands","head"]
theorem Uc:Av Q2P ["hands","head"] (An Lc):=by constructor <;> first | rfl | decide +kernel
abbrev Lj:Stmt:=top 73
abbrev Q2W:List Str:=["hands","head"]
theorem Ui:Av Q2W ["hands","head"] (An Lj):=by constructor <;> first | rfl | decide +kernel
abbrev LI:Stmt:=Bj (top 74) 0
abbrev Q3t:List Str:=["self","hands","head"]
theorem UD:Av Q3t ["self","hands","head"] (An LI):=by constructor <;> first | rfl | decide +kernel
abbrev LE:Stmt:=Bj (top 74) 1
abbrev Q3q:List Str:=["self"]
theorem UA:Av Q3q ["self"] (An LE):=by constructor <;> first | rfl | decide +kernel
abbrev LG:Stmt:=Bj (top 74) 2
abbrev Q3r:List Str:=["self","said"]
theorem UB:Av Q3r ["self","said"] (An LG):=by constructor <;> first | rfl | decide +kernel
abbrev LC:Stmt:=Bj (top 74) 3
abbrev Q3o:List Str:=["self","said"]
theorem Uz:Av Q3o ["self","said"] (An LC):=by constructor <;> first | rfl | decide +kernel
abbrev LD:Stmt:=Bj (top 74) 4
abbrev Q3p:List Str:=["self","said","so","sayings","hand"]
theorem Ku:Av Q3p ["self","said","so"] (An LD):=by constructor <;> first | rfl | decide +kernel
abbrev LH:Stmt:=Bj (top 74) 5
abbrev Q3s:List Str:=["self"]
theorem UC:Av Q3s ["self"] (An LH):=by constructor <;> first | rfl | decide +kernel
abbrev K5:Stmt:=top 76
abbrev Q2I:List Str:=["_law_script","_law_k"]
theorem T5:Av Q2I ["_law_script","_law_k"] (An K5):=by constructor <;> first | rfl | decide +kernel
abbrev K4:Stmt:=top 77
abbrev Q2H:List Str:=["_law_cell","_law_j","_law_number"]
theorem Ks:Av Q2H ["_law_cell","_law_j"] (An K4):=by constructor <;> first | rfl | decide +kernel
abbrev K0:Stmt:=top 78
abbrev Q2D:List Str:=["_law_cell","_law_many","_law_scale"]
theorem GX:Av Q2D ["_law_cell"] (An K0):=by constructor <;> first | rfl | decide +kernel
abbrev K1:Stmt:=top 79
abbrev Q2E:List Str:=["_law_cell","_law_bottom"]
theorem Pg:Av Q2E ["_law_cell"] (An K1):=by constructor <;> first | rfl | decide +kernel
abbrev KT:Stmt:=top 80
abbrev Q2y:List Str:=["_law_cell","_law_many","_law_scale","_law_sleeps","_law_so","_law_said","_law_k","_law_number","_law_what"]
theorem ET:Av Q2y ["_law_cell","_law_many","_law_scale","_law_sleeps"] (An KT):=by constructor <;> first | rfl | decide +kernel
abbrev KS:Stmt:=top 81
abbrev Q2x:List Str:=["_law_script","_law_many","_law_scale","_law_sleeps","_law_cell","_law_cells"]
theorem Iv:Av Q2x ["_law_script","_law_many","_law_scale","_law_sleeps"] (An KS):=by constructor <;> first | rfl | decide +kernel
abbrev KW:Stmt:=top 82
abbrev Q2A:List Str:=["_law_turns_here","_law_rows","_law_said","_law_so"]
theorem Iw:Av Q2A ["_law_turns_here"] (An KW):=by constructor <;> first | rfl | decide +kernel
abbrev K3:Stmt:=top 83
abbrev Q2G:List Str:=["_law_sayings","_law_turns_here"]
theorem T4:Av Q2G ["_law_sayings","_law_turns_here"] (An K3):=by constructor <;> first | rfl | decide +kernel
abbrev KR:Stmt:=top 84
abbrev Q2w:List Str:=["_law_hand_here","_law_turns_here","_law_said","_law_so","_law_tops","_law_under"]
theorem GW:Av Q2w ["_law_hand_here","_law_turns_here"] (An KR):=by constructor <;> first | rfl | decide +kernel
abbrev K2:Stmt:=top 85
abbrev Q2F:List Str:=["_law_many","_law_scale","_law_push","_law_turns_here","_law_hand_here","_law_erring_here","_law_said","_law_so"]
theorem GY:Av Q2F ["_law_many","_law_scale","_law_push","_law_turns_here"] (An K2):=by constructor <;> first | rfl | decide +kernel
abbrev KY:Stmt:=top 86
abbrev Q2B:List Str:=["_law_many","_law_scale","_law_turns_here","_law_hand_here","_law_erring_here","_law_said","_law_so","_law_goes","_law_number"]
theorem Fq:Av Q2B ["_law_many","_law_scale","_law_turns_here"] (An KY):=by constructor <;> first | rfl | decide +kernel
abbrev KU:Stmt:=top 87
abbrev Q2z:List Str:=["_law_many","_law_scale","_law_rule","_law_push","_law_turns_here","_law_top","_law_bottom","_law_hands","_law_tier_here","_law_sayings","_law_said","_law_so","_law_paid","_law_hand_here","_law_some","_law_most"]
theorem DD:Av Q2z ["_law_many","_law_scale","_law_rule","_law_push","_law_turns_here"] (An KU):=by constructor <;> first | rfl | decide +kernel
abbrev KZ:Stmt:=top 88
abbrev Q2C:List Str:=["_law_many","_law_scale","_law_rule","_law_turns_here","_law_top","_law_bottom","_law_hand_here","_law_said","_law_so","_law_part","_law_whole","_law_tops","_law_fall"]
theorem D2:Av Q2C ["_law_many","_law_scale","_law_rule","_law_turns_here"] (An KZ):=by constructor <;> first | rfl | decide +kernel
abbrev F9:Stmt:=top 89
abbrev Q2v:List Str:=["_law_script","_law_many","_law_scale","_law_top","_law_bottom","_law_cell","_law_due","_law_text_here","_law_turns_here","_law_parts","_law_share","_law_push"]
theorem DC:Av Q2v ["_law_script"] (An F9):=by constructor <;> first | rfl | decide +kernel
structure BJ (K:PySem.W.Frag) (mg:Str->Option Value) (CK1 CK6 CK4 CK3 CK0 CK5 CK2:Addr):Prop where
 b_len:mg "len" = none
 b_tuple:mg "tuple" = none
 b_list:mg "list" = none
 b_sum:mg "sum" = none
 b_zip:mg "zip" = none
 b_sorted:mg "sorted" = none
 b_range:mg "range" = none
 b_isinstance:mg "isinstance" = none
 b_int:mg "int" = none
 b_bool:mg "bool" = none
 b_all:mg "all" = none
 b_any:mg "any" = none
 b_enumerate:mg "enumerate" = none
 b_abs:mg "abs" = none
 b_min:mg "min" = none
 b_max:mg "max" = none
 b_str:mg "str" = none
 g_MOST_ADVISERS:∃ t,mg "MOST_ADVISERS" = some (.int 24 t)
 g_MOST_SCALE:∃ t,mg "MOST_SCALE" = some (.int 10 t)
 g_MOST_BOTTOM:∃ t,mg "MOST_BOTTOM" = some (.int 100 t)
 g_MOST_PARTS:∃ t,mg "MOST_PARTS" = some (.int 100 t)
 g_MOST_FIGURES:∃ t,mg "MOST_FIGURES" = some (.int 60 t)
 g_FIGURES:∃ t,mg "FIGURES" = some (.str "0123456789" t)
 g_ASLEEP:∃ t,mg "ASLEEP" = some (.str "-" t)
 g_COLON:∃ t,mg "COLON" = some (.str ":" t)
 c_Hand:Dr K CK1
 m_Hand:mg "Hand" = some (.ref CK1)
 n_Hand_many:Ap K CK1 "many"
 n_Hand_scale:Ap K CK1 "scale"
 i_Hand_Hand:PySem.W.kitOne K (.ref CK1) (.ref CK1)=some true
 c_Weigher:Dr K CK6
 m_Weigher:mg "Weigher" = some (.ref CK6)
 n_Weigher_many:Ap K CK6 "many"
 n_Weigher_scale:Ap K CK6 "scale"
 n_Weigher_top:Ap K CK6 "top"
 n_Weigher_bottom:Ap K CK6 "bottom"
 n_Weigher_tops:Ap K CK6 "tops"
 n_Weigher_under:Ap K CK6 "under"
 i_Weigher_Hand:PySem.W.kitOne K (.ref CK6) (.ref CK1)=some true
 c_Shifter:Dr K CK4
 m_Shifter:mg "Shifter" = some (.ref CK4)
 n_Shifter_many:Ap K CK4 "many"
 n_Shifter_scale:Ap K CK4 "scale"
 n_Shifter_top:Ap K CK4 "top"
 n_Shifter_bottom:Ap K CK4 "bottom"
 n_Shifter_tops:Ap K CK4 "tops"
 n_Shifter_under:Ap K CK4 "under"
 n_Shifter_share:Ap K CK4 "share"
 n_Shifter_parts:Ap K CK4 "parts"
 i_Shifter_Hand:PySem.W.kitOne K (.ref CK4) (.ref CK1)=some true
 c_Rounder:Dr K CK3
 m_Rounder:mg "Rounder" = some (.ref CK3)
 n_Rounder_many:Ap K CK3 "many"
 n_Rounder_scale:Ap K CK3 "scale"
 n_Rounder_inside:Ap K CK3 "inside"
 n_Rounder_over:Ap K CK3 "over"
 i_Rounder_Hand:PySem.W.kitOne K (.ref CK3) (.ref CK1)=some true
 c_Follower:Dr K CK0
 m_Follower:mg "Follower" = some (.ref CK0)
 n_Follower_many:Ap K CK0 "many"
 n_Follower_scale:Ap K CK0 "scale"
 n_Follower_push:Ap K CK0 "push"
 n_Follower_reached:Ap K CK0 "reached"
 i_Follower_Hand:PySem.W.kitOne K (.ref CK0) (.ref CK1)=some true
 c_Tier:Dr K CK5
 m_Tier:mg "Tier" = some (.ref CK5)
 n_Tier_many:Ap K CK5 "many"
 n_Tier_scale:Ap K CK5 "scale"
 n_Tier_hands:Ap K CK5 "hands"
 n_Tier_head:Ap K CK5 "head"
 n_Tier_charged:Ap K CK5 "charged"
 i_Tier_Hand:PySem.W.kitOne K (.ref CK5) (.ref CK1)=some true
 c_Meaner:Dr K CK2
 m_Meaner:mg "Meaner" = some (.ref CK2)
 n_Meaner_many:Ap K CK2 "many"
 n_Meaner_scale:Ap K CK2 "scale"
 n_Meaner_top:Ap K CK2 "top"
 n_Meaner_bottom:Ap K CK2 "bottom"
 n_Meaner_tops:Ap K CK2 "tops"
 n_Meaner_under:Ap K CK2 "under"
def AV (ws:List Int):List Int:=if ws.sum=0 then ws.map (λ_=>1) else ws
theorem Js (ws:List Int):(AV ws).length=ws.length:=by unfold AV; split <;> simp
def Cd (ws:List Int):Prop:=∀ w∈ws,0<=w
theorem MQ {ws:List Int} (h:Cd ws):Cd (AV ws):=by
 unfold AV
 split
 ·intro w hw
  obtain ⟨_,_,rfl⟩:=List.mem_map.mp hw
  decide
 ·exact h
def go (W:Int):Int->List (Int×Int)->Int
 | _,[]=>0
 | r,p::l=>if W<=2*(r+p.2) then p.1 else go W (r+p.2) l
def Di (ns ws:List Int):Int:=go (AV ws).sum 0 (Ch AS (ns.zip (AV ws)))
def HF (ns ws:List Int):Prop:=ns.length=ws.length/\ws.length<=63/\Cd ws
def Kj:List D->D->Prop:=λds d=>∃ ws:List Int,ds=[.tup (ws.map D.int)]/\ws.length<=63/\d=.lst ((AV ws).map D.int)
def OJ:List D->D->Prop:=λds d=>∃ ns ws:List Int,ds=[.tup (ns.map D.int),.tup (ws.map D.int)]/\HF ns ws/\d=.int (Di ns ws)
def FI (ns:List Int) (k:Int):Int:=(ns[k.toNat]?).getD 0
def Kk:List D->D->Prop:=λds d=>∃ (ns:List Int) (k:Int),ds=[.scr (ns.map D.int),.int k]/\0<=k/\d=.int (FI ns k)
def Ec (f:Int) (ns ws:List Int):Int:=sm (λq=>if q.1<f then q.2 else 0) (ns.zip ws)
def there (f:Int) (ns ws:List Int):Int:=sm (λq=>if q.1=f then q.2 else 0) (ns.zip ws)
def Ha (f:Int) (ns ws:List Int):Bool:=if ns=[] then decide (f=0) else (decide (f∈ns)&&(decide (2*Ec f ns (AV ws)<(AV ws).sum)&&decide ((AV ws).sum<=2*(Ec f ns (AV ws)+there f ns (AV ws)))))
theorem QR (W:Int):∀ (L:List (Int×Int)) (r:Int),2*r<W->W<=2*(r+sm (λq=>q.2) L)->∃ A p B,L=A++p::B/\2*(r+sm (λq=>q.2) A)<W/\W<=2*(r+sm (λq=>q.2) A+p.2)/\go W r L=p.1
 | [],r,h1,h2=>by exfalso; unfold sm at h2; omega
 | p::L,r,h1,h2=>by
  unfold go
  by_cases h:W<=2*(r+p.2)
  ·rw [if_pos h]
   refine ⟨[],p,L,rfl,?_,?_,rfl⟩
   ·show 2*(r+0)<W; omega
   ·show W<=2*(r+0+p.2); omega
  ·rw [if_neg h]
   have h2:W<=2*(r+(p.2+sm (λq=>q.2) L)):=h2
   obtain ⟨A,q,B,e1,e2,e3,e4⟩:=QR W L (r+p.2) wF wF
   refine ⟨p::A,q,B,by rw [e1]; rfl,?_,?_,e4⟩
   ·show 2*(r+(p.2+sm (λq=>q.2) A))<W; omega
   ·show W<=2*(r+(p.2+sm (λq=>q.2) A)+q.2); omega
theorem N3 {ws:List Int} (h:Cd ws):0<=ws.sum:=by
 rw [Tk]; exact ER λa ha=>h a ha
theorem Q1c {ws:List Int} (h:Cd ws) (hn:ws≠[]):0<(AV ws).sum:=by
 unfold AV
 split
 ·cases ws with
  | nil=>exact absurd rfl hn
  | cons a l=>
   rw [List.map_cons,List.sum_cons]
   have:0<=(l.map λ_=>(1:Int)).sum:=by rw [DR]; exact ER λ_ _=>by decide
   omega
 ·have:=N3 h
  omega
theorem L8 {ns ws:List Int} (h:HF ns ws):Ha (Di ns ws) ns ws=true:=by
 obtain ⟨h1,h2,h3⟩:=h
 unfold Ha
 by_cases hn:ns=[]
 ·rw [if_pos hn]
  subst hn
  have e:Di [] ws=0:=by unfold Di Ch; simp [go]
  exact decide_eq_true e
 ·rw [if_neg hn]
  have hw:ws≠[]:=by
   intro e; apply hn
   rw [e] at h1
   exact List.eq_nil_of_length_eq_zero h1
  have hp:=Q1c h3 hw
  have hc:=MQ h3
  have hl:ns.length=(AV ws).length:=by rw [Js]; exact h1
  unfold Di Ec there
  generalize AV ws=cs at hp hc hl
  have pm:=Ii AS (ns.zip cs)
  have pw:=Od Hf (ns.zip cs)
  have hs:sm (λq:Int×Int=>q.2) (Ch AS (ns.zip cs))=cs.sum:=by rw [Ko pm,O7 hl]
  obtain ⟨A,p,B,e1,e2,e3,e4⟩:=QR cs.sum (Ch AS (ns.zip cs)) 0 wF (by rw [hs]; omega)
  rw [e4]
  have nn:∀ q∈Ch AS (ns.zip cs),0<=q.2:=λq hq=>hc _ (List.of_mem_zip (pm.mem_iff.mp hq)).2
  rw [<- Ko (g:=λq:Int×Int=>if q.1<p.1 then q.2 else 0) pm,<- Ko (g:=λq:Int×Int=>if q.1=p.1 then q.2 else 0) pm]
  have hm:p.1∈ns:=(List.of_mem_zip (pm.mem_iff.mp (by rw [e1]; exact List.mem_append_right _ List.mem_cons_self):(p.1,p.2)∈ns.zip cs)).1
  rw [e1] at pw nn ⊢
  have pA:∀ q∈A,q.1<=p.1:=λq hq=>by
   have:=(List.pairwise_append.mp pw).2.2 q hq p List.mem_cons_self
   simp [AS] at this
   omega
  have pB:∀ q∈B,p.1<=q.1:=λq hq=>by
   have:=(List.pairwise_cons.mp (List.pairwise_append.mp pw).2.1).1 q hq
   simp [AS] at this
   omega
  have b1:sm (λq:Int×Int=>if q.1<p.1 then q.2 else 0) (A++p::B)<=sm (λq=>q.2) A:=by
   rw [Kq]
   have z:sm (λq:Int×Int=>if q.1<p.1 then q.2 else 0) (p::B)=0:=by
    rw [ES (h:=λ_=>0),O8]
    intro a ha
    rcases List.mem_cons.mp ha with rfl | ha
    ·exact if_neg wF
    ·exact if_neg (by have:=pB a ha; omega)
   rw [z]
   have:=GS (l:=A) (g:=λq:Int×Int=>if q.1<p.1 then q.2 else 0) (h:=λq=>q.2) λa ha=>by
    have:=nn a (List.mem_append_left _ ha)
    try dsimp only
    split <;> omega
   omega
  have b2:sm (λq=>q.2) A+p.2<=sm (λq:Int×Int=>if q.1<p.1 then q.2 else 0) (A++p::B)+sm (λq:Int×Int=>if q.1=p.1 then q.2 else 0) (A++p::B):=by
   rw [<- F7,Kq]
   have z:p.2<=sm (λq:Int×Int=>(if q.1<p.1 then q.2 else 0)+(if q.1=p.1 then q.2 else 0)) (p::B):=by
    show p.2<=((if p.1<p.1 then p.2 else 0)+(if p.1=p.1 then p.2 else 0))+sm _ B
    rw [if_neg wF,if_pos rfl]
    have:=ER (l:=B) (g:=λq:Int×Int=>(if q.1<p.1 then q.2 else 0)+(if q.1=p.1 then q.2 else 0)) λa ha=>by
     have:=nn a (List.mem_append_right _ (List.mem_cons_of_mem _ ha))
     try dsimp only
     split <;> split <;> omega
    omega
   have:=ES (l:=A) (g:=λq:Int×Int=>q.2) (h:=λq=>(if q.1<p.1 then q.2 else 0)+(if q.1=p.1 then q.2 else 0)) λa ha=>by
    have:=pA a ha
    try dsimp only
    split <;> split <;> omega
   omega
  rw [decide_eq_true hm,decide_eq_true wF,decide_eq_true wF]
  rfl
theorem YE {ns ws:List Int} (h:HF ns ws) (hn:ns≠[]):2*Ec (Di ns ws) ns (AV ws)<(AV ws).sum/\(AV ws).sum<=2*(Ec (Di ns ws) ns (AV ws)+there (Di ns ws) ns (AV ws)):=by
 have h:=L8 h
 unfold Ha at h
 rw [if_neg hn,Bool.and_eq_true,Bool.and_eq_true] at h
 exact ⟨of_decide_eq_true h.2.1,of_decide_eq_true h.2.2⟩
def od:Option Int->D
 | none=>.non
 | some i=>.int i
abbrev Tn:=List (Option Int)×Int
def tD (t:Tn):D:=.tup [.tup (t.1.map od),.int t.2]
def ab (i:Int):Int:=if i<0 then -i else i
def BP:Option Int->Int->Int
 | none,_=>0
 | some w,z=>ab (w-z)
theorem Ya (o:Option Int):Fu (od o)=true:=by cases o <;> rfl
theorem Te (t:Tn):Fu (tD t)=true:=by
 show (D4 (t.1.map od)&&(true&&true))=true
 rw [Qo Ya]
 rfl
def BX (c j:Int):Int:=(((c%2147483647*48271+7919*j*j+101*j+11)%2147483629)*69621+7*j)%2147483587+2147483587*(c/(j+2)%10 ^ (61:Int).toNat)
def Ip:List D->D->Prop:=λds d=>∃ c j:Int,ds=[.int c,.int j]/\(0<=j/\j<=100)/\d=.int (BX c j)
def Fy (c:Int):Int:=if c%8=0 then 1 else if c%8=1 then 2 else if c%8=2 then 2 else if c%8=3 then 3 else if c%8=4 then 5 else if c%8=5 then 10 else if c%8=6 then 100 else 1+c/8%100
theorem ZV (c:Int):1<=Fy c/\Fy c<=100:=by unfold Fy; omega
theorem ZX (c:Int):Be [D.int 1,.int 2,.int 2,.int 3,.int 5,.int 10,.int 100,.int (1+c/8%100)] (c%8)=some (.int (Fy c)):=by
 unfold Fy
 have h:c%8=0\/c%8=1\/c%8=2\/c%8=3\/c%8=4\/c%8=5\/c%8=6\/c%8=7:=by omega
 generalize 1+c/8%100=z
 rcases h with h | h | h | h | h | h | h | h <;> rw [h] <;> rfl
theorem FE {X:Cx} {ρ:Aj} {O:Af} {es:List Expr} {ds:List D} {i:Int} {j:Nat} {p:Pos} (hs:BK X ρ O es ds):BK X ρ O (.Constant (.int i) j p::es) (.int i::ds):=Ab Ai hs (by rfl)
theorem Zb {X:Cx} {ρ:Aj} {O:Af} {a b:Expr} {p:Pos} {xs:List D} {i:Int} {d:D} (hi:Be xs i=some d) (hs:Ni b) (ha:Ac X ρ O a (.lst xs)) (hb:Ac X ρ O b (.int i)):Ac X ρ O (.Subscript a b p) d:=Fc ha (Or.inl rfl) hb hi hs
theorem YM {X:Cx} {ρ:Aj} {O:Af} {i1 i2 i3 i4 i5 i6 i7 i8:Int} {j1 j2 j3 j4 j5 j6 j7:Nat} {p1 p2 p3 p4 p5 p6 p7 p:Pos} {e:Expr} (h:Ac X ρ O e (.int i8)) (hs:∀ env,starEach [e] env=(false,eval e env)::starEach [] env):Ac X ρ O (.List [.Constant (.int i1) j1 p1,.Constant (.int i2) j2 p2,.Constant (.int i3) j3 p3,.Constant (.int i4) j4 p4,.Constant (.int i5) j5 p5,.Constant (.int i6) j6 p6,.Constant (.int i7) j7 p7,e] p) (.lst [.int i1,.int i2,.int i3,.int i4,.int i5,.int i6,.int i7,.int i8]):=
 Ji (FE (FE (FE (FE (FE (FE (FE (Ab h Ae (hs _)))))))))
theorem Q0h {X:Cx} {ρ:Aj} {O:Af} {c:Int} {e1 e2:Expr} {j1 j2 j3 j4 j5 j6 j7 j8 j9 j10 j11:Nat} {p1 p2 p3 p4 p5 p6 p7 p8 p9 p10 p11 p12 p13 p14 p15 p16 p17:Pos} (h1:Ac X ρ O e1 (.int c)) (h2:Ac X ρ O e2 (.int c)) :
  Ac X ρ O (.Subscript (.List [.Constant (.int 1) j1 p1,.Constant (.int 2) j2 p2,.Constant (.int 2) j3 p3,.Constant (.int 3) j4 p4,.Constant (.int 5) j5 p5,.Constant (.int 10) j6 p6,.Constant (.int 100) j7 p7,.BinOp (.Constant (.int 1) j8 p8) .Add (.BinOp (.BinOp e1 .FloorDiv (.Constant (.int 8) j9 p9) p10) .Mod (.Constant (.int 100) j10 p11) p12) p13] p14) (.BinOp e2 .Mod (.Constant (.int 8) j11 p15) p16) p17) (.int (Fy c)):=
 Zb (ZX c) (λ_ _=>rfl) (YM (Ak Ai (Ak (Ak h1 Ai (DU ⟨by omega,by omega⟩)) Ai (Ca wF)) Bs) (λ_=>rfl)) (Ak h2 Ai (Ca wF))
def P0:List D->Prop:=λds=>∃ c:Int,ds=[.int c]
def Px:List D->D->Prop:=λ_ d=>∃ t b:Int,d=.tup [.int t,.int b]/\0<=t/\t<b/\b<=100
def Ax (said:List (Option Int)) (k:Nat):Option Int:=(said[k]?).getD none
def ax (said:List (Option Int)):List Nat:=(List.range said.length).filter λk=>(Ax said k).isSome
def Cj (said:List (Option Int)):List Int:=(ax said).map λk=>(Ax said k).getD 0
def BY (said:List (Option Int)) (ws:List Int):List Int:=(ax said).map λk=>ws.getD k 0
def AG (said:List (Option Int)) (ws:List Int):Int:=Di (Cj said) (BY said ws)
theorem Sf (said:List (Option Int)):said.zipIdx=(List.range said.length).map λk=>(Ax said k,k):=by
 refine List.ext_getElem? λi=>?_
 rw [List.getElem?_zipIdx,List.getElem?_map]
 by_cases h:i<said.length
 ·rw [List.getElem?_range h,List.getElem?_eq_getElem h]
  simp [Ax,h]
 ·rw [List.getElem?_eq_none wF,List.getElem?_eq_none (by simp; omega)]
  rfl
theorem Zh (w:Option Int):(!CK (od w))=w.isSome:=by cases w <;> rfl
theorem Q1P (said:List (Option Int)):(said.zipIdx.filterMap λq=>if (!CK (od q.1))=true then some (D.int (q.2:Nat)) else none)=(ax said).map λk=>D.int (k:Nat):=by
 rw [Q2 (λq:Option Int×Nat=>!CK (od q.1)) (λq=>D.int (q.2:Nat)),Sf,List.filter_map,List.map_map]
 unfold ax
 congr 1
 exact List.filter_congr λk _=>Zh _
theorem at2 {said:List (Option Int)} {k:Nat} (h:k<said.length):Be (said.map od) (k:Int)=some (od (Ax said k)):=by
 refine DZ ?_
 rw [List.getElem?_map,List.getElem?_eq_getElem h]
 simp [Ax,h]
theorem Gy {said:List (Option Int)} {k:Nat} (h:k∈ax said):k<said.length:=List.mem_range.mp (List.mem_filter.mp h).1
theorem Q1N {said:List (Option Int)} {k:Nat} (h:k∈ax said):od (Ax said k)=.int ((Ax said k).getD 0):=by
 have:=(List.mem_filter.mp h).2
 cases e:Ax said k with
 | none=>rw [e] at this; cases this
 | some w=>rfl
theorem RN {said:List (Option Int)} {k:Nat} (h:k∈ax said):Be (said.map od) (k:Int)=some (.int ((Ax said k).getD 0)):=by rw [at2 (Gy h),Q1N h]
theorem RL {ws:List Int} {k:Nat} (h:k<ws.length):Be (ws.map D.int) (k:Int)=some (.int (ws.getD k 0)):=by
 refine DZ ?_
 rw [List.getElem?_map,List.getElem?_eq_getElem h]
 simp [List.getD,h]
theorem M8 (said:List (Option Int)):(ax said).length<=said.length:=by
 have:=List.length_filter_le (λk=>(Ax said k).isSome) (List.range said.length)
 rw [List.length_range] at this
 exact this
theorem Ie {said:List (Option Int)} {ws:List Int} (hs:said.length<=24) (hw:Cd ws):HF (Cj said) (BY said ws):=by
 refine ⟨by unfold Cj BY; rw [List.length_map,List.length_map],?_,λw h=>?_⟩
 ·unfold BY; rw [List.length_map]; have:=M8 said; omega
 ·obtain ⟨k,_,rfl⟩:=List.mem_map.mp h
  by_cases hk:k<ws.length
  ·rw [List.getD_eq_getElem?_getD,List.getElem?_eq_getElem hk]
   exact hw _ (List.getElem_mem hk)
  ·rw [List.getD_eq_getElem?_getD,List.getElem?_eq_none wF]
   exact Int.le_refl _
def C9 (s:Int):Option Int->Bool
 | none=>false
 | some i=>decide (0<=i)&&decide (i<=s)
def Bq (m s:Int) (said:List (Option Int)):Prop:=(said.length:Int)=m/\m<=24/\∀ w∈said,w=none\/C9 s w=true
def Kc:List D->D->Prop:=λds d=>∃ w:Option Int,ds=[od w]/\d=.bl w.isSome
def J9:List D->D->Prop:=λds d=>∃ (s:Int) (w:Option Int),ds=[.int s,od w]/\d=.bl (C9 s w)
def Ke:List D->D->Prop:=λds d=>∃ (m s:Int) (said:List (Option Int)),ds=[.int m,.int s,.tup (said.map od)]/\Bq m s said/\d=.bl true
def GO:List D->D->Prop:=λds d=>∃ (m s:Int) (said:List (Option Int)),ds=[.int m,.int s,.tup (said.map od)]/\Bq m s said/\d=.non
def F3:List D->D->Prop:=λds d=>∃ (x:Str) (v l h:Int),ds=[.str x,.int v,.int l,.int h]/\(l<=v/\v<=h)/\d=.non
def Kb:List D->D->Prop:=λds d=>∃ m s:Int,ds=[.int m,.int s]/\(1<=m/\m<=24)/\(1<=s/\s<=10)/\d=.non
def Oz:List D->D->Prop:=λds d=>∃ s:Int,ds=[.int s]/\(1<=s/\s<=10)/\d=.non
def Ki:List D->D->Prop:=λds d=>∃ t b:Int,ds=[.int t,.int b]/\(0<=t/\t<b/\b<=100)/\d=.non
def Kl:List D->D->Prop:=λds d=>∃ said:List (Option Int),ds=[.tup (said.map od)]/\said.length<=24/\d=.lst ((ax said).map λk=>D.int (k:Nat))
def ON:List D->D->Prop:=λds d=>∃ (said:List (Option Int)) (ws:List Int),ds=[.tup (said.map od),.tup (ws.map D.int)]/\said.length<=24/\ws.length=said.length/\Cd ws/\d=.int (AG said ws)
def BL (m s:Int):List (Str×D):=[("many",.int m),("scale",.int s)]
def A0 (m s t b:Int) (ws:List Int) (u:Int):List (Str×D):=[("many",.int m),("scale",.int s),("top",.int t),("bottom",.int b),("tops",.tup (ws.map D.int)),("under",.int u)]
theorem AE {f g:Str} {d x:D} {r:List (Str×D)} (h:(g=f)->False):A6 f d ((g,x)::r)=(g,x)::A6 f d r:=by
 show (if g=f then (g,d)::r else (g,x)::A6 f d r)=_
 rw [if_neg h]
theorem EV {f:Str} {d x:D} {r:List (Str×D)}:A6 f d ((f,x)::r)=(f,d)::r:=by
 show (if f=f then (f,d)::r else (f,x)::A6 f d r)=_
 rw [if_pos rfl]
theorem PP (m s:Int):A6 "scale" (.int s) (A6 "many" (.int m) [])=BL m s:=by
 show A6 "scale" (.int s) [("many",.int m)]=_
 rw [AE wD]
 rfl
def f3 (m s t:Int):List (Str×D):=[("many",.int m),("scale",.int s),("top",.int t)]
def f4 (m s t b:Int):List (Str×D):=[("many",.int m),("scale",.int s),("top",.int t),("bottom",.int b)]
def f5 (m s t b:Int) (d:D):List (Str×D):=[("many",.int m),("scale",.int s),("top",.int t),("bottom",.int b),("tops",d)]
theorem PN (m s t:Int):A6 "top" (.int t) (BL m s)=f3 m s t:=by
 unfold BL
 rw [AE wD,AE wD]
 rfl
theorem PQ (m s t b:Int):A6 "bottom" (.int b) (f3 m s t)=f4 m s t b:=by
 unfold f3
 rw [AE wD,AE wD,AE wD]
 rfl
theorem PM (m s t b:Int) (d:D):A6 "tops" d (f4 m s t b)=f5 m s t b d:=by
 unfold f4
 rw [AE wD,AE wD,AE wD,AE wD]
 rfl
theorem PL (m s t b u:Int) (ws:List Int):A6 "under" (.int u) (f5 m s t b (.tup (ws.map D.int)))=A0 m s t b ws u:=by
 unfold f5
 rw [AE wD,AE wD,AE wD,AE wD,AE wD]
 rfl
theorem Bx {f:Str} {d:D} {r:List (Str×D)}:List.lookup f ((f,d)::r)=some d:=by rw [List.lookup_cons,beq_self_eq_true]
theorem Ar {f g:Str} {d:D} {r:List (Str×D)} (h:(f==g)=false):List.lookup f ((g,d)::r)=List.lookup f r:=by rw [List.lookup_cons,h]
section
variable (m s t b u:Int) (ws:List Int)
theorem Hl:(BL m s).lookup ("many" : Str)=some (.int m):=Bx
theorem IX:(BL m s).lookup ("scale" : Str)=some (.int s):=by unfold BL; rw [Ar wD,Bx]
theorem Zy:(BL m s).lookup ("heeded" : Str)=none:=by unfold BL; rw [Ar wD,Ar wD]; rfl
theorem GJ:(A0 m s t b ws u).lookup ("many" : Str)=some (.int m):=Bx
theorem FT:(A0 m s t b ws u).lookup ("scale" : Str)=some (.int s):=by unfold A0; rw [Ar wD,Bx]
theorem JS:(A0 m s t b ws u).lookup ("top" : Str)=some (.int t):=by unfold A0; rw [Ar wD,Ar wD,Bx]
theorem HX:(A0 m s t b ws u).lookup ("bottom" : Str)=some (.int b):=by unfold A0; rw [Ar wD,Ar wD,Ar wD,Bx]
theorem HW:(A0 m s t b ws u).lookup ("tops" : Str)=some (.tup (ws.map D.int)):=by unfold A0; rw [Ar wD,Ar wD,Ar wD,Ar wD,Bx]
theorem JR:(A0 m s t b ws u).lookup ("under" : Str)=some (.int u):=by unfold A0; rw [Ar wD,Ar wD,Ar wD,Ar wD,Ar wD,Bx]
theorem FU {f:Str} (h:([("many" : Str),"scale","top","bottom","tops","under"].all λg=>!(f==g))=true):(A0 m s t b ws u).lookup f=none:=by
 simp only [List.all_cons,List.all_nil,Bool.and_true,Bool.and_eq_true,Bool.not_eq_true'] at h
 obtain ⟨h1,h2,h3,h4,h5,h6⟩:=h
 unfold A0
 rw [Ar h1,Ar h2,Ar h3,Ar h4,Ar h5,Ar h6]
 rfl
end
def OR (CK1:Addr):AH:=λds O R=>∃ (q:Nat) (m s:Int),ds=[.ptr q]/\O[q]?=some (some (.ins CK1 (BL m s)))/\(1<=m/\m<=24)/\R (.tup ((List.replicate m.toNat (1:Int)).map D.int)) O
def Om (CK6:Addr):AH:=λds O R=>∃ (q:Nat) (m s t b u:Int) (ws:List Int),ds=[.ptr q]/\O[q]?=some (some (.ins CK6 (A0 m s t b ws u)))/\R (.tup [.tup (ws.map D.int),.int u]) O
def OP (CK6:Addr):AH:=λds O R=>∃ (q:Nat) (m s t b:Int),ds=[.ptr q,.int m,.int s,.int t,.int b]/\O[q]?=some (some (.ins CK6 []))/\(1<=m/\m<=24)/\(1<=s/\s<=10)/\(0<=t/\t<b/\b<=100)/\R .non (O.set q (some (.ins CK6 (A0 m s t b (List.replicate m.toNat 1) 1))))
theorem BG {O:Af} {q:Nat} {x y:Option MO} (h:O[q]?=some x):(O.set q y)[q]?=some y:=by
 have:=(List.getElem?_eq_some_iff.mp h).1
 rw [List.getElem?_set_self this]
theorem Mh (n:Nat):(List.replicate n [D.int 1]).flatten=(List.replicate n (1:Int)).map D.int:=by rw [L9,List.map_replicate]
def PZ:List D->Prop:=λds=>∃ c:Int,ds=[.int c]
def Pw:List D->D->Prop:=λ_ d=>∃ (m:Nat) (s:Int),d=.tup [.int (m:Nat),.int s]/\1<=m/\m<=24/\1<=s/\s<=10
def Hg (sl:Bool) (n y:Int):Option Int:=if (sl&&decide (n/37%4=0))=true then none else some y
def GK (s:Int) (sl:Bool) (so n:Int):Option Int:=Hg sl n (if n/11%3=0 then so else n%(s+1))
def D1 (m:Nat) (s:Int) (sl:Bool) (c:Int):Tn:=((List.range m).map λk=>GK s sl (BX c 0%(s+1)) (BX c (0+(k:Nat)+1)),BX c 0%(s+1))
def Oq:List D->D->Prop:=λds d=>∃ (c:Int) (m:Nat) (s:Int) (sl:Bool),ds=[.int c,.int (m:Nat),.int s,.bl sl]/\m<=24/\1<=s/\d=tD (D1 m s sl c)
def Eb (ns:List Int):List Int:=if FI ns 2%8=5 then (List.range 60).map λk=>BX (FI ns 2) (40+(0+(k:Nat))) else Cc ns (some 3) (some 63)
def Op:List D->D->Prop:=λds d=>∃ (ns:List Int) (m:Nat) (s:Int) (sl:Bool),ds=[.scr (ns.map D.int),.int (m:Nat),.int s,.bl sl]/\ns.length<=63/\m<=24/\1<=s/\d=.tup (((Eb ns).map (D1 m s sl)).map tD)
theorem Q1n {ns:List Int} (h:ns.length<=63):(Eb ns).length<=63:=by
 unfold Eb
 split
 ·rw [List.length_map,List.length_range]; decide
 ·exact Nat.le_trans (Q0R _ _ _) h
def B3 (m:Nat) (s:Int) (t:Tn):Prop:=t.1.length=m/\(∀ w∈t.1,w=none\/C9 s w=true)/\0<=t.2/\t.2<=s
theorem SK {m:Nat} {s:Int} {sl:Bool} {c:Int} (hs:1<=s):B3 m s (D1 m s sl c):=by
 have h1:0<=BX c 0%(s+1)/\BX c 0%(s+1)<=s:=⟨Int.emod_nonneg _ wF,by have:=Int.emod_lt_of_pos (BX c 0) (show 0<s+1 by omega); omega⟩
 refine ⟨by unfold D1; rw [List.length_map,List.length_range],λw hw=>?_,h1.1,h1.2⟩
 obtain ⟨k,_,rfl⟩:=List.mem_map.mp hw
 generalize BX c (0+(k:Nat)+1)=n
 unfold GK Hg
 split
 ·exact .inl rfl
 ·right
  have h2:0<=n%(s+1)/\n%(s+1)<=s:=⟨Int.emod_nonneg _ wF,by have:=Int.emod_lt_of_pos n (show 0<s+1 by omega); omega⟩
  split
  ·show (decide (0<=BX c 0%(s+1))&&decide (BX c 0%(s+1)<=s))=true
   rw [decide_eq_true h1.1,decide_eq_true h1.2]; rfl
  ·show (decide (0<=n%(s+1))&&decide (n%(s+1)<=s))=true
   rw [decide_eq_true h2.1,decide_eq_true h2.2]; rfl
def IC (said:List (Option Int)) (ws:List Int):List (Int×Int):=(ax said).map λk=>((Ax said k).getD 0,ws.getD k 0)
theorem VE (said:List (Option Int)) (ws:List Int):IC said ws=(Cj said).zip (BY said ws):=by
 unfold IC Cj BY
 rw [List.zip_map']
theorem Wt (w:List Int):(w.map λ_=>(1:Int)).sum=(w.length:Nat):=by
 induction w with
 | nil=>rfl
 | cons a l ih=>rw [List.map_cons,List.sum_cons,ih,List.length_cons]; omega
theorem Q0u (a b:D):CO (.tup [a,b]) (.tup [a,b])=(CO a a&&(CO b b&&true)):=rfl
theorem Q0t (a:List Int):CO (.tup (a.map D.int)) (.tup (a.map D.int))=true:=by rw [Q0w,decide_eq_true rfl]
theorem plT (a:List Int):Ci (.tup (a.map D.int))=true:=VM a
theorem Q0H (a:List Int):C1 (.tup (a.map D.int))<=60:=by
 have:=Q0K a
 show CP (a.map D.int)+1<=60
 omega
theorem B3.said {m:Nat} {s:Int} {t:Tn} (h:B3 m s t) (hm:m<=24):Bq (m:Nat) s t.1:=⟨by rw [h.1],by omega,h.2.1⟩
def GM:List D->D->Prop:=λds d=>∃ b n:Int,ds=[.int b,.int n]/\(0<=b/\b<=1000)/\(0<=n/\n<=60000)/\d=.int (b ^ n.toNat)
theorem Eu {a b:Int} (h0:0<=a) (h:a<=b):∀ n:Nat,a ^ n<=b ^ n
 | 0=>by simp
 | n+1=>by
  rw [Int.pow_succ,Int.pow_succ]
  exact Int.mul_le_mul (Eu h0 h n) h h0 (Int.pow_nonneg (Int.le_trans h0 h))
theorem Tx {a:Int} (h0:0<=a) (h:a<256) (n:Nat):0<=a ^ n/\a ^ n<2 ^ (8*n+1):=by
 refine ⟨Int.pow_nonneg h0,?_⟩
 have h1:a ^ n<=256 ^ n:=Eu h0 (Int.le_of_lt h) n
 have h2:(2:Int) ^ (8*n+1)=256 ^ n*2:=by rw [Int.pow_succ,Int.pow_mul]; rfl
 have h3:(0:Int)<256 ^ n:=Int.pow_pos wE
 rw [h2]
 omega
def Fm:List D->D->Prop:=λds d=>∃ (w:Option Int) (z:Int),ds=[od w,.int z]/\d=.int (BP w z)
def tA (t b sc own off:Int):Int:=t ^ off.toNat*b ^ (sc-off).toNat*2*b ^ own.toNat
def tS (t b sc own:Int):Int:=b ^ sc.toNat*(b ^ own.toNat+t ^ own.toNat)
def tF (t b sc own so:Int):Option Int->Int
 | none=>tS t b sc own
 | some x=>tA t b sc own (ab (x-so))
def BW (t b sc d so:Int) (said:List (Option Int)) (ws:List Int):List Int:=(ws.zip said).map λp=>p.1*tF t b sc d so p.2
structure B8 (sc t b:Int):Prop where
 s1:1<=sc
 s2:sc<=10
 t0:0<=t
 tb:t<b
 b2:b<=100
structure Jx (n:Nat) (ws:List Int) (u:Int):Prop where
 w:∀ x∈ws,0<=x/\x<2 ^ (250*(n+1))
 u0:0<=u
 u1:u<2 ^ (250*(n+1))
theorem C8 {x y:Int} {a c:Nat} (x0:0<=x) (x1:x<2 ^ a) (y0:0<=y) (y1:y<2 ^ c):0<=x*y/\x*y<2 ^ (a+c):=by
 refine ⟨Int.mul_nonneg x0 y0,?_⟩
 rw [Int.pow_add]
 by_cases h:y=0
 ·subst h
  rw [Int.mul_zero]
  exact Int.mul_pos (Int.pow_pos wE) (Int.pow_pos wE)
 ·have h1:x*y<2 ^ a*y:=Int.mul_lt_mul_of_pos_right x1 wF
  have h2:2 ^ a*y<=2 ^ a*2 ^ c:=Int.mul_le_mul_of_nonneg_left (Int.le_of_lt y1) (Int.pow_nonneg wE)
  omega
theorem Fs {x:Int} {a c:Nat} (h:x<2 ^ a) (hc:a<=c):x<2 ^ c:=by
 obtain ⟨d,rfl⟩:=Nat.exists_eq_add_of_le hc
 have h1:(1:Int)<=2 ^ d:=Int.pow_pos wE
 have h2:(0:Int)<=2 ^ a:=Int.pow_nonneg wE
 have:=Int.mul_le_mul_of_nonneg_left h1 h2
 rw [Int.pow_add]
 omega
theorem DE {x:Int} {e:Int} (h0:0<=x) (h1:x<=100) (he:e<=10):0<=x ^ e.toNat/\x ^ e.toNat<2 ^ 81:=by
 have:=Tx h0 (show x<256 by omega) e.toNat
 exact ⟨this.1,Fs this.2 wF⟩
theorem Tj {sc t b own off:Int} (h:B8 sc t b) (ho:own<=sc) (hf:0<=off/\off<=sc):0<=tA t b sc own off/\tA t b sc own off<2 ^ 250:=by
 have:=h.s1; have:=h.s2; have:=h.t0; have:=h.tb; have:=h.b2
 have a1:=DE (x:=t) (e:=off) h.t0 wF wF
 have a2:=DE (x:=b) (e:=sc-off) wF wF wF
 have a3:=DE (x:=b) (e:=own) wF wF wF
 have b1:=C8 a1.1 a1.2 a2.1 a2.2
 have b2:=C8 (c:=2) b1.1 b1.2 (show (0:Int)<=2 by decide) wE
 have b3:=C8 b2.1 b2.2 a3.1 a3.2
 exact ⟨b3.1,Fs b3.2 wE⟩
theorem F1 {sc t b own:Int} (h:B8 sc t b) (ho:own<=sc):0<=tS t b sc own/\tS t b sc own<2 ^ 250:=by
 have:=h.s1; have:=h.s2; have:=h.t0; have:=h.tb; have:=h.b2
 have a1:=DE (x:=b) (e:=sc) wF wF wF
 have a2:=DE (x:=b) (e:=own) wF wF wF
 have a3:=DE (x:=t) (e:=own) h.t0 wF wF
 have e:(2:Int) ^ 82=2 ^ 81+2 ^ 81:=by decide
 have b1:=C8 (y:=b ^ own.toNat+t ^ own.toNat) (c:=82) a1.1 a1.2 wF (by rw [e]; omega)
 exact ⟨b1.1,Fs b1.2 wE⟩
theorem EX {s x:Int} (h:C9 s (some x)=true):0<=x/\x<=s:=by
 have h:(decide (0<=x)&&decide (x<=s))=true:=h
 rw [Bool.and_eq_true] at h
 exact ⟨of_decide_eq_true h.1,of_decide_eq_true h.2⟩
theorem Ed {s x so:Int} (h:0<=x/\x<=s) (hs:0<=so/\so<=s):0<=ab (x-so)/\ab (x-so)<=s:=by
 unfold ab
 split <;> omega
theorem Ih {sc t b own so:Int} {w:Option Int} (h:B8 sc t b) (ho:own<=sc) (hs:0<=so/\so<=sc) (hw:w=none\/C9 sc w=true):0<=tF t b sc own so w/\tF t b sc own so w<2 ^ 250:=by
 cases w with
 | none=>exact F1 h ho
 | some x=>
  rcases hw with hw | hw
  ·cases hw
  ·exact Tj h ho (Ed (EX hw) hs)
theorem Ez {m sc:Int} {said:List (Option Int)} {ws:List Int} (hs:Bq m sc said) (h0:0<=sc) (hw:Cd ws):0<=AG said ws/\AG said ws<=sc:=by
 have h24:said.length<=24:=by have:=hs.1; have:=hs.2.1; omega
 have hr:=L8 (Ie (ws:=ws) h24 hw)
 unfold AG
 unfold Ha at hr
 by_cases hn:Cj said=[]
 ·rw [if_pos hn] at hr
  rw [of_decide_eq_true hr]
  omega
 ·rw [if_neg hn,Bool.and_eq_true] at hr
  have hm:=of_decide_eq_true hr.1
  unfold Cj at hm
  obtain ⟨k,hk,e⟩:=List.mem_map.mp hm
  have hlt:=Gy hk
  have hq:=(List.mem_filter.mp hk).2
  unfold Cj
  rw [<- e]
  have hmem:Ax said k∈said:=by
   unfold Ax
   rw [List.getElem?_eq_getElem hlt]
   exact List.getElem_mem hlt
  cases hx:Ax said k with
  | none=>rw [hx] at hq; cases hq
  | some x=>
   rw [hx] at hmem
   rcases hs.2.2 _ hmem with h | h
   ·cases h
   ·exact EX h
def Kd:List D->D->Prop:=λds d=>∃ (m s:Int) (said:List (Option Int)) (so:Int),ds=[.int m,.int s,.tup [.tup (said.map od),.int so]]/\Bq m s said/\(0<=so/\so<=s)/\d=.bl true
def EQ:List D->D->Prop:=λds d=>∃ (m s:Int) (said:List (Option Int)) (so:Int),ds=[.int m,.int s,.tup (said.map od),.int so]/\Bq m s said/\(0<=so/\so<=s)/\d=.non
theorem NH (m s t b u:Int) (ws vs:List Int):A6 "tops" (.tup (vs.map D.int)) (A0 m s t b ws u)=A0 m s t b vs u:=by
 unfold A0
 rw [AE wD,AE wD,AE wD,AE wD,EV]
theorem NG (m s t b u v:Int) (ws:List Int):A6 "under" (.int v) (A0 m s t b ws u)=A0 m s t b ws v:=by
 unfold A0
 rw [AE wD,AE wD,AE wD,AE wD,AE wD,EV]
def nW (t b sc dd so:Int) (said:List (Option Int)) (ws:List Int) (k:Nat):Int:=ws.getD k 0*tF t b sc dd so (Ax said k)
theorem Qt {t b sc dd so:Int} {said:List (Option Int)} {ws:List Int} (h:ws.length=said.length):(List.range said.length).map (nW t b sc dd so said ws)=BW t b sc dd so said ws:=by
 unfold BW nW
 refine List.ext_getElem? λi=>?_
 rw [List.getElem?_map,List.getElem?_map]
 by_cases hi:i<said.length
 ·have hz:i<(ws.zip said).length:=by rw [List.length_zip]; omega
  rw [List.getElem?_range hi,List.getElem?_eq_getElem hz,List.getElem_zip]
  have h1:ws.getD i 0=ws[i]:=by rw [List.getD_eq_getElem?_getD,List.getElem?_eq_getElem wF]; rfl
  have h2:Ax said i=said[i]:=by unfold Ax; rw [List.getElem?_eq_getElem hi]; rfl
  show some (ws.getD i 0*tF t b sc dd so (Ax said i))=some (ws[i]*tF t b sc dd so said[i])
  rw [h1,h2]
 ·rw [List.getElem?_eq_none (by simp; omega),List.getElem?_eq_none (by rw [List.length_zip]; omega)]
  rfl
theorem So {n:Nat} {t b sc dd so u:Int} {said:List (Option Int)} {ws:List Int} (hf:B8 sc t b) (hw:Jx n ws u) (hs:∀ w∈said,w=none\/C9 sc w=true) (hso:0<=so/\so<=sc) (hd:0<=dd/\dd<=sc):Jx (n+1) (BW t b sc dd so said ws) (u*tS t b sc dd):=by
 have e:250*(n+1+1)=250*(n+1)+250:=by omega
 have h1:=F1 (own:=dd) hf hd.2
 have h2:=C8 hw.u0 hw.u1 h1.1 h1.2
 refine ⟨λx hx=>?_,h2.1,by rw [e]; exact h2.2⟩
 obtain ⟨p,hp,rfl⟩:=List.mem_map.mp hx
 have h3:=hw.w _ (List.of_mem_zip hp).1
 have h4:=Ih hf hd.2 hso (hs _ (List.of_mem_zip hp).2)
 have h5:=C8 h3.1 h3.2 h4.1 h4.2
 exact ⟨h5.1,by rw [e]; exact h5.2⟩
theorem Gg {t b sc dd so:Int} {said:List (Option Int)} {ws:List Int} (h:ws.length=said.length):(BW t b sc dd so said ws).length=ws.length:=by
 unfold BW
 rw [List.length_map,List.length_zip]
 omega
theorem Sn (n:Nat):Jx 0 (List.replicate n 1) 1:=⟨λx hx=>by rw [List.eq_of_mem_replicate hx]; exact ⟨by decide,by decide⟩,by decide,by decide⟩
def nxt (x:Int):Int:=(x*x+48271*x+11)%2147483647
def Sm (s:Int) (sl:Bool) (so k x:Int):Option Int:=if (sl&&decide (x%4=0))=true then none else some (if 1<x/3%(k%7+3) then so else x/16%(s+1))
def U5 (s:Int) (sl:Bool) (so:Int):Nat->Nat->Int->List (Option Int)
 | 0,_,_=>[]
 | n+1,k,x=>Sm s sl so (k:Int) (nxt (x+(k:Int)))::U5 s sl so n (k+1) (nxt (x+(k:Int)))
structure SP where
 m:Int
 sc:Int
 t:Int
 b:Int
 sh:Int
 pa:Int
def f7 (m s t b:Int) (ws:List Int) (u sh:Int):List (Str×D):=[("many",.int m),("scale",.int s),("top",.int t),("bottom",.int b),("tops",.tup (ws.map D.int)),("under",.int u),("share",.int sh)]
def Bt (p:SP) (ws:List Int) (u:Int):List (Str×D):=[("many",.int p.m),("scale",.int p.sc),("top",.int p.t),("bottom",.int p.b),("tops",.tup (ws.map D.int)),("under",.int u),("share",.int p.sh),("parts",.int p.pa)]
theorem Vo (m s t b u sh:Int) (ws:List Int):A6 "share" (.int sh) (A0 m s t b ws u)=f7 m s t b ws u sh:=by
 unfold A0
 rw [AE wD,AE wD,AE wD,AE wD,AE wD,AE wD]
 rfl
theorem Vr (m s t b u sh pa:Int) (ws:List Int):A6 "parts" (.int pa) (f7 m s t b ws u sh)=Bt ⟨m,s,t,b,sh,pa⟩ ws u:=by
 unfold f7
 rw [AE wD,AE wD,AE wD,AE wD,AE wD,AE wD,AE wD]
 rfl
theorem Og (p:SP) (u:Int) (ws vs:List Int):A6 "tops" (.tup (vs.map D.int)) (Bt p ws u)=Bt p vs u:=by
 unfold Bt
 rw [AE wD,AE wD,AE wD,AE wD,EV]
theorem Of (p:SP) (u v:Int) (ws:List Int):A6 "under" (.int v) (Bt p ws u)=Bt p ws v:=by
 unfold Bt
 rw [AE wD,AE wD,AE wD,AE wD,AE wD,EV]
section
variable (p:SP) (u:Int) (ws:List Int)
theorem GH:(Bt p ws u).lookup ("many" : Str)=some (.int p.m):=Bx
theorem JK:(Bt p ws u).lookup ("scale" : Str)=some (.int p.sc):=by unfold Bt; rw [Ar wD,Bx]
theorem Ny:(Bt p ws u).lookup ("top" : Str)=some (.int p.t):=by unfold Bt; rw [Ar wD,Ar wD,Bx]
theorem Nz:(Bt p ws u).lookup ("bottom" : Str)=some (.int p.b):=by unfold Bt; rw [Ar wD,Ar wD,Ar wD,Bx]
theorem JI:(Bt p ws u).lookup ("tops" : Str)=some (.tup (ws.map D.int)):=by unfold Bt; rw [Ar wD,Ar wD,Ar wD,Ar wD,Bx]
theorem Nx:(Bt p ws u).lookup ("under" : Str)=some (.int u):=by unfold Bt; rw [Ar wD,Ar wD,Ar wD,Ar wD,Ar wD,Bx]
theorem JJ:(Bt p ws u).lookup ("share" : Str)=some (.int p.sh):=by unfold Bt; rw [Ar wD,Ar wD,Ar wD,Ar wD,Ar wD,Ar wD,Bx]
theorem JL:(Bt p ws u).lookup ("parts" : Str)=some (.int p.pa):=by unfold Bt; rw [Ar wD,Ar wD,Ar wD,Ar wD,Ar wD,Ar wD,Ar wD,Bx]
theorem JM {f:Str} (h:([("many" : Str),"scale","top","bottom","tops","under","share","parts"].all λg=>!(f==g))=true):(Bt p ws u).lookup f=none:=by
 simp only [List.all_cons,List.all_nil,Bool.and_true,Bool.and_eq_true,Bool.not_eq_true'] at h
 obtain ⟨h1,h2,h3,h4,h5,h6,h7,h8⟩:=h
 unfold Bt
 rw [Ar h1,Ar h2,Ar h3,Ar h4,Ar h5,Ar h6,Ar h7,Ar h8]
 rfl
end
structure Gz (p:SP):Prop where
 f:B8 p.sc p.t p.b
 m1:1<=p.m
 m2:p.m<=24
 h1:1<=p.sh
 h2:p.sh<p.pa
 h3:p.pa<=100
def JA (C:Addr) (O:Af) (q:Nat) (p:SP) (ws:List Int) (u:Int):Prop:=O[q]?=some (some (.ins C (Bt p ws u)))
structure Ee (n:Nat) (ws:List Int) (u:Int):Prop where
 w:∀ x∈ws,0<=x/\x<2 ^ (270*(n+1))
 u0:0<=u
 u1:u<2 ^ (270*(n+1))
theorem HY (n:Nat):Ee 0 (List.replicate n 1) 1:=⟨λx hx=>by rw [List.eq_of_mem_replicate hx]; exact ⟨by decide,by decide⟩,by decide,by decide⟩
def Dx (p:SP) (ws:List Int):List Int:=ws.map λw=>w*(p.m*(p.pa-p.sh))+p.sh*ws.sum
theorem Q0M (p:SP) (ws:List Int):(Dx p ws).length=ws.length:=by unfold Dx; rw [List.length_map]
theorem QH {p:SP} (h:Gz p):0<=p.m*(p.pa-p.sh)/\p.m*(p.pa-p.sh)<=2376:=by
 have:=h.m1; have:=h.m2; have:=h.h1; have:=h.h2; have:=h.h3
 have h1:p.m*(p.pa-p.sh)<=24*(p.pa-p.sh):=Int.mul_le_mul_of_nonneg_right wF wF
 have h2:0<=p.m*(p.pa-p.sh):=Int.mul_nonneg wF wF
 omega
theorem Q0L {p:SP} {ws:List Int} {e:Nat} (h:Gz p) (hl:ws.length<=24) (hw:∀ x∈ws,0<=x/\x<2 ^ e):∀ x∈Dx p ws,0<=x/\x<2 ^ (e+13):=by
 have:=h.h1; have:=h.h2; have:=h.h3
 have hk:=QH h
 have hE:(1:Int)<=2 ^ e:=Int.pow_pos wE
 have e13:(2:Int) ^ (e+13)=2 ^ e*8192:=by rw [Int.pow_add]; rfl
 have hs0:0<=ws.sum:=by
  have:=ER (g:=λx:Int=>x) (l:=ws) λv hv=>(hw v hv).1
  rw [<- DR,List.map_id'] at this
  exact this
 have hs1:ws.sum<=24*2 ^ e:=by
  have:=sm_bd' (g:=λx:Int=>x) (l:=ws) (B:=2 ^ e) (n:=24) wF hl λv hv=>by have:=(hw v hv).2; omega
  rw [<- DR,List.map_id'] at this
  exact this
 rw [e13]
 generalize (2:Int) ^ e=E at hE hs1 hw
 intro x hx
 obtain ⟨w,hw',rfl⟩:=List.mem_map.mp hx
 have h1:=hw w hw'
 generalize p.m*(p.pa-p.sh)=K at hk
 have a1:w*K<=E*K:=Int.mul_le_mul_of_nonneg_right wF hk.1
 have a2:E*K<=E*2376:=Int.mul_le_mul_of_nonneg_left hk.2 wF
 have a3:p.sh*ws.sum<=99*ws.sum:=Int.mul_le_mul_of_nonneg_right wF hs0
 have a4:0<=p.sh*ws.sum:=Int.mul_nonneg wF hs0
 have a5:0<=w*K:=Int.mul_nonneg h1.1 hk.1
 omega
theorem Ss {n:Nat} {p:SP} {dd so u:Int} {said:List (Option Int)} {ws:List Int} (h:Gz p) (hw:Ee n ws u) (hl:ws.length=said.length) (h24:said.length<=24) (hs:∀ w∈said,w=none\/C9 p.sc w=true) (hso:0<=so/\so<=p.sc) (hd:0<=dd/\dd<=p.sc):Ee (n+1) (Dx p (BW p.t p.b p.sc dd so said ws)) (u*tS p.t p.b p.sc dd*p.m*p.pa):=by
 have:=h.m1; have:=h.m2; have:=h.h1; have:=h.h2; have:=h.h3
 have h1:=F1 (own:=dd) h.f hd.2
 have h2:=C8 hw.u0 hw.u1 h1.1 h1.2
 have h3:=C8 (c:=5) h2.1 h2.2 (show 0<=p.m by omega) wF
 have h4:=C8 (c:=7) h3.1 h3.2 (show 0<=p.pa by omega) wF
 refine ⟨λx hx=>?_,h4.1,Fs h4.2 wF⟩
 have hb:∀ x∈BW p.t p.b p.sc dd so said ws,0<=x/\x<2 ^ (270*(n+1)+250):=λx hx=>by
  obtain ⟨q,hq,rfl⟩:=List.mem_map.mp hx
  have g3:=hw.w _ (List.of_mem_zip hq).1
  have g4:=Ih h.f hd.2 hso (hs _ (List.of_mem_zip hq).2)
  exact C8 g3.1 g3.2 g4.1 g4.2
 have:=Q0L h (by rw [Gg hl,hl]; exact h24) hb x hx
 exact ⟨this.1,Fs this.2 wF⟩
def Ox:List D->D->Prop:=λds d=>∃ a b:Int,ds=[.int a,.int b]/\(1<=a/\a<b/\b<=100)/\d=.non
def Kg (C:Addr):AH:=λds O R=>∃ (q:Nat) (p:SP),ds=[.ptr q,.int p.m,.int p.sc,.int p.t,.int p.b,.int p.sh,.int p.pa]/\O[q]?=some (some (.ins C []))/\Gz p/\R .non (O.set q (some (.ins C (Bt p (List.replicate p.m.toNat 1) 1))))
def OX (C:Addr):AH:=λds O R=>∃ (q:Nat) (p:SP) (u:Int) (ws:List Int),ds=[.ptr q]/\JA C O q p ws u/\Gz p/\ws.length<=24/\R .non (O.set q (some (.ins C (Bt p (Dx p ws) (u*p.m*p.pa)))))
def B4 (CW CS:Addr):Bool->Addr
 | false=>CW
 | true=>CS
def Cn (sf:Bool) (p:SP) (ws:List Int) (u:Int):List (Str×D):=match sf with
 | false=>A0 p.m p.sc p.t p.b ws u
 | true=>Bt p ws u
section
variable (sf:Bool) (p:SP) (u:Int) (ws:List Int)
theorem NL:(Cn sf p ws u).lookup ("many" : Str)=some (.int p.m):=by cases sf; exact GJ ..; exact GH ..
theorem HZ:(Cn sf p ws u).lookup ("scale" : Str)=some (.int p.sc):=by cases sf; exact FT ..; exact JK ..
theorem NK:(Cn sf p ws u).lookup ("top" : Str)=some (.int p.t):=by cases sf; exact JS ..; exact Ny ..
theorem H0:(Cn sf p ws u).lookup ("bottom" : Str)=some (.int p.b):=by cases sf; exact HX ..; exact Nz ..
theorem JU:(Cn sf p ws u).lookup ("tops" : Str)=some (.tup (ws.map D.int)):=by cases sf; exact HW ..; exact JI ..
theorem NJ:(Cn sf p ws u).lookup ("under" : Str)=some (.int u):=by cases sf; exact JR ..; exact Nx ..
theorem FW {f:Str} (h:([("many" : Str),"scale","top","bottom","tops","under"].all λg=>!(f==g))=true) (h2:([("many" : Str),"scale","top","bottom","tops","under","share","parts"].all λg=>!(f==g))=true):(Cn sf p ws u).lookup f=none:=by
 cases sf
 ·exact FU _ _ _ _ _ _ h
 ·exact JM _ _ _ h2
theorem NI:(Cn sf p ws u).length<1000:=by cases sf; show 6<1000; decide; show 8<1000; decide
theorem Sv (vs:List Int):A6 "tops" (.tup (vs.map D.int)) (Cn sf p ws u)=Cn sf p vs u:=by cases sf; exact NH ..; exact Og ..
theorem Su (v:Int):A6 "under" (.int v) (Cn sf p ws u)=Cn sf p ws v:=by cases sf; exact NG ..; exact Of ..
end
def Ef (CW CS:Addr) (O:Af) (q:Nat) (sf:Bool) (p:SP) (ws:List Int) (u:Int):Prop:=O[q]?=some (some (.ins (B4 CW CS sf) (Cn sf p ws u)))
structure Df (sf:Bool) (p:SP):Prop where
 f:B8 p.sc p.t p.b
 m1:1<=p.m
 m2:p.m<=24
 s:sf=true->1<=p.sh/\p.sh<p.pa/\p.pa<=100
theorem Df.so {p:SP} (h:Df true p):Gz p:=⟨h.f,h.m1,h.m2,(h.s rfl).1,(h.s rfl).2.1,(h.s rfl).2.2⟩
def Hk (sf:Bool) (p:SP) (said:List (Option Int)) (so:Int) (ws:List Int):List Int:=match sf with
 | false=>BW p.t p.b p.sc (ab (AG said ws-so)) so said ws
 | true=>Dx p (BW p.t p.b p.sc (ab (AG said ws-so)) so said ws)
def IW (sf:Bool) (p:SP) (said:List (Option Int)) (so:Int) (ws:List Int) (u:Int):Int:=match sf with
 | false=>u*tS p.t p.b p.sc (ab (AG said ws-so))
 | true=>u*tS p.t p.b p.sc (ab (AG said ws-so))*p.m*p.pa
section
variable {P:Program} {w:World} {K:PySem.W.Frag} {mg:Str->Option Value} {base:Heap} {CW CS:Addr} {k1 k2:Nat} {m:Str} {sp:AH} {sq:Bool->AH}
theorem cv (h1:A5 K CW) (h2:A5 K CS) (sf:Bool):A5 K (B4 CW CS sf):=by cases sf; exact h1; exact h2
theorem nv (h1:Ap K CW m) (h2:Ap K CS m) (sf:Bool):Ap K (B4 CW CS sf) m:=by cases sf; exact h1; exact h2
theorem mv (h1:Al P w K mg base CW k1 m sp) (h2:Al P w K mg base CS k1 m sp) (sf:Bool):Al P w K mg base (B4 CW CS sf) k1 m sp:=by cases sf; exact h1; exact h2
theorem mv2 (h1:Al P w K mg base CW k1 m (sq false)) (h2:Al P w K mg base CS k2 m (sq true)) (sf:Bool):Al P w K mg base (B4 CW CS sf) (max k1 k2) m (sq sf):=by cases sf; exact h1.mono (Nat.le_max_left _ _); exact h2.mono (Nat.le_max_right _ _)
end
def F5 (CW CS:Addr):AH:=λds O R=>∃ (q:Nat) (sf:Bool) (p:SP),ds=[.ptr q,.int p.m,.int p.sc,.int p.t,.int p.b]/\O[q]?=some (some (.ins (B4 CW CS sf) []))/\Df false p/\R .non (O.set q (some (.ins (B4 CW CS sf) (A0 p.m p.sc p.t p.b (List.replicate p.m.toNat 1) 1))))
def Kh (CW CS:Addr):AH:=λds O R=>∃ (q:Nat) (sf:Bool) (p:SP) (u:Int) (ws:List Int),ds=[.ptr q]/\Ef CW CS O q sf p ws u/\R (.tup (ws.map D.int)) O
def J6 (CW CS:Addr):AH:=λds O R=>∃ (q:Nat) (sf:Bool) (p:SP) (u:Int) (ws:List Int),ds=[.ptr q]/\Ef CW CS O q sf p ws u/\ws.length<=63/\R (.tup [.int ws.sum,.int u]) O
def Ow (CW CS:Addr):AH:=λds O R=>∃ (q:Nat) (sf:Bool) (p:SP) (u own off:Int) (ws:List Int),ds=[.ptr q,.int own,.int off]/\Ef CW CS O q sf p ws u/\Df sf p/\(0<=own/\own<=p.sc)/\(0<=off/\off<=p.sc)/\R (.int (tA p.t p.b p.sc own off)) O
def J7 (CW CS:Addr):AH:=λds O R=>∃ (q:Nat) (sf:Bool) (p:SP) (u own:Int) (ws:List Int),ds=[.ptr q,.int own]/\Ef CW CS O q sf p ws u/\Df sf p/\(0<=own/\own<=p.sc)/\R (.int (tS p.t p.b p.sc own)) O
def Ov (CW CS:Addr):AH:=λds O R=>∃ (q:Nat) (sf:Bool) (p:SP) (u own so:Int) (w:Option Int) (ws:List Int),ds=[.ptr q,.int own,od w,.int so]/\Ef CW CS O q sf p ws u/\Df sf p/\(0<=own/\own<=p.sc)/\(0<=so/\so<=p.sc)/\(w=none\/C9 p.sc w=true)/\R (.int (tF p.t p.b p.sc own so w)) O
def J5 (CW CS:Addr):AH:=λds O R=>∃ (q n:Nat) (sf:Bool) (p:SP) (u so:Int) (said:List (Option Int)) (ws:List Int),ds=[.ptr q,.tup (said.map od),.int so]/\Ef CW CS O q sf p ws u/\Df sf p/\n<=1000/\Ee n ws u/\(ws.length:Int)=p.m/\Bq p.m p.sc said/\(0<=so/\so<=p.sc) /\
 R .non (O.set q (some (.ins (B4 CW CS sf) (Cn sf p (BW p.t p.b p.sc (ab (AG said ws-so)) so said ws) (u*tS p.t p.b p.sc (ab (AG said ws-so)))))))
def Cp (CW CS:Addr) (sf:Bool):AH:=λds O R=>∃ (q n:Nat) (p:SP) (u so:Int) (said:List (Option Int)) (ws:List Int),ds=[.ptr q,.tup (said.map od),.int so]/\Ef CW CS O q sf p ws u/\Df sf p/\n<=1000/\Ee n ws u/\(ws.length:Int)=p.m/\Bq p.m p.sc said/\(0<=so/\so<=p.sc) /\
 R .non (O.set q (some (.ins (B4 CW CS sf) (Cn sf p (Hk sf p said so ws) (IW sf p said so ws u)))))
def DQ (CW CS:Addr) (sf:Bool):AH:=λds O R=>∃ (q:Nat) (p:SP) (u:Int) (ws:List Int),ds=[.ptr q]/\Ef CW CS O q sf p ws u/\Df sf p/\R (.ptr O.length) (O++[some (.ins (B4 CW CS sf) (Cn sf p (List.replicate p.m.toNat 1) 1))])
theorem Sr {n:Nat} {t b sc dd so u:Int} {said:List (Option Int)} {ws:List Int} (hf:B8 sc t b) (hw:Ee n ws u) (hs:∀ w∈said,w=none\/C9 sc w=true) (hso:0<=so/\so<=sc) (hd:0<=dd/\dd<=sc):Ee (n+1) (BW t b sc dd so said ws) (u*tS t b sc dd):=by
 have h1:=F1 (own:=dd) hf hd.2
 have h2:=C8 hw.u0 hw.u1 h1.1 h1.2
 refine ⟨λx hx=>?_,h2.1,Fs h2.2 wF⟩
 obtain ⟨p,hp,rfl⟩:=List.mem_map.mp hx
 have h3:=hw.w _ (List.of_mem_zip hp).1
 have h4:=Ih hf hd.2 hso (hs _ (List.of_mem_zip hp).2)
 have h5:=C8 h3.1 h3.2 h4.1 h4.2
 exact ⟨h5.1,Fs h5.2 wF⟩
theorem Zx {n:Nat} {sf:Bool} {p:SP} {u so:Int} {said:List (Option Int)} {ws:List Int} (h:Df sf p) (hw:Ee n ws u) (hl:(ws.length:Int)=p.m) (hs:Bq p.m p.sc said) (hso:0<=so/\so<=p.sc):Ee (n+1) (Hk sf p said so ws) (IW sf p said so ws u)/\((Hk sf p said so ws).length:Int)=p.m:=by
 have hs1:=hs.1
 have h24:=hs.2.1
 have hd:=Ed (Ez (ws:=ws) hs (by have:=h.f.s1; omega) (λw h=>(hw.w w h).1)) hso
 cases sf
 ·refine ⟨Sr h.f hw hs.2.2 hso hd,?_⟩
  show ((BW _ _ _ _ _ _ _).length:Int)=_
  rw [Gg wF]; exact hl
 ·refine ⟨Ss h.so hw wF wF hs.2.2 hso hd,?_⟩
  show ((Dx _ _).length:Int)=_
  rw [Q0M,Gg wF]; exact hl
def Ej (sc:List Int) (as:List Nat) (k:Nat):Prop:=k∈as/\∀ j∈as,sc.getD k 0<=sc.getD j 0/\(sc.getD j 0=sc.getD k 0->k<=j)
theorem Ej.uniq {sc:List Int} {as:List Nat} {j k:Nat} (h:Ej sc as j) (g:Ej sc as k):j=k:=by
 have h1:=h.2 k g.1
 have g1:=g.2 j h.1
 have e:sc.getD j 0=sc.getD k 0:=by omega
 have:=h1.2 e.symm
 have:=g1.2 e
 omega
def Hm (sc:List Int):List Nat->Option Nat
 | []=>none
 | k::as=>match Hm sc as with
  | none=>some k
  | some j=>if sc.getD j 0<sc.getD k 0 then some j else some k
theorem Ja (sc:List Int):∀ as:List Nat,as.Pairwise (· < ·)->as≠[]->∃ k,Hm sc as=some k/\Ej sc as k
 | [],_,h=>absurd rfl h
 | k::as,hp,_=>by
  obtain ⟨hk,hp⟩:=List.pairwise_cons.mp hp
  unfold Hm
  by_cases h0:as=[]
  ·subst h0
   refine ⟨k,rfl,List.mem_cons_self,λj hj=>?_⟩
   rcases List.mem_cons.mp hj with rfl | hj
   ·exact ⟨Int.le_refl _,λ_=>Nat.le_refl _⟩
   ·cases hj
  ·obtain ⟨j,e,hj⟩:=Ja sc as hp h0
   rw [e]
   by_cases hd:sc.getD j 0<sc.getD k 0
   ·refine ⟨j,if_pos hd,List.mem_cons_of_mem _ hj.1,λi hi=>?_⟩
    rcases List.mem_cons.mp hi with rfl | hi
    ·exact ⟨by omega,λz=>by omega⟩
    ·exact hj.2 i hi
   ·refine ⟨k,if_neg hd,List.mem_cons_self,λi hi=>?_⟩
    rcases List.mem_cons.mp hi with rfl | hi
    ·exact ⟨Int.le_refl _,λ_=>Nat.le_refl _⟩
    ·have:=hj.2 i hi
     have:=hk i hi
     exact ⟨by omega,λ_=>by omega⟩
theorem RK (said:List (Option Int)):(ax said).Pairwise (· < ·):=List.Pairwise.filter _ List.pairwise_lt_range
def Er (sc:List Int) (said:List (Option Int)):Int:=match Hm sc (ax said) with
 | none=>0
 | some k=>(Ax said k).getD 0
theorem U1 {sc:List Int} {said:List (Option Int)} (h:ax said=[]):Er sc said=0:=by unfold Er; rw [h]; rfl
theorem Po {sc:List Int} {said:List (Option Int)} {k:Nat} (h:Ej sc (ax said) k):Er sc said=(Ax said k).getD 0:=by
 obtain ⟨j,e,hj⟩:=Ja sc (ax said) (RK said) (List.ne_nil_of_mem h.1)
 unfold Er
 rw [e,hj.uniq h]
def Db (said:List (Option Int)) (so:Int) (sc:List Int):List Int:=(sc.zip said).map λp=>p.1+BP p.2 so
theorem Qr {said:List (Option Int)} {so:Int} {sc:List Int} (h:sc.length=said.length):(Db said so sc).length=sc.length:=by
 unfold Db
 rw [List.length_map,List.length_zip]
 omega
theorem Yk {said:List (Option Int)} {so:Int} {sc:List Int} {k:Nat} (h:sc.length=said.length) (hk:k<said.length):(Db said so sc).getD k 0=sc.getD k 0+BP (Ax said k) so:=by
 unfold Db Ax
 rw [List.getD_eq_getElem?_getD,List.getElem?_map,List.getElem?_eq_getElem (show k<(sc.zip said).length by rw [List.length_zip]; omega),List.getElem_zip,List.getD_eq_getElem?_getD,List.getElem?_eq_getElem (show k<sc.length by omega),List.getElem?_eq_getElem hk]
 rfl
def Cz (m s:Int) (ps sc:List Int):List (Str×D):=[("many",.int m),("scale",.int s),("push",.tup (ps.map D.int)),("reached",.tup (sc.map D.int))]
def g2 (m s:Int):List (Str×D):=[("many",.int m),("scale",.int s)]
def g3 (m s:Int) (d:D):List (Str×D):=[("many",.int m),("scale",.int s),("push",d)]
theorem Vv (m s:Int) (d:D):A6 "push" d (g2 m s)=g3 m s d:=by
 unfold g2
 rw [AE wD,AE wD]
 rfl
theorem Vu (m s:Int) (ps sc:List Int):A6 "reached" (.tup (sc.map D.int)) (g3 m s (.tup (ps.map D.int)))=Cz m s ps sc:=by
 unfold g3
 rw [AE wD,AE wD,AE wD]
 rfl
theorem ZY (m s:Int) (ps sc s2:List Int):A6 "reached" (.tup (s2.map D.int)) (Cz m s ps sc)=Cz m s ps s2:=by
 unfold Cz
 rw [AE wD,AE wD,AE wD,EV]
section
variable (m s:Int) (ps sc:List Int)
theorem Jd:(Cz m s ps sc).lookup ("many" : Str)=some (.int m):=Bx
theorem Jb:(Cz m s ps sc).lookup ("scale" : Str)=some (.int s):=by unfold Cz; rw [Ar wD,Bx]
theorem Z0:(Cz m s ps sc).lookup ("push" : Str)=some (.tup (ps.map D.int)):=by unfold Cz; rw [Ar wD,Ar wD,Bx]
theorem MD:(Cz m s ps sc).lookup ("reached" : Str)=some (.tup (sc.map D.int)):=by unfold Cz; rw [Ar wD,Ar wD,Ar wD,Bx]
theorem Jc {f:Str} (h:([("many" : Str),"scale","push","reached"].all λg=>!(f==g))=true):(Cz m s ps sc).lookup f=none:=by
 simp only [List.all_cons,List.all_nil,Bool.and_true,Bool.and_eq_true,Bool.not_eq_true'] at h
 obtain ⟨h1,h2,h3,h4⟩:=h
 unfold Cz
 rw [Ar h1,Ar h2,Ar h3,Ar h4]
 rfl
end
theorem ZT (m s:Int) (d:D):(g3 m s d).lookup ("push" : Str)=some d:=by unfold g3; rw [Ar wD,Ar wD,Bx]
def HP (CK0:Addr) (O:Af) (q:Nat) (m s:Int) (ps sc:List Int):Prop:=O[q]?=some (some (.ins CK0 (Cz m s ps sc)))
def Eh (m:Int) (ps:List Int):Prop:=(ps.length:Int)=m/\∀ p∈ps,0<=p/\p<=10 ^ (60:Int).toNat-1
def poD:Option (List Int)->D
 | none=>.non
 | some ps=>.tup (ps.map D.int)
def Ge (m:Int) (po:Option (List Int)):List Int:=po.getD (List.replicate m.toNat 0)
def OG:List D->D->Prop:=λds d=>∃ (m:Int) (ps:List Int),ds=[.int m,.tup (ps.map D.int)]/\Eh m ps/\m<=24/\d=.non
def OF:List D->D->Prop:=λds d=>∃ (m:Int) (po:Option (List Int)),ds=[.int m,poD po]/\(1<=m/\m<=24)/\Eh m (Ge m po)/\d=.tup ((Ge m po).map D.int)
def OV:List D->D->Prop:=λds d=>∃ (sc:List Int) (as:List Nat) (k:Nat),ds=[.tup (sc.map D.int),.lst (as.map λk=>D.int (k:Nat))]/\as.length<=24/\(∀ k∈as,k<sc.length)/\Ej sc as k/\d=.int (k:Nat)
def F6 (CK0:Addr):AH:=λds O R=>∃ (q:Nat) (m s:Int) (po:Option (List Int)),ds=[.ptr q,.int m,.int s,poD po]/\O[q]?=some (some (.ins CK0 []))/\(1<=m/\m<=24)/\(1<=s/\s<=10)/\Eh m (Ge m po)/\R .non (O.set q (some (.ins CK0 (Cz m s (Ge m po) (Ge m po)))))
def Oy (CK0:Addr):AH:=λds O R=>∃ (q:Nat) (m s:Int) (ps sc:List Int),ds=[.ptr q]/\HP CK0 O q m s ps sc/\R (.tup (sc.map D.int)) O
def F4 (CK0:Addr):AH:=λds O R=>∃ (q:Nat) (m s:Int) (ps sc:List Int) (said:List (Option Int)),ds=[.ptr q,.tup (said.map od)]/\HP CK0 O q m s ps sc/\(1<=m/\m<=24)/\Bq m s said/\(sc.length:Int)=m/\R (.int (Er sc said)) O
def Ep (CK0:Addr):AH:=λds O R=>∃ (q:Nat) (m s so:Int) (ps sc:List Int) (said:List (Option Int)),ds=[.ptr q,.tup (said.map od),.int so]/\HP CK0 O q m s ps sc/\(1<=m/\m<=24)/\Bq m s said/\(0<=so/\so<=s)/\(sc.length:Int)=m/\R .non (O.set q (some (.ins CK0 (Cz m s ps (Db said so sc)))))
def GR (CK0:Addr):AH:=λds O R=>∃ (q:Nat) (m s:Int) (ps sc:List Int),ds=[.ptr q]/\HP CK0 O q m s ps sc/\(1<=m/\m<=24)/\(1<=s/\s<=10)/\Eh m ps/\R (.ptr O.length) (O++[some (.ins CK0 (Cz m s ps ps))])
theorem JN (n:Nat):(List.replicate n [D.int 0]).flatten=(List.replicate n (0:Int)).map D.int:=by rw [L9,List.map_replicate]
theorem YD {sc:List Int} {as:List Nat} {k:Nat} (h:Ej sc as k):Fw (as.map λk=>(sc.getD k 0,((k:Nat):Int)))=(sc.getD k 0,((k:Nat):Int)):=by
 have hne:(as.map λk=>(sc.getD k 0,((k:Nat):Int)))≠[]:=λz=>by
  rw [List.map_eq_nil_iff] at z
  have:=h.1
  rw [z] at this
  cases this
 obtain ⟨j,hj,e⟩:=List.mem_map.mp (YB hne)
 have hj2:Ej sc as j:=by
  refine ⟨hj,λi hi=>?_⟩
  have:=YC (List.mem_map.mpr ⟨i,hi,rfl⟩:(sc.getD i 0,((i:Nat):Int))∈as.map λk=>(sc.getD k 0,((k:Nat):Int)))
  rw [<- e] at this
  have:=of_decide_eq_false this
  refine ⟨?_,λz=>?_⟩ <;> simp only [] at this <;> omega
 rw [<- e,hj2.uniq h]
theorem Z1 {sc:List Int} (h:1<=sc.length):∃ k,Ej sc (List.range sc.length) k:=by
 obtain ⟨k,_,hk⟩:=Ja sc (List.range sc.length) List.pairwise_lt_range (by intro z; have:=congrArg List.length z; rw [List.length_range] at this; have:sc.length=0:=this; omega)
 exact ⟨k,hk⟩
theorem U0 {m s:Int} {sc:List Int} {said:List (Option Int)} (hs:Bq m s said) (h0:0<=s):0<=Er sc said/\Er sc said<=s:=by
 unfold Er
 cases e:Hm sc (ax said) with
 | none=>exact ⟨Int.le_refl _,h0⟩
 | some k=>
  show 0<=(Ax said k).getD 0/\(Ax said k).getD 0<=s
  unfold Ax
  by_cases hk:k<said.length
  ·rw [List.getElem?_eq_getElem hk]
   show 0<=(said[k]).getD 0/\(said[k]).getD 0<=s
   have hw:=hs.2.2 _ (List.getElem_mem hk)
   generalize said[k]=w at hw
   cases w with
   | none=>exact ⟨Int.le_refl _,h0⟩
   | some x=>exact EX (hw.resolve_left (λz=>by cases z))
  ·rw [List.getElem?_eq_none wF]
   exact ⟨Int.le_refl _,h0⟩
def B1 (m s:Int) (ins:List Bool) (ov:Int):List (Str×D):=[("many",.int m),("scale",.int s),("inside",.tup (ins.map D.bl)),("over",.int ov)]
def C3 (b:Bool):Int:=if b=true then 1 else 0
def r2 (m s:Int):List (Str×D):=[("many",.int m),("scale",.int s)]
def r3 (m s:Int) (d:D):List (Str×D):=[("many",.int m),("scale",.int s),("inside",d)]
theorem Vq (m s:Int) (d:D):A6 "inside" d (r2 m s)=r3 m s d:=by
 unfold r2
 rw [AE wD,AE wD]
 rfl
theorem Vp (m s ov:Int) (ins:List Bool):A6 "over" (.int ov) (r3 m s (.tup (ins.map D.bl)))=B1 m s ins ov:=by
 unfold r3
 rw [AE wD,AE wD,AE wD]
 rfl
theorem Pr (m s ov:Int) (ins js:List Bool):A6 "inside" (.tup (js.map D.bl)) (B1 m s ins ov)=B1 m s js ov:=by
 unfold B1
 rw [AE wD,AE wD,EV]
theorem U6 (m s ov o2:Int) (ins:List Bool):A6 "over" (.int o2) (B1 m s ins ov)=B1 m s ins o2:=by
 unfold B1
 rw [AE wD,AE wD,AE wD,EV]
section
variable (m s ov:Int) (ins:List Bool)
theorem G8:(B1 m s ins ov).lookup ("many" : Str)=some (.int m):=Bx
theorem IA:(B1 m s ins ov).lookup ("scale" : Str)=some (.int s):=by unfold B1; rw [Ar wD,Bx]
theorem Pv:(B1 m s ins ov).lookup ("inside" : Str)=some (.tup (ins.map D.bl)):=by unfold B1; rw [Ar wD,Ar wD,Bx]
theorem Pu:(B1 m s ins ov).lookup ("over" : Str)=some (.int ov):=by unfold B1; rw [Ar wD,Ar wD,Ar wD,Bx]
theorem Gb {f:Str} (h:([("many" : Str),"scale","inside","over"].all λg=>!(f==g))=true):(B1 m s ins ov).lookup f=none:=by
 simp only [List.all_cons,List.all_nil,Bool.and_true,Bool.and_eq_true,Bool.not_eq_true'] at h
 obtain ⟨h1,h2,h3,h4⟩:=h
 unfold B1
 rw [Ar h1,Ar h2,Ar h3,Ar h4]
 rfl
end
def GA (CK3:Addr) (O:Af) (q:Nat) (m s:Int) (ins:List Bool) (ov:Int):Prop:=O[q]?=some (some (.ins CK3 (B1 m s ins ov)))
def BS (said:List (Option Int)) (so:Int) (ins:List Bool):List Bool:=(ins.zip said).map λp=>p.1&&decide (BP p.2 so=0)
def D5 (said:List (Option Int)) (so:Int) (ins:List Bool):List Bool:=if (BS said so ins).any id=true then BS said so ins else List.replicate ins.length true
def EY (said:List (Option Int)) (so:Int) (ins:List Bool) (ov:Int):Int:=if (BS said so ins).any id=true then ov else ov+1
def Bh (ins:List Bool):List Int:=ins.map C3
theorem JP (ins:List Bool):Cd (Bh ins):=λw h=>by
 obtain ⟨b,_,rfl⟩:=List.mem_map.mp h
 unfold C3
 split <;> decide
theorem ZB (ins:List Bool):(ins.map λq=>if q=true then D.int 1 else D.int 0)=(Bh ins).map D.int:=by
 unfold Bh
 rw [List.map_map]
 refine List.map_congr_left λb _=>?_
 show (if b=true then D.int 1 else D.int 0)=D.int (C3 b)
 unfold C3
 cases b <;> rfl
theorem Mq {said:List (Option Int)} {so:Int} {ins:List Bool} (h:ins.length=said.length):(BS said so ins).length=ins.length:=by
 unfold BS
 rw [List.length_map,List.length_zip]
 omega
theorem Yn {said:List (Option Int)} {so:Int} {ins:List Bool} (h:ins.length=said.length):(D5 said so ins).length=ins.length:=by
 unfold D5
 split
 ·exact Mq h
 ·rw [List.length_replicate]
theorem NR (n:Nat):(List.replicate n [D.bl true]).flatten=(List.replicate n true).map D.bl:=by rw [L9,List.map_replicate]
def Il (CK3:Addr):AH:=λds O R=>∃ (q:Nat) (m s:Int),ds=[.ptr q,.int m,.int s]/\O[q]?=some (some (.ins CK3 []))/\(1<=m/\m<=24)/\(1<=s/\s<=10)/\R .non (O.set q (some (.ins CK3 (B1 m s (List.replicate m.toNat true) 0))))
def OC (CK3:Addr):AH:=λds O R=>∃ (q:Nat) (m s ov:Int) (ins:List Bool),ds=[.ptr q]/\GA CK3 O q m s ins ov/\R (.int ov) O
def OQ (CK3:Addr):AH:=λds O R=>∃ (q:Nat) (m s ov:Int) (ins:List Bool),ds=[.ptr q]/\GA CK3 O q m s ins ov/\ins.length<=24/\R (.tup ((Bh ins).map D.int)) O
def En (CK3:Addr):AH:=λds O R=>∃ (q:Nat) (m s ov so:Int) (ins:List Bool) (said:List (Option Int)),ds=[.ptr q,.tup (said.map od),.int so]/\GA CK3 O q m s ins ov/\(1<=m/\m<=24)/\Bq m s said/\(0<=so/\so<=s)/\(ins.length:Int)=m/\R .non (O.set q (some (.ins CK3 (B1 m s (D5 said so ins) (EY said so ins ov)))))
def GP (CK3:Addr):AH:=λds O R=>∃ (q:Nat) (m s ov:Int) (ins:List Bool),ds=[.ptr q]/\GA CK3 O q m s ins ov/\(1<=m/\m<=24)/\(1<=s/\s<=10)/\R (.ptr O.length) (O++[some (.ins CK3 (B1 m s (List.replicate m.toNat true) 0))])
theorem Mx {m s:Int} {f:Str} (h:([("many" : Str),"scale"].all λg=>!(f==g))=true):(BL m s).lookup f=none:=by
 simp only [List.all_cons,List.all_nil,Bool.and_true,Bool.and_eq_true,Bool.not_eq_true'] at h
 unfold BL
 rw [Ar h.1,Ar h.2]
 rfl
def Eo (CK1:Addr):AH:=λds O R=>∃ (q:Nat) (m sc so:Int) (said:List (Option Int)),ds=[.ptr q,.tup (said.map od),.int so]/\O[q]?=some (some (.ins CK1 (BL m sc)))/\Bq m sc said/\(0<=so/\so<=sc)/\R .non O
def GQ (CK1:Addr):AH:=λds O R=>∃ (q:Nat) (m sc:Int),ds=[.ptr q]/\O[q]?=some (some (.ins CK1 (BL m sc)))/\(1<=m/\m<=24)/\(1<=sc/\sc<=10)/\R (.ptr O.length) (O++[some (.ins CK1 (BL m sc))])
def OY:List D->D->Prop:=λds d=>∃ (m:Nat) (s:Int) (ts:List Tn),ds=[.int (m:Nat),.int s,.tup (ts.map tD)]/\m<=24/\(∀ t∈ts,B3 m s t)/\d=.non
theorem TQ {O:Af} {q:Nat} {x:Option MO} (h:O[q]?=some x):O.set q x=O:=by
 refine List.ext_getElem? λi=>?_
 by_cases z:q=i
 ·subst z
  rw [BG h]
  exact h.symm
 ·rw [List.getElem?_set_ne z]
def Fl (isC:Addr->Prop):AH:=λds O R=>∃ (q:Nat) (m s:Int) (C:Addr),ds=[.ptr q,.int m,.int s]/\isC C/\O[q]?=some (some (.ins C []))/\(1<=m/\m<=24)/\(1<=s/\s<=10)/\R .non (O.set q (some (.ins C (BL m s))))
def B0 (CH CW CS CR:Addr):AH:=λds O R=>∃ (q:Nat) (m s:Int) (ws:List Int) (said:List (Option Int)),ds=[.ptr q,.tup (said.map od)]/\((O[q]?=some (some (.ins CH (BL m s)))/\ws=List.replicate m.toNat 1)\/(∃ sf p u,Ef CW CS O q sf p ws u/\p.m=m/\p.sc=s)\/∃ ins ov,GA CR O q m s ins ov/\ws=Bh ins)/\(1<=m/\m<=24)/\Bq m s said/\(ws.length:Int)=m/\Cd ws/\R (.int (AG said ws)) O
inductive Hv where
 | h | v (sf:Bool) (p:SP) (ws:List Int) (u:Int) | r (ins:List Bool) (ov:Int) | f (ps sc:List Int)
def DV (CH CW CS CR CF:Addr) (m s:Int):Hv->MO
 | .h=>.ins CH (BL m s)
 | .v sf p ws u=>.ins (B4 CW CS sf) (Cn sf p ws u)
 | .r ins ov=>.ins CR (B1 m s ins ov)
 | .f ps sc=>.ins CF (Cz m s ps sc)
def Br (n m:Nat) (s:Int):Hv->Prop
 | .h=>True
 | .v sf p ws u=>Df sf p/\p.m=(m:Nat)/\p.sc=s/\Ee n ws u/\ws.length=m
 | .r ins _=>ins.length=m
 | .f ps sc=>Eh (m:Nat) ps/\sc.length=m
def C7 (m:Nat) (said:List (Option Int)):Hv->Int
 | .h=>AG said (List.replicate m 1)
 | .v _ _ ws _=>AG said ws
 | .r ins _=>AG said (Bh ins)
 | .f _ sc=>Er sc said
def BI (said:List (Option Int)) (so:Int):Hv->Hv
 | .h=>.h
 | .v sf p ws u=>.v sf p (Hk sf p said so ws) (IW sf p said so ws u)
 | .r ins ov=>.r (D5 said so ins) (EY said so ins ov)
 | .f ps sc=>.f ps (Db said so sc)
def Bn (m:Nat):Hv->Hv
 | .h=>.h
 | .v sf p _ _=>.v sf p (List.replicate m 1) 1
 | .r _ _=>.r (List.replicate m true) 0
 | .f ps _=>.f ps ps
theorem Br.hear {n m:Nat} {s so:Int} {said:List (Option Int)} {v:Hv} (h:Br n m s v) (hs:Bq (m:Nat) s said) (hso:0<=so/\so<=s):Br (n+1) m s (BI said so v):=by
 have hl:=hs.1
 cases v with
 | h=>exact h
 | v sf p ws u=>
  obtain ⟨h1,h2,h3,h4,h5⟩:=h
  obtain ⟨g1,g2⟩:=Zx h1 h4 (by rw [h2,h5]) (by rw [h2,h3]; exact hs) (by rw [h3]; exact hso)
  exact ⟨h1,h2,h3,g1,by have:=g2.trans h2; omega⟩
 | r ins ov=>
  have h:ins.length=m:=h
  show (D5 said so ins).length=m
  rw [Yn wF]; exact h
 | f ps sc=>exact ⟨h.1,by rw [Qr (by have:=h.2; omega)]; exact h.2⟩
theorem Br.anew {n m:Nat} {s:Int} {v:Hv} (h:Br n m s v):Br 0 m s (Bn m v):=by
 cases v with
 | h=>exact h
 | v sf p ws u=>exact ⟨h.1,h.2.1,h.2.2.1,HY m,List.length_replicate⟩
 | r ins ov=>exact List.length_replicate
 | f ps sc=>exact ⟨h.1,by have:=h.1.1; omega⟩
theorem Pq {n m:Nat} {s:Int} {said:List (Option Int)} {v:Hv} (h:Br n m s v) (hs:Bq (m:Nat) s said) (h0:0<=s):0<=C7 m said v/\C7 m said v<=s:=by
 cases v with
 | h=>exact Ez hs h0 (λw hw=>by rw [List.eq_of_mem_replicate hw]; decide)
 | v sf p ws u=>exact Ez hs h0 (λw hw=>(h.2.2.2.1.w w hw).1)
 | r ins ov=>exact Ez hs h0 (JP ins)
 | f ps sc=>exact U0 hs h0
section
variable {X:Cx} {ρ:Aj} {O:Af} {CH CW CS CR CF:Addr} {o e e2:Expr} {q n m k1 k2 k3 k4 k6:Nat} {s so:Int} {v:Hv} {said:List (Option Int)} {R:D->Af->Prop} {pos apos:Pos}
theorem MJ {pl:Sem Bool} (M1:Al X.prog X.w X.K X.mg X.base CH k1 "say" (B0 CH CW CS CR)) (M2:Al X.prog X.w X.K X.mg X.base CW k1 "say" (B0 CH CW CS CR)) (M3:Al X.prog X.w X.K X.mg X.base CS k1 "say" (B0 CH CW CS CR)) (M4:Al X.prog X.w X.K X.mg X.base CR k1 "say" (B0 CH CW CS CR)) (r1:AL k1 X.A) (M6:Al X.prog X.w X.K X.mg X.base CF k6 "say" (F4 CF)) (r6:AL k6 X.A)
  (ho:Ac X ρ O o (.ptr q)) (hq:O[q]?=some (some (DV CH CW CS CR CF (m:Nat) s v))) (hok:Br n m s v) (hm:1<=m/\m<=24) (hs:Bq (m:Nat) s said) (ha:BK X ρ O [e] [.tup (said.map od)])
  (hst:starEach [e] X.env=(false,eval e X.env)::starEach [] X.env:=by rfl) (hpl:(backTo pos (starEach [] X.env)).any (·.1)=false:=by rfl)
  (ht:eval (.Call (.Attribute o "say" apos) [e] [] pos) X.env=(do
   let ov <- eval o X.env
   standAt apos.atName
   let (f,first) <- holding [ov] (getMethod ov "say" pl)
   callWith pos f first (backTo pos (starEach [e] X.env)) (backToKw pos (keywordEach [] X.env))):=by rfl):Ac X ρ O (.Call (.Attribute o "say" apos) [e] [] pos) (.int (C7 m said v)):=by
 have hmI:(1:Int)<=(m:Nat)/\((m:Nat):Int)<=24:=⟨by omega,by omega⟩
 cases v with
 | h=>exact Ev.evp (CN M1 r1 ho hq (Mx wD) ha ⟨q,(m:Nat),s,List.replicate m 1,said,rfl,.inl ⟨hq,by rw [Int.toNat_natCast]⟩,hmI,hs,by rw [List.length_replicate],(λw hw=>by rw [List.eq_of_mem_replicate hw]; decide),rfl,rfl⟩ hst hpl ht)
 | v sf p ws u=>exact Ev.evp (CN (mv M2 M3 sf) r1 ho hq (FW _ _ _ _ wD wD) ha ⟨q,(m:Nat),s,ws,said,rfl,.inr (.inl ⟨sf,p,u,hq,hok.2.1,hok.2.2.1⟩),hmI,hs,by rw [hok.2.2.2.2],(λw hw=>(hok.2.2.2.1.w w hw).1),rfl,rfl⟩ hst hpl ht)
 | r ins ov=>exact Ev.evp (CN M4 r1 ho hq (Gb _ _ _ _ wD) ha ⟨q,(m:Nat),s,Bh ins,said,rfl,.inr (.inr ⟨ins,ov,hq,rfl⟩),hmI,hs,by have h:ins.length=m:=hok; rw [show (Bh ins).length=ins.length from List.length_map ..,h],JP ins,rfl,rfl⟩ hst hpl ht)
 | f ps sc=>exact Ev.evp (CN M6 r6 ho hq (Jc _ _ _ _ wD) ha ⟨q,(m:Nat),s,ps,sc,said,rfl,hq,hmI,hs,by rw [hok.2],rfl,rfl⟩ hst hpl ht)
theorem Gq {pl:Sem Bool} (M1:Al X.prog X.w X.K X.mg X.base CH k1 "hear" (Eo CH)) (M2:Al X.prog X.w X.K X.mg X.base CW k2 "hear" (Cp CW CS false)) (M3:Al X.prog X.w X.K X.mg X.base CS k3 "hear" (Cp CW CS true)) (M4:Al X.prog X.w X.K X.mg X.base CR k4 "hear" (En CR)) (r1:AL k1 X.A) (r2:AL (max k2 k3) X.A) (r3:AL k4 X.A) (M6:Al X.prog X.w X.K X.mg X.base CF k6 "hear" (Ep CF)) (r6:AL k6 X.A)
  (ho:Ac X ρ O o (.ptr q)) (hq:O[q]?=some (some (DV CH CW CS CR CF (m:Nat) s v))) (hok:Br n m s v) (hn:n<=1000) (hm:1<=m/\m<=24) (hs:Bq (m:Nat) s said) (hso:0<=so/\so<=s) (ha:BK X ρ O [e,e2] [.tup (said.map od),.int so]) (hR:R .non (O.set q (some (DV CH CW CS CR CF (m:Nat) s (BI said so v)))))
  (hst:starEach [e,e2] X.env=(false,eval e X.env)::starEach [e2] X.env:=by rfl) (hpl:(backTo pos (starEach [e2] X.env)).any (·.1)=false:=by rfl)
  (ht:eval (.Call (.Attribute o "hear" apos) [e,e2] [] pos) X.env=(do
   let ov <- eval o X.env
   standAt apos.atName
   let (f,first) <- holding [ov] (getMethod ov "hear" pl)
   callWith pos f first (backTo pos (starEach [e,e2] X.env)) (backToKw pos (keywordEach [] X.env))):=by rfl):Ev X ρ O (.Call (.Attribute o "hear" apos) [e,e2] [] pos) R:=by
 have hmI:(1:Int)<=(m:Nat)/\((m:Nat):Int)<=24:=⟨by omega,by omega⟩
 cases v with
 | h=>
  have hR:R .non (O.set q (some (DV CH CW CS CR CF (m:Nat) s .h))):=hR
  rw [TQ hq] at hR
  exact CN M1 r1 ho hq (Mx wD) ha ⟨q,(m:Nat),s,so,said,rfl,hq,hs,hso,hR⟩ hst hpl ht
 | v sf p ws u=>exact CN (mv2 (sq:=Cp CW CS) M2 M3 sf) r2 ho hq (FW _ _ _ _ wD wD) ha ⟨q,n,p,u,so,said,ws,rfl,hq,hok.1,hn,hok.2.2.2.1,by rw [hok.2.2.2.2,hok.2.1],by rw [hok.2.1,hok.2.2.1]; exact hs,by rw [hok.2.2.1]; exact hso,hR⟩ hst hpl ht
 | r ins ov=>exact CN M4 r3 ho hq (Gb _ _ _ _ wD) ha ⟨q,(m:Nat),s,ov,so,ins,said,rfl,hq,hmI,hs,hso,by have h:ins.length=m:=hok; rw [h],hR⟩ hst hpl ht
 | f ps sc=>exact CN M6 r6 ho hq (Jc _ _ _ _ wD) ha ⟨q,(m:Nat),s,so,ps,sc,said,rfl,hq,hmI,hs,hso,by rw [hok.2],hR⟩ hst hpl ht
theorem ML {pl:Sem Bool} (M1:Al X.prog X.w X.K X.mg X.base CH k1 "anew" (GQ CH)) (M2:Al X.prog X.w X.K X.mg X.base CW k2 "anew" (DQ CW CS false)) (M3:Al X.prog X.w X.K X.mg X.base CS k3 "anew" (DQ CW CS true)) (M4:Al X.prog X.w X.K X.mg X.base CR k4 "anew" (GP CR)) (r1:AL k1 X.A) (r2:AL (max k2 k3) X.A) (r3:AL k4 X.A) (M6:Al X.prog X.w X.K X.mg X.base CF k6 "anew" (GR CF)) (r6:AL k6 X.A)
  (ho:Ac X ρ O o (.ptr q)) (hq:O[q]?=some (some (DV CH CW CS CR CF (m:Nat) s v))) (hok:Br n m s v) (hm:1<=m/\m<=24) (hs:1<=s/\s<=10) (hR:R (.ptr O.length) (O++[some (DV CH CW CS CR CF (m:Nat) s (Bn m v))]))
  (ht:eval (.Call (.Attribute o "anew" apos) [] [] pos) X.env=(do
   let ov <- eval o X.env
   standAt apos.atName
   let (f,first) <- holding [ov] (getMethod ov "anew" pl)
   callWith pos f first (backTo pos (starEach [] X.env)) (backToKw pos (keywordEach [] X.env))):=by rfl):Ev X ρ O (.Call (.Attribute o "anew" apos) [] [] pos) R:=by
 have hmI:(1:Int)<=(m:Nat)/\((m:Nat):Int)<=24:=⟨by omega,by omega⟩
 cases v with
 | h=>exact CZ M1 r1 ho hq (Mx wD) ⟨q,(m:Nat),s,rfl,hq,hmI,hs,hR⟩ ht
 | v sf p ws u=>exact CZ (mv2 (sq:=DQ CW CS) M2 M3 sf) r2 ho hq (FW _ _ _ _ wD wD) ⟨q,p,u,ws,rfl,hq,hok.1,by rw [hok.2.1,Int.toNat_natCast]; exact hR⟩ ht
 | r ins ov=>exact CZ M4 r3 ho hq (Gb _ _ _ _ wD) ⟨q,(m:Nat),s,ov,ins,rfl,hq,hmI,hs,by rw [Int.toNat_natCast]; exact hR⟩ ht
 | f ps sc=>exact CZ M6 r6 ho hq (Jc _ _ _ _ wD) ⟨q,(m:Nat),s,ps,sc,rfl,hq,hmI,hs,hok.1,hR⟩ ht
theorem Gp (c1:A5 X.K CH) (c2:A5 X.K CW) (c3:A5 X.K CS) (c4:A5 X.K CR) (n1:Ap X.K CH "many") (n2:Ap X.K CW "many") (n3:Ap X.K CS "many") (n4:Ap X.K CR "many") (c6:A5 X.K CF) (n6:Ap X.K CF "many") (ho:Ac X ρ O o (.ptr q)) (hq:O[q]?=some (some (DV CH CW CS CR CF (m:Nat) s v))) (hok:Br n m s v) (hb:attributeBase o ("many" : Str) X.env (eval o X.env)=eval o X.env:=by rfl):Ac X ρ O (.Attribute o "many" pos) (.int (m:Nat)):=by
 cases v with
 | h=>exact Aq ho hq c1 n1 (Hl _ _) hb
 | v sf p ws u=>rw [<- hok.2.1]; exact Aq ho hq (cv c2 c3 sf) (nv n2 n3 sf) (NL _ _ _ _) hb
 | r ins ov=>exact Aq ho hq c4 n4 (G8 _ _ _ _) hb
 | f ps sc=>exact Aq ho hq c6 n6 (Jd _ _ _ _) hb
theorem Go (c1:A5 X.K CH) (c2:A5 X.K CW) (c3:A5 X.K CS) (c4:A5 X.K CR) (n1:Ap X.K CH "scale") (n2:Ap X.K CW "scale") (n3:Ap X.K CS "scale") (n4:Ap X.K CR "scale") (c6:A5 X.K CF) (n6:Ap X.K CF "scale") (ho:Ac X ρ O o (.ptr q)) (hq:O[q]?=some (some (DV CH CW CS CR CF (m:Nat) s v))) (hok:Br n m s v) (hb:attributeBase o ("scale" : Str) X.env (eval o X.env)=eval o X.env:=by rfl):Ac X ρ O (.Attribute o "scale" pos) (.int s):=by
 cases v with
 | h=>exact Aq ho hq c1 n1 (IX _ _) hb
 | v sf p ws u=>rw [<- hok.2.2.1]; exact Aq ho hq (cv c2 c3 sf) (nv n2 n3 sf) (HZ _ _ _ _) hb
 | r ins ov=>exact Aq ho hq c4 n4 (IA _ _ _ _) hb
 | f ps sc=>exact Aq ho hq c6 n6 (Jb _ _ _ _) hb
theorem Q9 {k:Bool} {x:Str} {C2:Addr} {p p2:Pos} (hm:X.mg "isinstance" = none) (he:Ac X ρ O e (.ptr q)) (hq:O[q]?=some (some (DV CH CW CS CR CF (m:Nat) s v))) (t1:Dr X.K CH) (t2:Dr X.K CW) (t3:Dr X.K CS) (t4:Dr X.K CR) (hx:X.mg x=some (.ref C2)) (k1:PySem.W.kitOne X.K (.ref CH) (.ref C2)=some k) (k2:PySem.W.kitOne X.K (.ref CW) (.ref C2)=some k) (k3:PySem.W.kitOne X.K (.ref CS) (.ref C2)=some k) (k4:PySem.W.kitOne X.K (.ref CR) (.ref C2)=some k) (t6:Dr X.K CF) (k6':PySem.W.kitOne X.K (.ref CF) (.ref C2)=some k)
  (hg:Gl X "isinstance" := by rfl) (hgx:Gl X x:=by rfl) (hdx:(x==("__debug__" : Str))=false:=by decide) (hs:starEach [e,.Name x p2] X.env=(false,eval e X.env)::starEach [.Name x p2] X.env:=by rfl) (hpl:(backTo pos (starEach [.Name x p2] X.env)).any (·.1)=false:=by rfl) :
  Ac X ρ O (.Call (.Name "isinstance" p) [e,.Name x p2] [] pos) (.bl k):=by
 cases v with
 | h=>exact Hq hm he hq t1 hx k1 hg hgx hdx hs hpl
 | v sf p ws u=>
  cases sf
  ·exact Hq hm he hq t2 hx k2 hg hgx hdx hs hpl
  ·exact Hq hm he hq t3 hx k3 hg hgx hdx hs hpl
 | r ins ov=>exact Hq hm he hq t4 hx k4 hg hgx hdx hs hpl
 | f ps sc=>exact Hq hm he hq t6 hx k6' hg hgx hdx hs hpl
end
def Cg (m s:Int) (q n:Nat) (ch:List Int):List (Str×D):=[("many",.int m),("scale",.int s),("hands",.tup ((List.range n).map λi=>.ptr (q+1+i))),("head",.ptr (q+1+n)),("charged",.tup (ch.map D.int))]
def JZ (m s:Int) (d e:D):List (Str×D):=[("many",.int m),("scale",.int s),("hands",d),("head",e)]
def GL (m s:Int) (d:D):List (Str×D):=[("many",.int m),("scale",.int s),("hands",d)]
theorem Vt (m s:Int) (d:D):A6 "hands" d (BL m s)=GL m s d:=by
 unfold BL
 rw [AE wD,AE wD]
 rfl
theorem Vs (m s:Int) (d e:D):A6 "head" e (GL m s d)=JZ m s d e:=by
 unfold GL
 rw [AE wD,AE wD,AE wD]
 rfl
theorem Vw (m s:Int) (q n:Nat) (ch:List Int):A6 "charged" (.tup (ch.map D.int)) (JZ m s (.tup ((List.range n).map λi=>.ptr (q+1+i))) (.ptr (q+1+n)))=Cg m s q n ch:=by
 unfold JZ
 rw [AE wD,AE wD,AE wD,AE wD]
 rfl
theorem SO (m s:Int) (q n:Nat) (ch cs:List Int):A6 "charged" (.tup (cs.map D.int)) (Cg m s q n ch)=Cg m s q n cs:=by
 unfold Cg
 rw [AE wD,AE wD,AE wD,AE wD,EV]
section
variable (m s:Int) (q n:Nat) (ch:List Int)
theorem JW:(Cg m s q n ch).lookup ("many" : Str)=some (.int m):=Bx
theorem JV:(Cg m s q n ch).lookup ("scale" : Str)=some (.int s):=by unfold Cg; rw [Ar wD,Bx]
theorem JY:(Cg m s q n ch).lookup ("hands" : Str)=some (.tup ((List.range n).map λi=>.ptr (q+1+i))):=by unfold Cg; rw [Ar wD,Ar wD,Bx]
theorem JX:(Cg m s q n ch).lookup ("head" : Str)=some (.ptr (q+1+n)):=by unfold Cg; rw [Ar wD,Ar wD,Ar wD,Bx]
theorem NS:(Cg m s q n ch).lookup ("charged" : Str)=some (.tup (ch.map D.int)):=by unfold Cg; rw [Ar wD,Ar wD,Ar wD,Ar wD,Bx]
theorem F0 {f:Str} (h:([("many" : Str),"scale","hands","head","charged"].all λg=>!(f==g))=true):(Cg m s q n ch).lookup f=none:=by
 simp only [List.all_cons,List.all_nil,Bool.and_true,Bool.and_eq_true,Bool.not_eq_true'] at h
 obtain ⟨h1,h2,h3,h4,h5⟩:=h
 unfold Cg
 rw [Ar h1,Ar h2,Ar h3,Ar h4,Ar h5]
 rfl
end
theorem De {O Y:Af} {i:Nat} {x:Option MO} (h:O[i]?=some x):(O++Y)[i]?=some x:=by rw [List.getElem?_append_left (List.getElem?_eq_some_iff.mp h).1]; exact h
theorem IN {A Z:Af} {x:Option MO}:(A++[x]++Z)[A.length]?=some x:=by rw [List.append_assoc,List.getElem?_append_right (Nat.le_refl _),Nat.sub_self]; rfl
theorem Mo {A Z:Af} {x y:Option MO}:(A++[x]++Z).set A.length y=A++[y]++Z:=by rw [List.append_assoc,List.set_append_right (h:=Nat.le_refl _),Nat.sub_self,List.append_assoc]; rfl
theorem PH {α:Type} (l:List α) (d:α):(List.range l.length).map (λi=>l.getD i d)=l:=by
 refine List.ext_getElem? λi=>?_
 rw [List.getElem?_map]
 by_cases hi:i<l.length
 ·rw [List.getElem?_range hi,List.getElem?_eq_getElem hi]
  show some (l.getD i d)=_
  rw [List.getD_eq_getElem?_getD,List.getElem?_eq_getElem hi]; rfl
 ·rw [List.getElem?_eq_none (by rw [List.length_range]; omega),List.getElem?_eq_none wF]; rfl
structure Cs where
 h:Addr
 w:Addr
 s:Addr
 r:Addr
 t:Addr
 f:Addr
def Cs.o (C:Cs) (m s:Int) (v:Hv):MO:=DV C.h C.w C.s C.r C.f m s v
structure Cu (C:Cs) (O:Af) (q:Nat) (m:Nat) (s:Int) (hs:List Hv) (hd:Hv) (ch:List Int):Prop where
 o:O[q]?=some (some (.ins C.t (Cg (m:Nat) s q hs.length ch)))
 h:∀ i v,hs[i]?=some v->O[q+1+i]?=some (some (C.o (m:Nat) s v))
 d:O[q+1+hs.length]?=some (some (C.o (hs.length:Nat) s hd))
structure Dn (n m:Nat) (s:Int) (hs:List Hv) (hd:Hv) (ch:List Int):Prop where
 h:∀ v∈hs,Br n m s v
 d:Br n hs.length s hd
 l1:1<=hs.length
 l2:hs.length<=24
 c:ch.length=hs.length
def BA (m:Nat) (said:List (Option Int)) (hs:List Hv):List Int:=hs.map (C7 m said)
def Bp (l:List Int):List (Option Int):=l.map some
theorem RQ (l:List Int):(Bp l).map od=l.map D.int:=by unfold Bp; rw [List.map_map]; rfl
theorem Jw {n m:Nat} {s:Int} {said:List (Option Int)} {hs:List Hv} (h:∀ v∈hs,Br n m s v) (h2:hs.length<=24) (hsd:Bq (m:Nat) s said) (h0:0<=s):Bq ((hs.length:Nat):Int) s (Bp (BA m said hs)):=by
 refine ⟨by unfold Bp BA; rw [List.length_map,List.length_map],by omega,λw hw=>?_⟩
 obtain ⟨x,hx,rfl⟩:=List.mem_map.mp hw
 obtain ⟨v,hv,rfl⟩:=List.mem_map.mp hx
 right
 have:=Pq (h v hv) hsd h0
 show (decide (0<=_)&&decide (_<=s))=true
 rw [decide_eq_true this.1,decide_eq_true this.2]; rfl
def Ey (m:Nat) (said:List (Option Int)) (so:Int) (hs:List Hv) (ch:List Int):List Int:=(ch.zip (BA m said hs)).map λx=>x.1+ab (x.2-so)
structure EO (q n:Nat) (O O':Af):Prop where
 l:O'.length=O.length
 o:∀ j,j<q\/q+1+n<j->O'[j]?=O[j]?
theorem EO.refl (q n:Nat) (O:Af):EO q n O O:=⟨rfl,λ_ _=>rfl⟩
theorem EO.set {q n i:Nat} {O O':Af} {x:Option MO} (h:EO q n O O') (h1:q<=i) (h2:i<=q+1+n):EO q n O (O'.set i x):=⟨by rw [List.length_set]; exact h.l,λj hj=>by rw [List.getElem?_set_ne wF]; exact h.o j hj⟩
def Km (C:Cs):AH:=λds O R=>∃ (q n m:Nat) (s:Int) (hs:List Hv) (hd:Hv) (ch:List Int) (said:List (Option Int)),ds=[.ptr q,.tup (said.map od)]/\Cu C O q m s hs hd ch/\Dn n m s hs hd ch/\(1<=m/\m<=24)/\Bq (m:Nat) s said/\R (.tup ((BA m said hs).map D.int)) O
def Pp (m:Nat) (said:List (Option Int)) (hs:List Hv) (hd:Hv):Int:=C7 hs.length (Bp (BA m said hs)) hd
def J8 (C:Cs):AH:=λds O R=>∃ (q n m:Nat) (s:Int) (hs:List Hv) (hd:Hv) (ch:List Int) (said:List (Option Int)),ds=[.ptr q,.tup (said.map od)]/\Cu C O q m s hs hd ch/\Dn n m s hs hd ch/\(1<=m/\m<=24)/\0<=s/\Bq (m:Nat) s said/\R (.int (Pp m said hs hd)) O
def OZ (C:Cs):AH:=λds O R=>∃ (q m:Nat) (s:Int) (hs:List Hv) (hd:Hv) (ch:List Int),ds=[.ptr q]/\Cu C O q m s hs hd ch/\R (.tup (ch.map D.int)) O
def Im (C:Cs):AH:=λds O R=>∃ (q n m:Nat) (s so:Int) (hs:List Hv) (hd:Hv) (ch:List Int) (said:List (Option Int)),ds=[.ptr q,.tup (said.map od),.int so]/\Cu C O q m s hs hd ch/\Dn n m s hs hd ch/\n<=1000/\(1<=m/\m<=24)/\Bq (m:Nat) s said/\(0<=so/\so<=s) /\
 ∀ O',EO q hs.length O O'->Cu C O' q m s (hs.map (BI said so)) (BI (Bp (BA m said hs)) so hd) (Ey m said so hs ch)->R .non O'
def Du (C:Cs) (m:Nat) (s:Int) (q:Nat) (hs:List Hv) (hd:Hv):Af:=some (.ins C.t (Cg (m:Nat) s q hs.length (List.replicate hs.length 0)))::(hs.map (λv=>some (C.o (m:Nat) s (Bn m v)))++[some (C.o (hs.length:Nat) s (Bn hs.length hd))])
def Dq (C:Cs) (O:Af) (m:Nat) (s:Int) (pv:List (Nat×Hv)):Prop:=∀ x∈pv,O[x.1]?=some (some (C.o (m:Nat) s x.2))/\∃ n,Br n m s x.2
def Ot (C:Cs):AH:=λds O R=>∃ (m:Nat) (s:Int) (pv:List (Nat×Hv)) (hp:Nat) (hd:Hv),ds=[.tup (pv.map λx=>.ptr x.1),.ptr hp]/\Dq C O m s pv/\Dq C O pv.length s [(hp,hd)]/\(1<=m/\m<=24)/\(1<=s/\s<=10)/\(1<=pv.length/\pv.length<=24)/\R .non O
def O6 (C:Cs):AH:=λds O R=>∃ (m:Nat) (s:Int) (pv:List (Nat×Hv)),ds=[.tup (pv.map λx=>.ptr x.1)]/\Dq C O m s pv/\(1<=pv.length/\pv.length<=24)/\R (.bl true) O
def OO (C:Cs):AH:=λds O R=>∃ (m:Nat) (s:Int) (pv:List (Nat×Hv)) (hp:Nat) (hd:Hv),ds=[.tup (pv.map λx=>.ptr x.1),.ptr hp]/\Dq C O m s pv/\Dq C O pv.length s [(hp,hd)]/\(1<=pv.length/\pv.length<=24)/\R (.bl true) O
def Kf (C:Cs):AH:=λds O R=>∃ (q m:Nat) (s:Int) (pv:List (Nat×Hv)) (hp:Nat) (hd:Hv) (O0:Af),ds=[.ptr q,.tup (pv.map λx=>.ptr x.1),.ptr hp]/\O=O0++[some (.ins C.t [])]/\q=O0.length/\Dq C O0 m s pv/\Dq C O0 pv.length s [(hp,hd)]/\(1<=m/\m<=24)/\(1<=s/\s<=10)/\(1<=pv.length/\pv.length<=24)/\R .non (O0++Du C m s q (pv.map (·.2)) hd)
def Kn (C:Cs):AH:=λds O R=>∃ (q n m:Nat) (s:Int) (hs:List Hv) (hd:Hv) (ch:List Int),ds=[.ptr q]/\Cu C O q m s hs hd ch/\Dn n m s hs hd ch/\(1<=m/\m<=24)/\(1<=s/\s<=10)/\R (.ptr O.length) (O++Du C m s O.length hs hd)
theorem Dq.app {C:Cs} {O Y:Af} {m:Nat} {s:Int} {pv:List (Nat×Hv)} (h:Dq C O m s pv):Dq C (O++Y) m s pv:=λx hx=>⟨De (h x hx).1,(h x hx).2⟩
theorem Cu.app {C:Cs} {O Y:Af} {q m:Nat} {s:Int} {hs:List Hv} {hd:Hv} {ch:List Int} (h:Cu C O q m s hs hd ch):Cu C (O++Y) q m s hs hd ch:=⟨De h.o,λi v hv=>De (h.h i v hv),De h.d⟩
theorem Qs {C:Cs} {O Y:Af} {m:Nat} {s:Int} {hs:List Hv} {hd:Hv}:Cu C (O++Du C m s O.length hs hd++Y) O.length m s (hs.map (Bn m)) (Bn hs.length hd) (List.replicate hs.length 0):=by
 have e:∀ k,(O++Du C m s O.length hs hd)[O.length+k]?=(Du C m s O.length hs hd)[k]?:=λk=>by rw [List.getElem?_append_right wF,Nat.add_sub_cancel_left]
 have hl:(hs.map λv=>some (C.o (m:Nat) s (Bn m v))).length=hs.length:=List.length_map ..
 refine Cu.app ⟨?_,λi v hv=>?_,?_⟩
 ·rw [List.length_map]
  exact e 0
 ·rw [List.getElem?_map] at hv
  obtain ⟨w,hw,rfl⟩:=Option.map_eq_some_iff.mp hv
  have hi:=(List.getElem?_eq_some_iff.mp hw).1
  rw [Nat.add_assoc,e]
  show (_::_)[1+i]?=_
  rw [Nat.add_comm 1 i,List.getElem?_cons_succ,List.getElem?_append_left wF,List.getElem?_map,hw]
  rfl
 ·rw [Nat.add_assoc,e,List.length_map]
  show (_::_)[1+hs.length]?=_
  rw [Nat.add_comm 1 hs.length,List.getElem?_cons_succ,List.getElem?_append_right wF,hl,Nat.sub_self]
  rfl
theorem Yo {C:Cs} {m:Nat} {s:Int} {q:Nat} {hs:List Hv} {hd:Hv}:(Du C m s q hs hd).length=hs.length+2:=by
 unfold Du
 rw [List.length_cons,List.length_append,List.length_map]
 rfl
theorem Dn.hear {n m:Nat} {s so:Int} {hs:List Hv} {hd:Hv} {ch:List Int} {said:List (Option Int)} (h:Dn n m s hs hd ch) (hsd:Bq (m:Nat) s said) (hso:0<=so/\so<=s) (h0:0<=s):Dn (n+1) m s (hs.map (BI said so)) (BI (Bp (BA m said hs)) so hd) (Ey m said so hs ch):=by
 refine ⟨λv hv=>?_,by rw [List.length_map]; exact h.d.hear (Jw h.h h.l2 hsd h0) hso,by rw [List.length_map]; exact h.l1,by rw [List.length_map]; exact h.l2,?_⟩
 ·obtain ⟨w,hw,rfl⟩:=List.mem_map.mp hv
  exact (h.h w hw).hear hsd hso
 ·unfold Ey BA
  rw [List.length_map,List.length_zip,List.length_map,List.length_map,h.c]
  omega
theorem Dn.anew {n m:Nat} {s:Int} {hs:List Hv} {hd:Hv} {ch:List Int} (h:Dn n m s hs hd ch):Dn 0 m s (hs.map (Bn m)) (Bn hs.length hd) (List.replicate hs.length 0):=⟨λv hv=>by
 obtain ⟨w,hw,rfl⟩:=List.mem_map.mp hv
 exact (h.h w hw).anew,by rw [List.length_map]; exact h.d.anew,by rw [List.length_map]; exact h.l1,by rw [List.length_map]; exact h.l2,by rw [List.length_replicate,List.length_map]⟩
inductive Hx where
 | p (v:Hv) | t (hs:List Hv) (hd:Hv) (ch:List Int)
def CG (C:Cs) (O:Af) (q m:Nat) (s:Int):Hx->Prop
 | .p v=>O[q]?=some (some (C.o (m:Nat) s v))
 | .t hs hd ch=>Cu C O q m s hs hd ch
def A3 (n m:Nat) (s:Int):Hx->Prop
 | .p v=>Br n m s v
 | .t hs hd ch=>Dn n m s hs hd ch
def F8 (m:Nat) (said:List (Option Int)):Hx->Int
 | .p v=>C7 m said v
 | .t hs hd _=>Pp m said hs hd
def Gm (m:Nat) (said:List (Option Int)) (so:Int):Hx->Hx
 | .p v=>.p (BI said so v)
 | .t hs hd ch=>.t (hs.map (BI said so)) (BI (Bp (BA m said hs)) so hd) (Ey m said so hs ch)
def DI (m:Nat):Hx->Hx
 | .p v=>.p (Bn m v)
 | .t hs hd _=>.t (hs.map (Bn m)) (Bn hs.length hd) (List.replicate hs.length 0)
def Cq:Hx->Nat
 | .p _=>1
 | .t hs _ _=>hs.length+2
theorem A3.hear {n m:Nat} {s so:Int} {said:List (Option Int)} {x:Hx} (h:A3 n m s x) (hs:Bq (m:Nat) s said) (hso:0<=so/\so<=s):A3 (n+1) m s (Gm m said so x):=by
 cases x with
 | p v=>exact Br.hear h hs hso
 | t ys hd ch=>exact Dn.hear h hs hso wF
theorem A3.anew {n m:Nat} {s:Int} {x:Hx} (h:A3 n m s x):A3 0 m s (DI m x):=by
 cases x with
 | p v=>exact Br.anew h
 | t ys hd ch=>exact Dn.anew h
theorem TL (m:Nat) (said:List (Option Int)) (so:Int) (x:Hx):Cq (Gm m said so x)=Cq x:=by
 cases x with
 | p v=>rfl
 | t ys hd ch=>show (ys.map _).length+2=_; rw [List.length_map]; rfl
theorem TM (m:Nat) (x:Hx):Cq (DI m x)=Cq x:=by
 cases x with
 | p v=>rfl
 | t ys hd ch=>show (ys.map _).length+2=_; rw [List.length_map]; rfl
structure Dg (q k:Nat) (O O':Af):Prop where
 l:O'.length=O.length
 o:∀ j,j<q\/q+k<=j->O'[j]?=O[j]?
theorem Dg.split {q k:Nat} {A B Z O':Af} (h:Dg q k (A++B++Z) O') (hA:A.length=q) (hB:B.length=k):∃ B',B'.length=k/\O'=A++B'++Z:=by
 have hl:=h.l
 simp only [List.length_append] at hl
 refine ⟨(O'.drop q).take k,by rw [List.length_take,List.length_drop]; omega,List.ext_getElem? λi=>?_⟩
 have hB':((O'.drop q).take k).length=k:=by rw [List.length_take,List.length_drop]; omega
 by_cases h1:i<q
 ·rw [List.append_assoc,List.getElem?_append_left wF,h.o i (.inl h1),List.append_assoc,List.getElem?_append_left wF]
 ·by_cases h2:i<q+k
  ·rw [List.append_assoc,List.getElem?_append_right wF,List.getElem?_append_left wF,hA,List.getElem?_take_of_lt wF,List.getElem?_drop,show q+(i-q)=i by omega]
  ·rw [h.o i (.inr wF),List.getElem?_append_right (by simp; omega),List.getElem?_append_right (by simp; omega)]
   congr 1
   simp only [List.length_append]
   omega
section
variable {X:Cx} {ρ:Aj} {O:Af} {C:Cs} {o e e2:Expr} {q n m k1 k2 k3 k4 k5 k6:Nat} {s so:Int} {x:Hx} {said:List (Option Int)} {R:D->Af->Prop} {pos apos:Pos}
theorem Q0b {pl:Sem Bool} (M1:Al X.prog X.w X.K X.mg X.base C.h k1 "say" (B0 C.h C.w C.s C.r)) (M2:Al X.prog X.w X.K X.mg X.base C.w k1 "say" (B0 C.h C.w C.s C.r)) (M3:Al X.prog X.w X.K X.mg X.base C.s k1 "say" (B0 C.h C.w C.s C.r)) (M4:Al X.prog X.w X.K X.mg X.base C.r k1 "say" (B0 C.h C.w C.s C.r)) (r1:AL k1 X.A) (M6:Al X.prog X.w X.K X.mg X.base C.f k6 "say" (F4 C.f)) (r6:AL k6 X.A) (M5:Al X.prog X.w X.K X.mg X.base C.t k5 "say" (J8 C)) (r5:AL k5 X.A)
  (ho:Ac X ρ O o (.ptr q)) (hq:CG C O q m s x) (hok:A3 n m s x) (hm:1<=m/\m<=24) (h0:0<=s) (hs:Bq (m:Nat) s said) (ha:BK X ρ O [e] [.tup (said.map od)])
  (hst:starEach [e] X.env=(false,eval e X.env)::starEach [] X.env:=by rfl) (hpl:(backTo pos (starEach [] X.env)).any (·.1)=false:=by rfl)
  (ht:eval (.Call (.Attribute o "say" apos) [e] [] pos) X.env=(do
   let ov <- eval o X.env
   standAt apos.atName
   let (f,first) <- holding [ov] (getMethod ov "say" pl)
   callWith pos f first (backTo pos (starEach [e] X.env)) (backToKw pos (keywordEach [] X.env))):=by rfl):Ac X ρ O (.Call (.Attribute o "say" apos) [e] [] pos) (.int (F8 m said x)):=by
 cases x with
 | p v=>exact MJ M1 M2 M3 M4 r1 M6 r6 ho hq hok hm hs ha hst hpl ht
 | t ys hd ch=>exact Ev.evp (CN M5 r5 ho (Cu.o hq) (F0 _ _ _ _ _ wD) ha ⟨q,n,m,s,ys,hd,ch,said,rfl,hq,hok,hm,h0,hs,rfl,rfl⟩ hst hpl ht)
theorem Ra {pl:Sem Bool} (M1:Al X.prog X.w X.K X.mg X.base C.h k1 "hear" (Eo C.h)) (M2:Al X.prog X.w X.K X.mg X.base C.w k2 "hear" (Cp C.w C.s false)) (M3:Al X.prog X.w X.K X.mg X.base C.s k3 "hear" (Cp C.w C.s true)) (M4:Al X.prog X.w X.K X.mg X.base C.r k4 "hear" (En C.r)) (r1:AL k1 X.A) (r2:AL (max k2 k3) X.A) (r3:AL k4 X.A) (M6:Al X.prog X.w X.K X.mg X.base C.f k6 "hear" (Ep C.f)) (r6:AL k6 X.A) (M5:Al X.prog X.w X.K X.mg X.base C.t k5 "hear" (Im C)) (r5:AL k5 X.A)
  (ho:Ac X ρ O o (.ptr q)) (hq:CG C O q m s x) (hok:A3 n m s x) (hn:n<=1000) (hm:1<=m/\m<=24) (hs:Bq (m:Nat) s said) (hso:0<=so/\so<=s) (ha:BK X ρ O [e,e2] [.tup (said.map od),.int so]) (hR:∀ O',Dg q (Cq x) O O'->CG C O' q m s (Gm m said so x)->R .non O')
  (hst:starEach [e,e2] X.env=(false,eval e X.env)::starEach [e2] X.env:=by rfl) (hpl:(backTo pos (starEach [e2] X.env)).any (·.1)=false:=by rfl)
  (ht:eval (.Call (.Attribute o "hear" apos) [e,e2] [] pos) X.env=(do
   let ov <- eval o X.env
   standAt apos.atName
   let (f,first) <- holding [ov] (getMethod ov "hear" pl)
   callWith pos f first (backTo pos (starEach [e,e2] X.env)) (backToKw pos (keywordEach [] X.env))):=by rfl):Ev X ρ O (.Call (.Attribute o "hear" apos) [e,e2] [] pos) R:=by
 cases x with
 | p v=>exact Gq M1 M2 M3 M4 r1 r2 r3 M6 r6 ho hq hok hn hm hs hso ha (hR _ ⟨List.length_set ..,λj hj=>List.getElem?_set_ne (by have:Cq (.p v)=1:=rfl; omega)⟩ (BG hq)) hst hpl ht
 | t ys hd ch=>exact CN M5 r5 ho (Cu.o hq) (F0 _ _ _ _ _ wD) ha ⟨q,n,m,s,so,ys,hd,ch,said,rfl,hq,hok,hn,hm,hs,hso,λO' b t=>hR O' ⟨b.l,λj hj=>b.o j (by have:Cq (.t ys hd ch)=ys.length+2:=rfl; omega)⟩ t⟩ hst hpl ht
theorem Q0n {pl:Sem Bool} (M1:Al X.prog X.w X.K X.mg X.base C.h k1 "anew" (GQ C.h)) (M2:Al X.prog X.w X.K X.mg X.base C.w k2 "anew" (DQ C.w C.s false)) (M3:Al X.prog X.w X.K X.mg X.base C.s k3 "anew" (DQ C.w C.s true)) (M4:Al X.prog X.w X.K X.mg X.base C.r k4 "anew" (GP C.r)) (r1:AL k1 X.A) (r2:AL (max k2 k3) X.A) (r3:AL k4 X.A) (M6:Al X.prog X.w X.K X.mg X.base C.f k6 "anew" (GR C.f)) (r6:AL k6 X.A) (M5:Al X.prog X.w X.K X.mg X.base C.t k5 "anew" (Kn C)) (r5:AL k5 X.A)
  (ho:Ac X ρ O o (.ptr q)) (hq:CG C O q m s x) (hok:A3 n m s x) (hm:1<=m/\m<=24) (hs:1<=s/\s<=10) (hR:∀ B:Af,B.length=Cq x->(∀ Y,CG C (O++B++Y) O.length m s (DI m x))->R (.ptr O.length) (O++B))
  (ht:eval (.Call (.Attribute o "anew" apos) [] [] pos) X.env=(do
   let ov <- eval o X.env
   standAt apos.atName
   let (f,first) <- holding [ov] (getMethod ov "anew" pl)
   callWith pos f first (backTo pos (starEach [] X.env)) (backToKw pos (keywordEach [] X.env))):=by rfl):Ev X ρ O (.Call (.Attribute o "anew" apos) [] [] pos) R:=by
 cases x with
 | p v=>exact ML M1 M2 M3 M4 r1 r2 r3 M6 r6 ho hq hok hm hs (hR _ rfl λY=>IN) ht
 | t ys hd ch=>exact CZ M5 r5 ho (Cu.o hq) (F0 _ _ _ _ _ wD) ⟨q,n,m,s,ys,hd,ch,rfl,hq,hok,hm,hs,hR _ Yo λY=>Qs⟩ ht
theorem Q0d (c1:A5 X.K C.h) (c2:A5 X.K C.w) (c3:A5 X.K C.s) (c4:A5 X.K C.r) (n1:Ap X.K C.h "many") (n2:Ap X.K C.w "many") (n3:Ap X.K C.s "many") (n4:Ap X.K C.r "many") (c6:A5 X.K C.f) (n6:Ap X.K C.f "many") (c5:A5 X.K C.t) (n5:Ap X.K C.t "many") (ho:Ac X ρ O o (.ptr q)) (hq:CG C O q m s x) (hok:A3 n m s x) (hb:attributeBase o ("many" : Str) X.env (eval o X.env)=eval o X.env:=by rfl):Ac X ρ O (.Attribute o "many" pos) (.int (m:Nat)):=by
 cases x with
 | p v=>exact Gp c1 c2 c3 c4 n1 n2 n3 n4 c6 n6 ho hq hok hb
 | t ys hd ch=>exact Aq ho (Cu.o hq) c5 n5 (JW _ _ _ _ _) hb
theorem Q0a (c1:A5 X.K C.h) (c2:A5 X.K C.w) (c3:A5 X.K C.s) (c4:A5 X.K C.r) (n1:Ap X.K C.h "scale") (n2:Ap X.K C.w "scale") (n3:Ap X.K C.s "scale") (n4:Ap X.K C.r "scale") (c6:A5 X.K C.f) (n6:Ap X.K C.f "scale") (c5:A5 X.K C.t) (n5:Ap X.K C.t "scale") (ho:Ac X ρ O o (.ptr q)) (hq:CG C O q m s x) (hok:A3 n m s x) (hb:attributeBase o ("scale" : Str) X.env (eval o X.env)=eval o X.env:=by rfl):Ac X ρ O (.Attribute o "scale" pos) (.int s):=by
 cases x with
 | p v=>exact Go c1 c2 c3 c4 n1 n2 n3 n4 c6 n6 ho hq hok hb
 | t ys hd ch=>exact Aq ho (Cu.o hq) c5 n5 (JV _ _ _ _ _) hb
end
def C0 (m:Nat) (x:Hx) (ts:List Tn) (i:Nat):Hx:=(ts.take i).foldl (λy t=>Gm m t.1 t.2 y) (DI m x)
theorem Hs {m:Nat} {x:Hx} {ts:List Tn} {i:Nat} {t:Tn} (h:ts[i]?=some t):C0 m x ts (i+1)=Gm m t.1 t.2 (C0 m x ts i):=by
 unfold C0
 rw [List.take_add_one,h,List.foldl_append]
 rfl
theorem Kr {m:Nat} {x:Hx} {ts:List Tn}:∀ i,i<=ts.length->Cq (C0 m x ts i)=Cq x
 | 0,_=>TM m x
 | i+1,h=>by rw [Hs (List.getElem?_eq_getElem (show i<ts.length by omega)),TL]; exact Kr i wF
theorem FB {n m:Nat} {s:Int} {x:Hx} {ts:List Tn} (hx:A3 n m s x) (hm:m<=24) (ht:∀ t∈ts,B3 m s t):∀ i,i<=ts.length->A3 i m s (C0 m x ts i)
 | 0,_=>hx.anew
 | i+1,h=>by
  have hq:ts[i]?=some ts[i]:=List.getElem?_eq_getElem wF
  have hok:=ht _ (List.getElem_mem (show i<ts.length by omega))
  rw [Hs hq]
  exact (FB hx hm ht i wF).hear (hok.said hm) hok.2.2
def Bi (ts:List Tn) (k:Nat):Tn:=ts.getD k ([],0)
theorem Dh {ts:List Tn} {k:Nat} {t:Tn} (h:ts[k]?=some t):Bi ts k=t:=by unfold Bi; rw [List.getD_eq_getElem?_getD,h]; rfl
def B6 (m:Nat) (x:Hx) (ts:List Tn) (k:Nat):Int:=F8 m (Bi ts k).1 (C0 m x ts k)
def Ij (C:Cs):AH:=λds O R=>∃ (q n m:Nat) (s:Int) (x:Hx) (ts:List Tn),ds=[.ptr q,.tup (ts.map tD)]/\CG C O q m s x/\A3 n m s x/\(1<=m/\m<=24)/\(1<=s/\s<=10)/\(∀ t∈ts,B3 m s t)/\ts.length<=63/\R (.tup (((List.range ts.length).map (B6 m x ts)).map D.int)) O
theorem CG.in_ {C:Cs} {A B B' Z Y:Af} {m:Nat} {s:Int} {x:Hx} (h:CG C (A++B++Z) A.length m s x) (hB:B.length=Cq x):CG C (A++B++Y) A.length m s x:=by
 have hz:∀ j,A.length<=j->j<A.length+B.length->(A++B++Y)[j]?=(A++B++Z)[j]?:=λj h1 h2=>(List.getElem?_append_left (l₁:=A++B) (by rw [List.length_append]; omega)).trans (List.getElem?_append_left (l₁:=A++B) (by rw [List.length_append]; omega)).symm
 cases x with
 | p v=>
  have hB:B.length=1:=hB
  show _=_
  rw [hz _ (Nat.le_refl _) wF]; exact h
 | t ys hd ch=>
  have hB:B.length=ys.length+2:=hB
  refine ⟨by rw [hz _ (Nat.le_refl _) wF]; exact h.o,λi v hv=>?_,by rw [hz _ wF wF]; exact h.d⟩
  have:=(List.getElem?_eq_some_iff.mp hv).1
  rw [hz _ wF wF]; exact h.h i v hv
def BM (m z:Int) (q:Int×Int):Int:=if ab (m-z)<=ab (q.1-z) then q.2 else 0
theorem Z4 {ns ws:List Int} (h:HF ns ws) (z:Int):(AV ws).sum<=2*sm (BM (Di ns ws) z) (ns.zip (AV ws)):=by
 by_cases hn:ns=[]
 ·subst hn
  have:ws=[]:=List.eq_nil_of_length_eq_zero h.1.symm
  subst this
  show (AV []).sum<=2*(0:Int)
  decide
 ·have hh:=YE h hn
  have hc:=MQ h.2.2
  have hl:ns.length=(AV ws).length:=by rw [Js]; exact h.1
  unfold Ec there at hh
  generalize Di ns ws=m at *
  generalize AV ws=cs at *
  have hm:∀ p∈ns.zip cs,0<=p.2:=λp hp=>hc _ (List.of_mem_zip hp).2
  have hs:sm (λq:Int×Int=>q.2) (ns.zip cs)=cs.sum:=O7 hl
  by_cases hz:z<=m
  ·have:sm (λq:Int×Int=>q.2) (ns.zip cs)<=sm (λq=>(if q.1<m then q.2 else 0)+BM m z q) (ns.zip cs):=GS λa ha=>by
    have:=hm a ha
    unfold BM ab
    by_cases h1:a.1<m
    ·rw [if_pos h1]; split <;> split <;> split <;> omega
    ·rw [if_neg h1,if_pos (by split <;> split <;> omega)]; omega
   rw [F7] at this
   omega
  ·have:sm (λq:Int×Int=>(if q.1<m then q.2 else 0)+(if q.1=m then q.2 else 0)) (ns.zip cs)<=sm (BM m z) (ns.zip cs):=GS λa ha=>by
    have:=hm a ha
    unfold BM ab
    by_cases h1:a.1<=m
    ·rw [if_pos (c:=(if m-z<0 then -(m-z) else m-z)<=(if a.1-z<0 then -(a.1-z) else a.1-z)) (by split <;> split <;> omega)]; split <;> split <;> omega
    ·rw [if_neg (show ¬ a.1<m by omega),if_neg (show ¬ a.1=m by omega)]; split <;> split <;> split <;> omega
   rw [F7] at this
   omega
theorem O9 {α:Type} (p:α->Bool) (g:α->Int) (l:List α):sm g l=sm g (l.filter p)+sm g (l.filter λa=>!p a):=by
 induction l with
 | nil=>rfl
 | cons a l ih=>
  have e:sm g (a::l)=g a+sm g l:=rfl
  cases h:p a with
  | true=>
   rw [List.filter_cons_of_pos h,List.filter_cons_of_neg (by rw [h]; decide),e,ih]
   show _=(g a+sm g (l.filter p))+_
   omega
  | false=>
   rw [List.filter_cons_of_neg (by rw [h]; decide),List.filter_cons_of_pos (by rw [h]; rfl),e,ih]
   show _=_+(g a+sm g (l.filter λa=>!p a))
   omega
theorem Q0X {t b:Int} (h0:0<=t) (hb:t<=b) (b1:1<=b) {s l d:Nat} (hl:l<=s) (hd:d<=s):t ^ l*b ^ (s-l)*b ^ d<=b ^ s*(if d<=l then t ^ d else b ^ d):=by
 by_cases h:d<=l
 ·rw [if_pos h]
  obtain ⟨e,rfl⟩:=Nat.exists_eq_add_of_le h
  obtain ⟨f,rfl⟩:=Nat.exists_eq_add_of_le hl
  have e1:d+e+f-(d+e)=f:=by omega
  rw [e1,Int.pow_add,Int.pow_add,Int.pow_add]
  have h1:t ^ e<=b ^ e:=Eu h0 hb e
  have p1:0<=t ^ d:=Int.pow_nonneg h0
  have p2:0<=b ^ f:=Int.pow_nonneg wF
  have p3:0<=b ^ d:=Int.pow_nonneg wF
  generalize t ^ d=x at *
  generalize t ^ e=y at *
  generalize b ^ e=z at *
  generalize b ^ f=v at *
  generalize b ^ d=w at *
  have q:x*y*v*w<=x*z*v*w:=Int.mul_le_mul_of_nonneg_right (Int.mul_le_mul_of_nonneg_right (Int.mul_le_mul_of_nonneg_left h1 p1) p2) p3
  have e2:w*z*v*x=x*z*v*w:=by
   rw [Int.mul_comm (w*z*v) x,Int.mul_assoc w z v,Int.mul_comm w (z*v),<- Int.mul_assoc,<- Int.mul_assoc]
  rw [e2]
  exact q
 ·rw [if_neg h]
  have h1:t ^ l<=b ^ l:=Eu h0 hb l
  have p2:0<=b ^ (s-l):=Int.pow_nonneg wF
  have p3:0<=b ^ d:=Int.pow_nonneg wF
  have e1:b ^ s=b ^ l*b ^ (s-l):=by rw [<- Int.pow_add]; congr 1; omega
  rw [e1]
  exact Int.mul_le_mul_of_nonneg_right (Int.mul_le_mul_of_nonneg_right h1 p2) p3
theorem Sk {ws:List Int} {n:Nat} (h:ws.length=n):ws.sum=sm (λk=>ws.getD k 0) (List.range n):=by
 subst h
 rw [<- DR]
 congr 1
 refine List.ext_getElem? λi=>?_
 rw [List.getElem?_map]
 by_cases hi:i<ws.length
 ·rw [List.getElem?_range hi,List.getElem?_eq_getElem hi]
  simp [List.getD,hi]
 ·rw [List.getElem?_eq_none wF,List.getElem?_eq_none (by simp; omega)]
  rfl
def HE (m so:Int) (said:List (Option Int)) (ws:List Int):Int:=sm (λk=>if ab (m-so)<=ab ((Ax said k).getD 0-so) then ws.getD k 0 else 0) (ax said)
theorem QT {ws:List Int} (h:Cd ws) (k:Nat):0<=ws.getD k 0:=by
 by_cases hk:k<ws.length
 ·rw [List.getD_eq_getElem?_getD,List.getElem?_eq_getElem hk]
  exact h _ (List.getElem_mem hk)
 ·rw [List.getD_eq_getElem?_getD,List.getElem?_eq_none wF]
  exact Int.le_refl _
theorem NE (said:List (Option Int)) (ws:List Int):(BY said ws).sum=sm (λk=>ws.getD k 0) (ax said):=by unfold BY; rw [DR]
theorem ZH {said:List (Option Int)} {ws:List Int} (h24:said.length<=24) (hw:Cd ws) (so:Int):sm (λk=>ws.getD k 0) (ax said)<=2*HE (AG said ws) so said ws:=by
 have h2:=Ie (ws:=ws) h24 hw
 have hp:0<=HE (AG said ws) so said ws:=ER λk _=>by
  have:=QT hw k
  split <;> omega
 by_cases h0:(BY said ws).sum=0
 ·rw [<- NE,h0]
  omega
 ·have hh:=Z4 h2 so
  have e:AV (BY said ws)=BY said ws:=by unfold AV; rw [if_neg h0]
  rw [e,<- VE,NE] at hh
  have e2:sm (BM (Di (Cj said) (BY said ws)) so) (IC said ws)=HE (AG said ws) so said ws:=by
   unfold IC HE AG
   rw [TB]
   rfl
  rw [e2] at hh
  exact hh
theorem SD {B T x y:Int} (h1:T<=B) (h2:y<=x):2*(T*x+B*y)<=(B+T)*(x+y):=by
 have h:=Int.mul_nonneg (show 0<=B-T by omega) (show 0<=x-y by omega)
 rw [Int.sub_mul,Int.mul_sub,Int.mul_sub] at h
 rw [Int.add_mul,Int.mul_add B,Int.mul_add T]
 omega
theorem Tm {m sc t b so:Int} {said:List (Option Int)} {ws:List Int} (hf:B8 sc t b) (hs:Bq m sc said) (hso:0<=so/\so<=sc) (hw:Cd ws) :
  sm (nW t b sc (ab (AG said ws-so)) so said ws) (ax said)<=tS t b sc (ab (AG said ws-so))*sm (λk=>ws.getD k 0) (ax said):=by
 have s1:=hf.s1; have s2:=hf.s2; have t0:=hf.t0; have tb:=hf.tb; have b2:=hf.b2
 have h24:said.length<=24:=by have:=hs.1; have:=hs.2.1; omega
 have hd:=Ed (Ez (ws:=ws) hs wF hw) hso
 have hh:=ZH h24 hw so
 unfold HE at hh
 generalize AG said ws=mm at *
 generalize hdd:ab (mm-so)=dd at *
 obtain ⟨B,hB⟩:∃ B,b ^ dd.toNat=B:=⟨_,rfl⟩
 obtain ⟨Tt,hT⟩:∃ x,t ^ dd.toNat=x:=⟨_,rfl⟩
 have hTB:Tt<=B:=by rw [<- hT,<- hB]; exact Eu t0 wF _
 have c:∀ k∈ax said,nW t b sc dd so said ws k<=2*b ^ sc.toNat*((if dd<=ab ((Ax said k).getD 0-so) then Tt else B)*ws.getD k 0):=λk hk=>by
  have hq:=(List.mem_filter.mp hk).2
  have hmem:Ax said k∈said:=by
   unfold Ax
   rw [List.getElem?_eq_getElem (Gy hk)]
   exact List.getElem_mem _
  unfold nW
  cases hx:Ax said k with
  | none=>rw [hx] at hq; cases hq
  | some x=>
   rw [hx] at hmem
   have hon:=EX ((hs.2.2 _ hmem).resolve_left (λh=>by cases h))
   have hl:=Ed hon hso
   show ws.getD k 0*tA t b sc dd (ab (x-so))<=2*b ^ sc.toNat*((if dd<=ab (x-so) then Tt else B)*ws.getD k 0)
   have hw0:=QT hw k
   generalize ws.getD k 0=y at *
   generalize ab (x-so)=l at *
   have hc:=Q0X (s:=sc.toNat) (l:=l.toNat) (d:=dd.toNat) t0 (Int.le_of_lt tb) wF wF wF
   have ei:(if dd.toNat<=l.toNat then t ^ dd.toNat else b ^ dd.toNat)=(if dd<=l then Tt else B):=by
    rw [hT,hB]
    by_cases h:dd<=l
    ·rw [if_pos h,if_pos wF]
    ·rw [if_neg h,if_neg wF]
   rw [ei] at hc
   have es:(sc-l).toNat=sc.toNat-l.toNat:=by omega
   unfold tA
   rw [es]
   generalize (if dd<=l then Tt else B)=z at *
   generalize t ^ l.toNat*b ^ (sc.toNat-l.toNat)=v at *
   rw [hB] at hc ⊢
   have q:=Int.mul_le_mul_of_nonneg_left hc (show 0<=2*y by omega)
   have e1:y*(v*2*B)=2*y*(v*B):=by rw [Int.mul_assoc v 2 B,Int.mul_comm 2 B,<- Int.mul_assoc v B 2,Int.mul_comm (v*B) 2,<- Int.mul_assoc,Int.mul_comm y 2]
   have e2:2*b ^ sc.toNat*(z*y)=2*y*(b ^ sc.toNat*z):=by rw [Int.mul_assoc,Int.mul_assoc,Int.mul_comm z y,<- Int.mul_assoc (b ^ sc.toNat) y z,Int.mul_comm (b ^ sc.toNat) y,Int.mul_assoc y]
   rw [e1,e2]
   exact q
 refine Int.le_trans (GS c) ?_
 rw [Ir]
 have e3:sm (λk=>(if dd<=ab ((Ax said k).getD 0-so) then Tt else B)*ws.getD k 0) (ax said)=Tt*sm (λk=>if dd<=ab ((Ax said k).getD 0-so) then ws.getD k 0 else 0) (ax said)+B*sm (λk=>if dd<=ab ((Ax said k).getD 0-so) then 0 else ws.getD k 0) (ax said):=by
  rw [<- Ir,<- Ir,<- F7]
  refine ES λk _=>?_
  by_cases h:dd<=ab ((Ax said k).getD 0-so)
  ·rw [if_pos h,if_pos h,if_pos h,Int.mul_zero,Int.add_zero]
  ·rw [if_neg h,if_neg h,if_neg h,Int.mul_zero,Int.zero_add]
 have e4:sm (λk=>ws.getD k 0) (ax said)=sm (λk=>if dd<=ab ((Ax said k).getD 0-so) then ws.getD k 0 else 0) (ax said)+sm (λk=>if dd<=ab ((Ax said k).getD 0-so) then 0 else ws.getD k 0) (ax said):=by
  rw [<- F7]
  refine ES λk _=>?_
  by_cases h:dd<=ab ((Ax said k).getD 0-so)
  ·rw [if_pos h,if_pos h,Int.add_zero]
  ·rw [if_neg h,if_neg h,Int.zero_add]
 rw [e3]
 rw [e4] at hh ⊢
 unfold tS
 rw [hB,hT]
 generalize sm (λk=>if dd<=ab ((Ax said k).getD 0-so) then ws.getD k 0 else 0) (ax said)=wf at *
 generalize sm (λk=>if dd<=ab ((Ax said k).getD 0-so) then 0 else ws.getD k 0) (ax said)=wn at *
 have q:=SD (x:=wf) (y:=wn) hTB wF
 have p:0<=b ^ sc.toNat:=Int.pow_nonneg wF
 have r:=Int.mul_le_mul_of_nonneg_left q p
 rw [Int.mul_assoc,Int.mul_comm 2 (b ^ sc.toNat*(Tt*wf+B*wn)),Int.mul_assoc,Int.mul_comm (Tt*wf+B*wn) 2,Int.mul_assoc]
 exact r
theorem N5 {m sc t b so:Int} {said:List (Option Int)} {ws:List Int} (hf:B8 sc t b) (hs:Bq m sc said) (hso:0<=so/\so<=sc) (hw:Cd ws) (hl:ws.length=said.length) :
  (BW t b sc (ab (AG said ws-so)) so said ws).sum<=ws.sum*tS t b sc (ab (AG said ws-so)):=by
 have ha:=Tm (ws:=ws) hf hs hso hw
 rw [<- Qt hl,DR,Sk hl,O9 (λk=>(Ax said k).isSome) (nW _ _ _ _ _ _ _),O9 (λk=>(Ax said k).isSome) (λk=>ws.getD k 0),Int.mul_comm,Int.mul_add]
 refine Int.add_le_add ha (Int.le_of_eq ?_)
 rw [<- Ir]
 refine ES λk hk=>?_
 have hq:=(List.mem_filter.mp hk).2
 unfold nW
 cases hx:Ax said k with
 | some x=>rw [hx] at hq; cases hq
 | none=>
  show ws.getD k 0*tS t b sc (ab (AG said ws-so))=_
  rw [Int.mul_comm]
theorem Yj {t b sc dd so:Int} {said:List (Option Int)} {ws:List Int} (h:ws.length=said.length) {k:Nat} (hk:k<said.length):(BW t b sc dd so said ws).getD k 0=ws.getD k 0*tF t b sc dd so (Ax said k):=by
 rw [<- Qt h,List.getD_eq_getElem?_getD,List.getElem?_map,List.getElem?_range hk]
 rfl
theorem NX {t b sc dd:Int} (hf:B8 sc t b):0<tS t b sc dd:=by
 have t0:=hf.t0; have tb:=hf.tb
 have h1:0<b ^ sc.toNat:=Int.pow_pos wF
 have h2:0<b ^ dd.toNat:=Int.pow_pos wF
 have h3:0<=t ^ dd.toNat:=Int.pow_nonneg t0
 exact Int.mul_pos h1 wF
theorem YT {ws:List Int} (h:Cd ws) {k:Nat} (hk:k<ws.length):ws.getD k 0<=ws.sum:=by
 induction ws generalizing k with
 | nil=>cases hk
 | cons a l ih=>
  have ha:=h a List.mem_cons_self
  have hl:Cd l:=λw hw=>h w (List.mem_cons_of_mem _ hw)
  have hs:=N3 hl
  rw [List.sum_cons]
  cases k with
  | zero=>show a<=_; omega
  | succ k=>
   have:=ih hl (k:=k) (by simpa using hk)
   show l.getD k 0<=_
   omega
def dW (tn:Tn) (ws:List Int):Int:=ab (AG tn.1 ws-tn.2)
def wN (t b sc:Int) (tn:Tn) (ws:List Int):List Int:=BW t b sc (dW tn ws) tn.2 tn.1 ws
def uN (t b sc:Int) (tn:Tn) (ws:List Int) (u:Int):Int:=u*tS t b sc (dW tn ws)
structure GC (m:Nat) (ws:List Int) (u:Int) (i:Nat):Prop where
 wo:Jx i ws u
 ln:ws.length=m
 up:0<u
 sm:ws.sum<=(m:Nat)*u
theorem GC.next {m:Nat} {sc t b u:Int} {ws:List Int} {i:Nat} {tn:Tn} (h:GC m ws u i) (hf:B8 sc t b) (hm:m<=24) (hok:B3 m sc tn):GC m (wN t b sc tn ws) (uN t b sc tn ws u) (i+1)/\(wN t b sc tn ws).sum*u<=ws.sum*uN t b sc tn ws u:=by
 have hsd:=hok.said hm
 have hso:=hok.2.2
 have hsl:ws.length=tn.1.length:=by rw [h.ln]; exact hok.1.symm
 have hw0:Cd ws:=λw hw=>(h.wo.w w hw).1
 have hd:=Ed (Ez (ws:=ws) hsd (by have:=hf.s1; omega) hw0) hso
 have hnx:=So (dd:=dW tn ws) (so:=tn.2) (said:=tn.1) hf h.wo hsd.2.2 hso hd
 have hsn:(wN t b sc tn ws).sum<=ws.sum*tS t b sc (dW tn ws):=N5 hf hsd hso hw0 hsl
 have htp:=NX (dd:=dW tn ws) hf
 refine ⟨⟨hnx,by unfold wN; rw [Gg hsl]; exact h.ln,Int.mul_pos h.up htp,?_⟩,?_⟩
 ·refine Int.le_trans hsn ?_
  show _<=(m:Nat)*(u*tS t b sc (dW tn ws))
  rw [<- Int.mul_assoc]
  exact Int.mul_le_mul_of_nonneg_right h.sm (Int.le_of_lt htp)
 ·show _<=ws.sum*(u*tS t b sc (dW tn ws))
  rw [Int.mul_comm u,<- Int.mul_assoc]
  exact Int.mul_le_mul_of_nonneg_right hsn (Int.le_of_lt h.up)
abbrev CJ (m t b:Int) (o e:Nat):Prop:=t ^ o*(2*b) ^ e<=m*(b+t) ^ e*b ^ o
structure HI (m t b:Int) (o:Nat):Prop where
 m1:1<=m
 m2:m<=24
 t0:0<=t
 tb:t<b
 b2:b<=100
 o2:o<=60
theorem le0 {m t b:Int} {o:Nat} (h:HI m t b o):CJ m t b o 0:=by
 unfold CJ
 rw [Int.pow_zero,Int.pow_zero,Int.mul_one,Int.mul_one]
 have h1:t ^ o<=b ^ o:=Eu h.t0 (Int.le_of_lt h.tb) o
 have h2:0<=b ^ o:=Int.pow_nonneg (Int.le_trans h.t0 (Int.le_of_lt h.tb))
 have h3:1*b ^ o<=m*b ^ o:=Int.mul_le_mul_of_nonneg_right h.m1 h2
 omega
theorem big:199 ^ 56000*(24*100 ^ 60)<200 ^ 56000:=by decide +kernel
theorem bigI (N k:Nat) (h:199 ^ N*k<200 ^ N):(199:Int) ^ N*(k:Nat)<200 ^ N:=by
 have q:=Int.ofNat_lt.mpr h
 rw [Int.natCast_mul,Int.natCast_pow,Int.natCast_pow] at q
 exact q
theorem Z3 {N:Nat} {k:Int} (hk:24*100 ^ 60<=k) (bg:(199:Int) ^ N*k<200 ^ N) {m t b:Int} {o e:Nat} (h:HI m t b o) (hp:1<=t ^ o) (hl:CJ m t b o e):e<N:=by
 refine Nat.lt_of_not_le λhn=>?_
 unfold CJ at hl
 have hb:0<b:=Int.lt_of_le_of_lt h.t0 h.tb
 have hb0:0<=b:=Int.le_of_lt hb
 have c0:0<=b+t:=by have:=h.t0; omega
 have c1:0<(b+t) ^ e:=Int.pow_pos (by have:=h.t0; omega)
 have d0:0<=(2*b) ^ e:=Int.pow_nonneg wF
 have h1:(2*b) ^ e<=m*(b+t) ^ e*b ^ o:=by
  have:1*(2*b) ^ e<=t ^ o*(2*b) ^ e:=Int.mul_le_mul_of_nonneg_right hp d0
  omega
 have h2:(200*(b+t)) ^ e<=(199*(2*b)) ^ e:=Eu wF (by have:=h.tb; have:=h.b2; omega) e
 rw [Int.mul_pow,Int.mul_pow] at h2
 have h3:b ^ o<=100 ^ 60:=Int.le_trans (Eu hb0 h.b2 o) (by
  have:(100:Int) ^ 60=100 ^ o*100 ^ (60-o):=by rw [<- Int.pow_add]; congr 1; have:=h.o2; omega
  rw [this]
  have p1:(0:Int)<=100 ^ o:=Int.pow_nonneg wE
  have p2:(1:Int)<=100 ^ (60-o):=Int.pow_pos wE
  have:=Int.mul_le_mul_of_nonneg_left p2 p1
  omega)
 have h4:m*b ^ o<=k:=Int.le_trans (Int.mul_le_mul h.m2 h3 (Int.pow_nonneg hb0) wE) hk
 have e0:(0:Int)<=199 ^ e:=Int.pow_nonneg wE
 have h5:199 ^ e*(2*b) ^ e<=199 ^ e*k*(b+t) ^ e:=by
  have q1:=Int.mul_le_mul_of_nonneg_left h1 e0
  have q2:199 ^ e*(m*(b+t) ^ e*b ^ o)=199 ^ e*(m*b ^ o)*(b+t) ^ e:=by
   rw [Int.mul_assoc m,Int.mul_comm ((b+t) ^ e),<- Int.mul_assoc m,<- Int.mul_assoc,<- Int.mul_assoc,Int.mul_assoc (199 ^ e) m]
  have q3:199 ^ e*(m*b ^ o)*(b+t) ^ e<=199 ^ e*k*(b+t) ^ e:=Int.mul_le_mul_of_nonneg_right (Int.mul_le_mul_of_nonneg_left h4 e0) (Int.le_of_lt c1)
  omega
 have h6:(200:Int) ^ e<=199 ^ e*k:=Int.le_of_mul_le_mul_right (Int.le_trans h2 h5) c1
 obtain ⟨d,rfl⟩:=Nat.exists_eq_add_of_le hn
 have g1:(199:Int) ^ d<=200 ^ d:=Eu wE wE d
 have g0:(0:Int)<199 ^ d:=Int.pow_pos wE
 have hy:(0:Int)<=200 ^ N:=Int.pow_nonneg wE
 clear hk h4 h3 h5 h2 h1 hl
 rw [Int.pow_add,Int.pow_add] at h6
 generalize (199:Int) ^ N=x at *
 generalize (200:Int) ^ N=y at *
 generalize (199:Int) ^ d=u at *
 generalize (200:Int) ^ d=v at *
 have r1:x*k*u<y*u:=Int.mul_lt_mul_of_pos_right bg g0
 have r2:x*u*k=x*k*u:=by rw [Int.mul_assoc,Int.mul_comm u,<- Int.mul_assoc]
 have r3:y*u<=y*v:=Int.mul_le_mul_of_nonneg_left g1 hy
 omega
theorem ME {m t b:Int} {o e:Nat} (h:HI m t b o) (hp:1<=t ^ o) (hl:CJ m t b o e):e<56000:=Z3 (k:=((24*100 ^ 60:Nat):Int)) wE (bigI 56000 _ big) h hp hl
def P2:List D->Prop:=λds=>∃ m t b o:Int,ds=[.int m,.int t,.int b,.int o]/\0<=o/\HI m t b o.toNat
def Py:List D->D->Prop:=λds d=>∃ m t b o:Int,ds=[.int m,.int t,.int b,.int o]/\((t=0/\0<o/\d=.non)\/(¬ (t=0/\0<o)/\∃ e:Nat,e<56000/\d=.int (e:Nat)/\CJ m t b o.toNat e/\¬ CJ m t b o.toNat (e+1)))
def OT:List D->D->Prop:=λds d=>∃ t b o:Int,ds=[.int t,.int b,.int o]/\d=.bl (decide (t<b)&&(decide (t>0)||decide (o=0)))
def Yw (ρ:Aj) (_:Af):Nat:=match ρ with
 | [_,_,_,_,some (.int e),_,_]=>56001-e.toNat
 | _=>0
def DS (t b sc:Int):List Tn->List Int->List Int
 | [],_=>[]
 | tn::ts,ws=>AG tn.1 ws::DS t b sc ts (wN t b sc tn ws)
def oI (k:Nat) (p:Tn×Int):Int:=if CK (od (Ax p.1.1 k))=true then 0 else if (!decide (Ax p.1.1 k=some p.1.2))=true then 1 else 0
def hI (k:Nat) (p:Tn×Int):Int:=if CK (od (Ax p.1.1 k))=true then 0 else if (!decide (p.2=p.1.2))=true then 1 else 0
theorem Y7 {t b so x mm:Int} (hx:0<=x/\x<=1) (hso:0<=so/\so<=1) (hm:0<=mm/\mm<=1) (b0:0<b):tA t b 1 (ab (mm-so)) (ab (x-so))*(b ^ (if x=so then 0 else 1)*(b+t) ^ (if mm=so then 0 else 1))=tS t b 1 (ab (mm-so))*(t ^ (if x=so then 0 else 1)*(2*b) ^ (if mm=so then 0 else 1)):=by
 have hl:ab (x-so)=if x=so then 0 else 1:=by unfold ab; split <;> split <;> omega
 have hd:ab (mm-so)=if mm=so then 0 else 1:=by unfold ab; split <;> split <;> omega
 rw [hl,hd]
 unfold tA tS
 by_cases h1:x=so <;> by_cases h2:mm=so <;> simp only [h1,h2,if_true,if_false,Int.pow_zero,Int.pow_succ,Int.mul_one,Int.one_mul,Int.sub_zero,Int.sub_self,Int.toNat_zero,Int.toNat_one]
 ·omega
 ·ac_rfl
 ·rw [show (1:Int)+1=2 by decide]; ac_rfl
 ·ac_rfl
theorem Q3 {m:Nat} {t b:Int} {k:Nat} (hf:B8 1 t b) (hm:m<=24) (hk:k<m):∀ (ts:List Tn) (ws:List Int) (u:Int) (i:Nat),GC m ws u i->(∀ tn∈ts,B3 m 1 tn)->
  ∃ (ws':List Int) (u':Int) (j c e:Nat),GC m ws' u' j/\sm (oI k) (ts.zip (DS t b 1 ts ws))=(c:Nat)/\sm (hI k) (ts.zip (DS t b 1 ts ws))=(e:Nat)/\c<=ts.length/\e<=ts.length/\ws'.getD k 0*(b ^ c*(b+t) ^ e)*u=ws.getD k 0*(t ^ c*(2*b) ^ e)*u'
 | [],ws,u,i,h,_=>⟨ws,u,i,0,0,h,rfl,rfl,Nat.le_refl _,Nat.le_refl _,by rw [Int.pow_zero,Int.pow_zero,Int.pow_zero,Int.pow_zero]⟩
 | tn::ts,ws,u,i,h,hts=>by
  have hok:=hts tn List.mem_cons_self
  obtain ⟨hN,_⟩:=h.next hf hm hok
  obtain ⟨ws',u',j,c,e,hI',hc,he,hcl,hel,heq⟩:=Q3 hf hm hk ts _ _ _ hN λq hq=>hts q (List.mem_cons_of_mem _ hq)
  have hsl:ws.length=tn.1.length:=by rw [h.ln]; exact hok.1.symm
  have hw0:Cd ws:=λw hw=>(h.wo.w w hw).1
  have hkl:k<tn.1.length:=by rw [hok.1]; exact hk
  have htp:=NX (dd:=dW tn ws) hf
  have hwk:(wN t b 1 tn ws).getD k 0=ws.getD k 0*tF t b 1 (dW tn ws) tn.2 (Ax tn.1 k):=Yj hsl hkl
  have huN:uN t b 1 tn ws u=u*tS t b 1 (dW tn ws):=rfl
  rw [hwk,huN] at heq
  have b0:0<b:=by have:=hf.t0; have:=hf.tb; omega
  have hs2:=Ez (ws:=ws) (hok.said hm) wE hw0
  have hkey:∃ cc ee:Nat,oI k (tn,AG tn.1 ws)=(cc:Nat)/\hI k (tn,AG tn.1 ws)=(ee:Nat)/\cc<=1/\ee<=1/\tF t b 1 (dW tn ws) tn.2 (Ax tn.1 k)*(b ^ cc*(b+t) ^ ee)=tS t b 1 (dW tn ws)*(t ^ cc*(2*b) ^ ee):=by
   unfold oI hI
   cases hx:Ax tn.1 k with
   | none=>
    refine ⟨0,0,rfl,rfl,by decide,by decide,?_⟩
    rw [Int.pow_zero,Int.pow_zero,Int.pow_zero,Int.pow_zero]
    rfl
   | some x=>
    have hmem:Ax tn.1 k∈tn.1:=by
     unfold Ax
     rw [List.getElem?_eq_getElem hkl]
     exact List.getElem_mem _
    rw [hx] at hmem
    have hon:=EX ((hok.2.1 _ hmem).resolve_left (λz=>by cases z))
    refine ⟨if x=tn.2 then 0 else 1,if AG tn.1 ws=tn.2 then 0 else 1,?_,?_,by split <;> decide,by split <;> decide,Y7 hon hok.2.2 hs2 b0⟩
    ·show (if (!decide (some x=some tn.2))=true then (1:Int) else 0)=_
     by_cases e:x=tn.2
     ·rw [if_pos e,decide_eq_true (by rw [e])]; rfl
     ·rw [if_neg e,decide_eq_false (by intro z; exact e (Option.some.inj z))]; rfl
    ·show (if (!decide (AG tn.1 ws=tn.2))=true then (1:Int) else 0)=_
     by_cases e:AG tn.1 ws=tn.2
     ·rw [if_pos e,decide_eq_true e]; rfl
     ·rw [if_neg e,decide_eq_false e]; rfl
  obtain ⟨cc,ee,h1,h2,h3,h4,h5⟩:=hkey
  refine ⟨ws',u',j,cc+c,ee+e,hI',?_,?_,by rw [List.length_cons]; omega,by rw [List.length_cons]; omega,?_⟩
  ·show oI k (tn,AG tn.1 ws)+sm (oI k) (ts.zip (DS t b 1 ts (wN t b 1 tn ws)))=_
   rw [h1,hc]; omega
  ·show hI k (tn,AG tn.1 ws)+sm (hI k) (ts.zip (DS t b 1 ts (wN t b 1 tn ws)))=_
   rw [h2,he]; omega
  ·refine Int.eq_of_mul_eq_mul_right (Int.ne_of_gt htp) ?_
   rw [Int.pow_add,Int.pow_add,Int.pow_add,Int.pow_add]
   generalize tS t b 1 (dW tn ws)=S at *
   generalize tF t b 1 (dW tn ws) tn.2 (Ax tn.1 k)=F at *
   generalize ws'.getD k 0=W' at *
   generalize ws.getD k 0=w at *
   generalize b ^ cc=x1 at *
   generalize (b+t) ^ ee=x2 at *
   generalize t ^ cc=y1 at *
   generalize (2*b) ^ ee=y2 at *
   generalize b ^ c=z1 at *
   generalize (b+t) ^ e=z2 at *
   generalize t ^ c=v1 at *
   generalize (2*b) ^ e=v2 at *
   have a1:W'*(x1*z1*(x2*z2))*u*S=W'*(z1*z2)*(u*S)*(x1*x2):=by ac_rfl
   have a2:w*F*(v1*v2)*u'*(x1*x2)=F*(x1*x2)*(w*(v1*v2)*u'):=by ac_rfl
   have a3:S*(y1*y2)*(w*(v1*v2)*u')=w*(y1*v1*(y2*v2))*u'*S:=by ac_rfl
   rw [a1,heq,a2,h5,a3]
theorem Q1J {m:Nat} {t b:Int} {k:Nat} (hf:B8 1 t b) (hm1:1<=m) (hm:m<=24) (hk:k<m) {ts:List Tn} (hts:∀ tn∈ts,B3 m 1 tn) :
  ∃ c e:Nat,sm (oI k) (ts.zip (DS t b 1 ts (List.replicate m 1)))=(c:Nat)/\sm (hI k) (ts.zip (DS t b 1 ts (List.replicate m 1)))=(e:Nat)/\c<=ts.length/\e<=ts.length/\CJ (m:Nat) t b c e:=by
 have hws:(List.replicate m (1:Int)).sum=(m:Nat):=by
  have:=Wt (List.replicate m (0:Int))
  rw [List.map_replicate,List.length_replicate] at this
  exact this
 have hI0:GC m (List.replicate m 1) 1 0:=⟨Sn m,List.length_replicate,by decide,by rw [hws]; omega⟩
 obtain ⟨ws',u',j,c,e,hI,hc,he,h1,h2,heq⟩:=Q3 hf hm hk ts _ _ _ hI0 hts
 refine ⟨c,e,hc,he,h1,h2,?_⟩
 have hwk:(List.replicate m (1:Int)).getD k 0=1:=by rw [List.getD_eq_getElem?_getD,List.getElem?_replicate,if_pos hk]; rfl
 rw [hwk,Int.one_mul,Int.mul_one] at heq
 have hw0:Cd ws':=λw hw=>(hI.wo.w w hw).1
 have hle:=Int.le_trans (YT hw0 (show k<ws'.length by rw [hI.ln]; exact hk)) hI.sm
 have b0:0<b:=by have:=hf.t0; have:=hf.tb; omega
 have hB:0<=b ^ c*(b+t) ^ e:=Int.mul_nonneg (Int.pow_nonneg wF) (Int.pow_nonneg (by have:=hf.t0; omega))
 have q:=Int.mul_le_mul_of_nonneg_right hle hB
 rw [heq] at q
 unfold CJ
 refine Int.le_of_mul_le_mul_right (a:=u') ?_ hI.up
 have a1:(m:Nat)*u'*(b ^ c*(b+t) ^ e)=(m:Nat)*(b+t) ^ e*b ^ c*u':=by
  generalize b ^ c=x
  generalize (b+t) ^ e=y
  generalize ((m:Nat):Int)=z
  ac_rfl
 rw [a1] at q
 exact q
theorem YV {m t b:Int} {o e:Nat} (t0:0<=t) (tb:t<b) (h:CJ m t b o (e+1)):CJ m t b o e:=by
 unfold CJ at *
 refine Int.le_of_mul_le_mul_right (a:=b+t) ?_ wF
 have p:0<=t ^ o*(2*b) ^ e:=Int.mul_nonneg (Int.pow_nonneg t0) (Int.pow_nonneg wF)
 have q:t ^ o*(2*b) ^ e*(b+t)<=t ^ o*(2*b) ^ e*(2*b):=Int.mul_le_mul_of_nonneg_left wF p
 rw [Int.pow_succ,Int.pow_succ] at h
 have a1:t ^ o*((2*b) ^ e*(2*b))=t ^ o*(2*b) ^ e*(2*b):=by rw [Int.mul_assoc]
 have a2:m*((b+t) ^ e*(b+t))*b ^ o=m*(b+t) ^ e*b ^ o*(b+t):=by
  generalize (b+t) ^ e=x
  generalize b ^ o=y
  generalize b+t=z
  ac_rfl
 rw [a1,a2] at h
 exact Int.le_trans q h
theorem QF {m t b:Int} {o:Nat} (t0:0<=t) (tb:t<b):∀ {e d:Nat},CJ m t b o (e+d)->CJ m t b o e
 | _,0,h=>h
 | e,d+1,h=>QF t0 tb (d:=d) (YV t0 tb h)
def hv (n:Nat):Nat:=Nat.log2 n
theorem Zu:∀ n,n<25->∀ j,j<25->j<=n->hv j<=hv n:=by decide +kernel
theorem Zv:∀ n,n<25->∀ j,j<25->1<=j->2*j<=n->hv j+1<=hv n:=by decide +kernel
def Bd (m:Nat) (v:Hv) (ts:List Tn) (i:Nat):Hv:=(ts.take i).foldl (λy t=>BI t.1 t.2 y) (Bn m v)
theorem Gu {m:Nat} {v:Hv} {ts:List Tn} {i:Nat} {t:Tn} (h:ts[i]?=some t):Bd m v ts (i+1)=BI t.1 t.2 (Bd m v ts i):=by
 unfold Bd
 rw [List.take_add_one,h,List.foldl_append]
 rfl
theorem Hn (m:Nat) (v:Hv) (ts:List Tn) (i:Nat):C0 m (.p v) ts i=.p (Bd m v ts i):=by
 have:∀ (l:List Tn) (y:Hv),l.foldl (λy t=>Gm m t.1 t.2 y) (.p y)=.p (l.foldl (λy t=>BI t.1 t.2 y) y):=λl=>by
  induction l with
  | nil=>intro y; rfl
  | cons t l ih=>intro y; exact ih _
 exact this _ _
def AK (m:Nat) (v:Hv) (ts:List Tn) (k:Nat):Int:=C7 m (Bi ts k).1 (Bd m v ts k)
theorem Ky (m:Nat) (v:Hv) (ts:List Tn) (k:Nat):B6 m (.p v) ts k=AK m v ts k:=by
 unfold B6 AK
 rw [Hn]
 rfl
def BZ (m:Nat) (hs:List Hv) (ts:List Tn):List Tn:=(List.range ts.length).map λk=>(Bp (hs.map λv=>AK m v ts k),(Bi ts k).2)
theorem NT (m:Nat) (hs:List Hv) (ts:List Tn):(BZ m hs ts).length=ts.length:=by unfold BZ; rw [List.length_map,List.length_range]
theorem NU {m:Nat} {hs:List Hv} {ts:List Tn} {k:Nat} (h:k<ts.length):(BZ m hs ts)[k]?=some (Bp (hs.map λv=>AK m v ts k),(Bi ts k).2):=by unfold BZ; rw [List.getElem?_map,List.getElem?_range h]; rfl
def Bu (m:Nat) (v:Hv) (ts:List Tn) (i:Nat):Int:=((List.range i).map λk=>ab (AK m v ts k-(Bi ts k).2)).sum
theorem Wa (m:Nat) (v:Hv) (ts:List Tn) (i:Nat):Bu m v ts (i+1)=Bu m v ts i+ab (AK m v ts i-(Bi ts i).2):=by
 unfold Bu
 rw [List.range_succ,List.map_append,List.sum_append]
 show _+(_+0)=_
 rw [Int.add_zero]
theorem MH {m:Nat} {hs:List Hv} {hd:Hv} {ch:List Int} {ts:List Tn}:∀ i,i<=ts.length->C0 m (.t hs hd ch) ts i=.t (hs.map λv=>Bd m v ts i) (Bd hs.length hd (BZ m hs ts) i) (hs.map λv=>Bu m v ts i)
 | 0,_=>by
  show Hx.t (hs.map (Bn m)) (Bn hs.length hd) (List.replicate hs.length 0)=Hx.t (hs.map (Bn m)) (Bn hs.length hd) (hs.map λ_=>(0:Int))
  rw [List.map_const']
 | i+1,h=>by
  have hq:ts[i]?=some ts[i]:=List.getElem?_eq_getElem wF
  have et:=Dh hq
  rw [Hs hq,MH i wF]
  show Hx.t ((hs.map λv=>Bd m v ts i).map (BI ts[i].1 ts[i].2)) (BI (Bp (BA m ts[i].1 (hs.map λv=>Bd m v ts i))) ts[i].2 (Bd hs.length hd (BZ m hs ts) i)) (Ey m ts[i].1 ts[i].2 (hs.map λv=>Bd m v ts i) (hs.map λv=>Bu m v ts i))=_
  have ea:BA m ts[i].1 (hs.map λv=>Bd m v ts i)=hs.map λv=>AK m v ts i:=by
   unfold BA AK
   rw [List.map_map,et]
   rfl
  have e1:(hs.map λv=>Bd m v ts i).map (BI ts[i].1 ts[i].2)=hs.map λv=>Bd m v ts (i+1):=by
   rw [List.map_map]
   exact List.map_congr_left λv _=>(Gu hq).symm
  have e2:Bd hs.length hd (BZ m hs ts) (i+1)=BI (Bp (hs.map λv=>AK m v ts i)) ts[i].2 (Bd hs.length hd (BZ m hs ts) i):=by
   rw [Gu (NU (show i<ts.length by omega)),et]
  have e3:Ey m ts[i].1 ts[i].2 (hs.map λv=>Bd m v ts i) (hs.map λv=>Bu m v ts i)=hs.map λv=>Bu m v ts (i+1):=by
   unfold Ey
   rw [ea,List.zip_map',List.map_map]
   refine List.map_congr_left λv _=>?_
   rw [Wa,et]
   rfl
  rw [e1,e3,ea,e2]
theorem UX {m:Nat} {hs:List Hv} {hd:Hv} {ch:List Int} {ts:List Tn} {k:Nat} (h:k<ts.length):B6 m (.t hs hd ch) ts k=AK hs.length hd (BZ m hs ts) k:=by
 unfold B6
 rw [MH k wF]
 show C7 (hs.map λv=>Bd m v ts k).length (Bp (BA m (Bi ts k).1 (hs.map λv=>Bd m v ts k))) (Bd hs.length hd (BZ m hs ts) k)=_
 unfold AK
 rw [List.length_map,Dh (NU h)]
 unfold BA AK
 rw [List.map_map]
 rfl
theorem Pn {p:SP} {n:Nat}:∀ (ts:List Tn) (ws:List Int) (u:Int),(List.range ts.length).map (λk=>C7 n (Bi ts k).1 ((ts.take k).foldl (λy t=>BI t.1 t.2 y) (.v false p ws u)))=DS p.t p.b p.sc ts ws
 | [],_,_=>rfl
 | t::ts,ws,u=>by
  rw [List.length_cons,List.range_succ_eq_map,List.map_cons,List.map_map]
  show AG t.1 ws::_=AG t.1 ws::DS p.t p.b p.sc ts (wN p.t p.b p.sc t ws)
  congr 1
  exact Pn ts (wN p.t p.b p.sc t ws) (u*tS p.t p.b p.sc (ab (AG t.1 ws-t.2)))
theorem UY {p:SP} {n:Nat} (ts:List Tn) (ws:List Int) (u:Int):(List.range ts.length).map (AK n (.v false p ws u) ts)=DS p.t p.b p.sc ts (List.replicate n 1):=Pn ts (List.replicate n 1) 1
def D7 (a b:Int):Int:=if (!decide (a=b))=true then 1 else 0
def Co (f:Nat->Int) (ts:List Tn):Int:=((List.range ts.length).map λk=>D7 (f k) (Bi ts k).2).sum
theorem V9 {n m:Nat} {v:Hv} {ts:List Tn} (h:Br n m 1 v) (hm:m<=24) (ht:∀ t∈ts,B3 m 1 t):Bu m v ts ts.length=Co (AK m v ts) ts:=by
 unfold Bu Co
 congr 1
 refine List.map_congr_left λk hk=>?_
 have hk:=List.mem_range.mp hk
 have hq:ts[k]?=some ts[k]:=List.getElem?_eq_getElem hk
 have hok:=ht _ (List.getElem_mem hk)
 have hv:Br k m 1 (Bd m v ts k):=by
  have:=FB (x:=.p v) h hm ht k wF
  rw [Hn] at this
  exact this
 have hs:=Pq hv (hok.said hm) wE
 have e:AK m v ts k=C7 m ts[k].1 (Bd m v ts k):=by unfold AK; rw [Dh hq]
 rw [e,Dh hq]
 have hso:=hok.2.2
 unfold D7 ab
 by_cases h1:C7 m ts[k].1 (Bd m v ts k)=ts[k].2
 ·rw [decide_eq_true h1,h1]
  simp
 ·rw [decide_eq_false h1]
  split <;> simp <;> omega
theorem ZC {n m:Nat} {p:SP} {ws:List Int} {u:Int} {hs:List Hv} {ts:List Tn} {i:Nat} {v:Hv} (hf:B8 1 p.t p.b) (hsc:p.sc=1) (h:∀ v∈hs,Br n m 1 v) (h1:1<=hs.length) (h2:hs.length<=24) (hm:m<=24) (ht:∀ t∈ts,B3 m 1 t) (hv:hs[i]?=some v) :
  ∃ c e:Nat,Co (AK m v ts) ts=(c:Nat)/\Co (AK hs.length (.v false p ws u) (BZ m hs ts)) ts=(e:Nat)/\c<=ts.length/\e<=ts.length/\CJ (hs.length:Nat) p.t p.b c e:=by
 have hi:=(List.getElem?_eq_some_iff.mp hv).1
 have hto:∀ k<ts.length,B3 hs.length 1 (Bp (hs.map λv=>AK m v ts k),(Bi ts k).2):=λk hk=>by
  have hq:ts[k]?=some ts[k]:=List.getElem?_eq_getElem hk
  have hok:=ht _ (List.getElem_mem hk)
  have hsd:Bq ((hs.length:Nat):Int) 1 (Bp (hs.map λv=>AK m v ts k)):=by
   have:=Jw (n:=k) (m:=m) (s:=1) (said:=ts[k].1) (hs:=hs.map λv=>Bd m v ts k) (λw hw=>by
    obtain ⟨x,hx,rfl⟩:=List.mem_map.mp hw
    have:=FB (x:=.p x) (h x hx) hm ht k wF
    rw [Hn] at this
    exact this) (by rw [List.length_map]; exact h2) (hok.said hm) wE
   rw [List.length_map] at this
   unfold BA at this
   rw [List.map_map] at this
   unfold AK
   rw [Dh hq]
   exact this
  refine ⟨by have:=hsd.1; show (Bp _).length=_; omega,hsd.2.2,?_⟩
  rw [Dh hq]; exact hok.2.2
 have htb:∀ tn∈BZ m hs ts,B3 hs.length 1 tn:=λtn htn=>by
  obtain ⟨k,hk,rfl⟩:=List.mem_map.mp htn
  exact hto k (List.mem_range.mp hk)
 obtain ⟨c,e,hc,he,hcl,hel,hle⟩:=Q1J (k:=i) hf h1 h2 hi htb
 rw [NT] at hcl hel
 have hz:(BZ m hs ts).zip (DS p.t p.b 1 (BZ m hs ts) (List.replicate hs.length 1))=(List.range ts.length).map λk=>((Bp (hs.map λv=>AK m v ts k),(Bi ts k).2),AK hs.length (.v false p ws u) (BZ m hs ts) k):=by
  have e:=UY (p:=p) (n:=hs.length) (BZ m hs ts) ws u
  rw [hsc,NT] at e
  rw [<- e]
  exact List.zip_map' ..
 have hsat:∀ k,Ax (Bp (hs.map λv=>AK m v ts k)) i=some (AK m v ts k):=λk=>by
  unfold Ax Bp
  rw [List.getElem?_map,List.getElem?_map,hv]; rfl
 rw [hz] at hc he
 refine ⟨c,e,?_,?_,hcl,hel,hle⟩
 ·rw [<- hc]
  unfold Co
  rw [<- DR]
  congr 1
  rw [List.map_map]
  refine List.map_congr_left λk _=>?_
  have ho:oI i ((Bp (hs.map λv=>AK m v ts k),(Bi ts k).2),AK hs.length (.v false p ws u) (BZ m hs ts) k)=D7 (AK m v ts k) (Bi ts k).2:=by
   unfold oI
   show (if CK (od (Ax (Bp (hs.map λv=>AK m v ts k)) i))=true then (0:Int) else if (!decide (Ax (Bp (hs.map λv=>AK m v ts k)) i=some (Bi ts k).2))=true then 1 else 0)=_
   rw [hsat,if_neg (show ¬ CK (od (some (AK m v ts k)))=true from λz=>Bool.false_ne_true z)]
   unfold D7
   by_cases h:AK m v ts k=(Bi ts k).2
   ·rw [decide_eq_true h,decide_eq_true (congrArg some h)]
   ·rw [decide_eq_false h,decide_eq_false (λz=>h (Option.some.inj z))]
  exact ho.symm
 ·rw [<- he]
  unfold Co
  rw [<- DR]
  congr 1
  rw [List.map_map]
  refine List.map_congr_left λk _=>?_
  have ho:hI i ((Bp (hs.map λv=>AK m v ts k),(Bi ts k).2),AK hs.length (.v false p ws u) (BZ m hs ts) k)=D7 (AK hs.length (.v false p ws u) (BZ m hs ts) k) (Bi ts k).2:=by
   unfold hI
   show (if CK (od (Ax (Bp (hs.map λv=>AK m v ts k)) i))=true then (0:Int) else if (!decide (AK hs.length (.v false p ws u) (BZ m hs ts) k=(Bi ts k).2))=true then 1 else 0)=_
   rw [hsat,if_neg (show ¬ CK (od (some (AK m v ts k)))=true from λz=>Bool.false_ne_true z)]
   rfl
  exact ho.symm
abbrev sgS (c:Nat):Str:=⟨#[c]⟩
def nS (i:Int):Str:=Str.ofString (toString i)
def Cw:Option Int->Str
 | none => "-"
 | some i=>nS i
def Bb (t:Tn):List Str:=t.1.map Cw++[(":" : Str),nS t.2]
def Ba (t:Tn):Str:=Str.join " " (Bb t)
def C6 (ts:List Tn):Str:=Str.join "\n" (ts.map Ba)
def Fz:List Nat:=(Str.ofString "0123456789").cps.toList
def ED (most:Int) (x:Str):Bool:=if (decide ((x.length:Int)=0)||decide (most<(x.length:Int)))=true then false else if (!((x.cps.toList.map λc=>decide (c∈Fz)).all id))=true then false else (!(sgS ((x.cps[0]?).getD 0) == "0")||decide ((x.length:Int)=1))
def FY (x:Str):Int:=(PySem.intText? x).getD 0
def Da (s:Int) (x:Str):Bool:=ED ((nS s).length:Nat) x&&decide (FY x<=s)
def Jv (m:Nat) (s:Int) (ws:List Str):Bool:=if (!decide ((ws.length:Int)=(m:Nat)+2)||!(ws.getD m "" == ":"))=true then false else if (!(((ws.take m).map λw:Str=>(w==("-" : Str))||Da s w).all id))=true then false else Da s (ws.getD (m+1) "")
def Em (x:Str):Option Int:=if (x == "-")=true then none else some (FY x)
theorem Ml:∀ k:Nat,k<=10->(nS k).length=(if k<10 then 1 else 2):=by decide +kernel
theorem Ys:∀ k:Nat,k<=10->ED 2 (nS k)=true:=by decide +kernel
theorem Yt:∀ k:Nat,k<=9->ED 1 (nS k)=true:=by decide +kernel
theorem IL:∀ k:Nat,k<=10->FY (nS k)=(k:Nat):=by decide +kernel
theorem Yu:∀ k:Nat,k<=10->(nS k==("-" : Str))=false:=by decide +kernel
theorem Yr:∀ k:Nat,k<=10->∀ c∈(nS k).cps.toList,c≠32/\c≠10:=by decide +kernel
theorem Mj {i s:Int} (h0:0<=i) (h1:i<=s) (h2:s<=10):Da s (nS i)=true:=by
 obtain ⟨k,rfl⟩:=Int.eq_ofNat_of_zero_le h0
 obtain ⟨j,rfl⟩:=Int.eq_ofNat_of_zero_le (show 0<=s by omega)
 unfold Da
 have hl:=Ml j wF
 have hf:ED ((nS (j:Nat)).length:Nat) (nS (k:Nat))=true:=by
  rw [hl]
  by_cases hj:j<10
  ·rw [if_pos hj]; exact Yt k wF
  ·rw [if_neg hj]; exact Ys k wF
 rw [hf,IL k wF,decide_eq_true (show ((k:Nat):Int)<=(j:Nat) from h1)]
 rfl
theorem Z2 {most:Int} {x:Str} (h:ED most x=true):(x.length:Int)≠0/\(x.length:Int)<=most/\∀ c∈x.cps.toList,c∈Fz:=by
 unfold ED at h
 split at h
 ·cases h
 ·rename_i h1
  rw [Bool.or_eq_true,decide_eq_true_eq,decide_eq_true_eq] at h1
  split at h
  ·cases h
  ·rename_i h2
   refine ⟨λz=>h1 (.inl z),Int.not_lt.mp λz=>h1 (.inr z),λc hc=>?_⟩
   have h3:(x.cps.toList.map λc=>decide (c∈Fz)).all id=true:=by
    cases e:(x.cps.toList.map λc=>decide (c∈Fz)).all id with
    | true=>rfl
    | false=>rw [e] at h2; exact absurd rfl h2
   rw [List.all_map,List.all_eq_true] at h3
   exact of_decide_eq_true (h3 c hc)
theorem Je {most:Int} {x:Str} (h:ED most x=true) (hm:most<=600):PySem.intText? x=some (FY x)/\x.length<=640:=by
 obtain ⟨h1,h2,h3⟩:=Z2 h
 have hd:∀ c∈Fz,48<=c/\c<=57:=by decide +kernel
 have hne:x.cps.toList≠[]:=λe=>h1 (by
  have:x.cps.size=0:=by rw [<- Array.length_toList,e]; rfl
  show ((x.cps.size:Nat):Int)=0
  omega)
 have e:=PySem.intText_digits (x:=x) (λc hc=>hd c (h3 c hc)) hne wF
 refine ⟨?_,by omega⟩
 unfold FY
 rw [e]
 rfl
theorem IM {s:Int} (h0:0<=s) (h1:s<=10):(nS s).length<=2/\1<=(nS s).length:=by
 obtain ⟨k,rfl⟩:=Int.eq_ofNat_of_zero_le h0
 have:=Ml k wF
 show (nS (k:Nat)).length<=2/\1<=(nS (k:Nat)).length
 rw [this]
 split <;> decide
structure CU (m:Nat) (s:Int) (t:Tn):Prop where
 len:t.1.length=m
 say:∀ w∈t.1,∀ i,w=some i->0<=i/\i<=s
 so0:0<=t.2
 so1:t.2<=s
theorem FV {s:Int} {w:Option Int} (h:∀ i,w=some i->0<=i/\i<=s) (hs:s<=10):((Cw w == "-")||Da s (Cw w))=true/\Em (Cw w)=w/\(Cw w).length<=2/\(∀ c∈(Cw w).cps.toList,c≠32/\c≠10)/\Cw w=Str.ofString (match w with | none => "-" | some i=>toString i):=by
 cases w with
 | none=>exact ⟨by show ((Cw none==(("-" : Str)))||Da s (Cw none))=true; rw [show (Cw none==(("-" : Str)))=true by decide +kernel]; rfl,by decide +kernel,by decide +kernel,by decide +kernel,rfl⟩
 | some i=>
  obtain ⟨h0,h1⟩:=h i rfl
  obtain ⟨k,rfl⟩:=Int.eq_ofNat_of_zero_le h0
  have hd:=Yu k wF
  refine ⟨by show ((nS (k:Nat) == "-")||Da s (nS (k:Nat)))=true; rw [Mj wF h1 hs,Bool.or_true],?_,(IM wF wF).1,Yr k wF,rfl⟩
  show Em (nS (k:Nat))=some ((k:Nat):Int)
  unfold Em
  rw [if_neg (by rw [hd]; exact Bool.false_ne_true),IL k wF]
theorem FS (t:Tn):(Bb t).length=t.1.length+2:=by unfold Bb; rw [List.length_append,List.length_map]; rfl
theorem Q1R {m:Nat} {s:Int} {t:Tn} (h:CU m s t) (hs:s<=10):Jv m s (Bb t)=true:=by
 have hl:=h.len
 unfold Jv
 have e1:(Bb t).length=m+2:=by rw [FS,hl]
 have e2:(Bb t).getD m "" = ":" := by
  unfold Bb
  rw [List.getD_eq_getElem?_getD,List.getElem?_append_right (by rw [List.length_map]; omega),List.length_map,hl,Nat.sub_self]
  rfl
 have e3:(Bb t).getD (m+1) "" = nS t.2:=by
  unfold Bb
  rw [List.getD_eq_getElem?_getD,List.getElem?_append_right (by rw [List.length_map]; omega),List.length_map,hl,show m+1-m=1 by omega]
  rfl
 have e4:(Bb t).take m=t.1.map Cw:=by
  unfold Bb
  rw [List.take_append_of_le_length (by rw [List.length_map]; omega),List.take_of_length_le (by rw [List.length_map]; omega)]
 rw [e1,e2,e3,e4,decide_eq_true wF,Mj h.so0 h.so1 hs]
 have e5:((t.1.map Cw).map λw:Str=>(w==("-" : Str))||Da s w).all id=true:=by
  rw [List.map_map,List.all_map,List.all_eq_true]
  exact λw hw=>(FV (h.say w hw) hs).1
 rw [e5]
 rfl
theorem G6 {m:Nat} {s:Int} {t:Tn} (h:CU m s t) (hs:s<=10):∀ w∈Bb t,(∀ c∈w.cps.toList,c≠32/\c≠10)/\w.length<=2:=by
 intro w hw
 rcases List.mem_append.mp hw with hw | hw
 ·obtain ⟨o,ho,rfl⟩:=List.mem_map.mp hw
  have:=FV (h.say o ho) hs
  exact ⟨this.2.2.2.1,this.2.2.1⟩
 ·rcases List.mem_cons.mp hw with rfl | hw
  ·exact ⟨by decide +kernel,by decide +kernel⟩
  ·rw [List.mem_singleton.mp hw]
   have:=FV (w:=some t.2) (s:=s) (λi e=>by cases e; exact ⟨h.so0,h.so1⟩) hs
   exact ⟨this.2.2.2.1,this.2.2.1⟩
theorem ND (t:Tn):∃ w ws,Bb t=w::ws:=by
 have:=FS t
 cases h:Bb t with
 | nil=>rw [h] at this; cases this
 | cons w ws=>exact ⟨w,ws,rfl⟩
theorem Ps {m:Nat} {s:Int} {t:Tn} (h:CU m s t) (hs:s<=10):Txt.split (Ba t) " " = Bb t:=by
 obtain ⟨w,ws,e⟩:=ND t
 unfold Ba
 rw [e]
 have hf:=G6 h hs
 rw [e] at hf
 exact Oh 32 w ws λv hv hc=>((hf v hv).1 32 hc).1 rfl
theorem G0 {m:Nat} {s:Int} {t:Tn} (h:CU m s t) (hs:s<=10) (hm:m<=24):(Ba t).length<=78:=by
 have h1:=QJ " " (Bb t)
 have h2:=Fk (g:=λw:Str=>w.length) (B:=2) (l:=Bb t) λw hw=>(G6 h hs w hw).2
 have h3:=FS t
 have h4:((" " : Str)).length=1:=by decide +kernel
 have h5:=h.len
 rw [h3,h4] at h1
 rw [h3] at h2
 show (Str.join " " (Bb t)).length<=78
 omega
theorem Pt {m:Nat} {s:Int} {t:Tn} (h:CU m s t) (hs:s<=10):10∉(Ba t).cps.toList/\(Ba t).cps.toList≠[]:=by
 obtain ⟨w,ws,e⟩:=ND t
 have hf:=G6 h hs
 unfold Ba
 rw [e] at hf ⊢
 rw [show ((" " : Str))=⟨#[32]⟩ by decide +kernel,Hj]
 refine ⟨λhc=>?_,λhn=>?_⟩
 ·rcases List.mem_append.mp hc with hc | hc
  ·exact ((hf w List.mem_cons_self).1 10 hc).2 rfl
  ·obtain ⟨l,hl,hc⟩:=List.mem_flatten.mp hc
   obtain ⟨v,hv,rfl⟩:=List.mem_map.mp hl
   rcases List.mem_cons.mp hc with z | hc
   ·cases z
   ·exact ((hf v (List.mem_cons_of_mem _ hv)).1 10 hc).2 rfl
 ·have h1:=FS t
  rw [e] at h1
  cases ws with
  | nil=>simp at h1
  | cons v vs=>simp at hn
theorem Sz {m:Nat} {s:Int} {ts:List Tn} (h:∀ t∈ts,CU m s t) (hs:s<=10) (hne:ts≠[]):Txt.split (C6 ts) "\n" = ts.map Ba:=by
 unfold C6
 cases ts with
 | nil=>exact absurd rfl hne
 | cons t ts=>
  rw [List.map_cons]
  refine Oh 10 (Ba t) (ts.map Ba) λv hv=>?_
  rw [<- List.map_cons] at hv
  obtain ⟨u,hu,rfl⟩:=List.mem_map.mp hv
  exact (Pt (h u hu) hs).1
theorem SC {m:Nat} {s:Int} {ts:List Tn} (h:∀ t∈ts,CU m s t) (hs:s<=10) (hm:m<=24) (hl:ts.length<=63):(C6 ts).length<=5000:=by
 have h1:=QJ "\n" (ts.map Ba)
 have h2:=Fk (g:=λw:Str=>w.length) (B:=78) (l:=ts.map Ba) λw hw=>by obtain ⟨u,hu,rfl⟩:=List.mem_map.mp hw; exact G0 (h u hu) hs hm
 have h4:(("\n" : Str)).length=1:=by decide +kernel
 rw [List.length_map,h4] at h1
 rw [List.length_map] at h2
 show (Str.join "\n" (ts.map Ba)).length<=5000
 omega
theorem SB {m:Nat} {s:Int} {ts:List Tn} (h:∀ t∈ts,CU m s t) (hs:s<=10) (hne:ts≠[]):(C6 ts == "")=false:=by
 cases ts with
 | nil=>exact absurd rfl hne
 | cons t ts=>
  have h1:=(Pt (h t List.mem_cons_self) hs).2
  have e:(C6 (t::ts)).cps.toList≠[]:=by
   unfold C6
   rw [List.map_cons,show (("\n" : Str))=⟨#[10]⟩ by decide +kernel,Hj]
   intro z
   exact h1 (List.append_eq_nil_iff.mp z).1
  rw [beq_eq_false_iff_ne]
  intro z
  exact e (by rw [z]; decide +kernel)
def Es (m:Nat) (x:Str):Tn:=(((Txt.split x " ").take m).map Em,FY ((Txt.split x " ").getD (m+1) ""))
theorem Pz {m:Nat} {s:Int} {t:Tn} (h:CU m s t) (hs:s<=10):Es m (Ba t)=t:=by
 have hl:=h.len
 unfold Es
 rw [Ps h hs]
 have e3:(Bb t).getD (m+1) "" = nS t.2:=by
  unfold Bb
  rw [List.getD_eq_getElem?_getD,List.getElem?_append_right (by rw [List.length_map]; omega),List.length_map,hl,show m+1-m=1 by omega]
  rfl
 have e4:(Bb t).take m=t.1.map Cw:=by
  unfold Bb
  rw [List.take_append_of_le_length (by rw [List.length_map]; omega),List.take_of_length_le (by rw [List.length_map]; omega)]
 have e5:(t.1.map Cw).map Em=t.1:=by
  rw [List.map_map]
  conv=>rhs; rw [<- List.map_id t.1]
  exact List.map_congr_left λw hw=>(FV (h.say w hw) hs).2.1
 rw [e3,e4,e5]
 have h0:=h.so0
 have h1:=h.so1
 obtain ⟨k,e⟩:=Int.eq_ofNat_of_zero_le h0
 rw [e,IL k wF,<- e]
def Oj:List D->D->Prop:=λds d=>∃ w:Option Int,ds=[od w]/\(∀ i,w=some i->0<=i/\i<=10)/\d=.str (Cw w)
def OA:List D->D->Prop:=λds d=>∃ (m:Nat) (s:Int) (t:Tn),ds=[.tup (t.1.map od),.int t.2]/\CU m s t/\m<=24/\s<=10/\d=.str (Ba t)
def Oi:List D->D->Prop:=λds d=>∃ (m:Nat) (s:Int) (ts:List Tn),ds=[.tup (ts.map tD)]/\(∀ t∈ts,CU m s t)/\m<=24/\s<=10/\ts.length<=63/\d=.str (C6 ts)
def OW:List D->D->Prop:=λds d=>∃ (most:Int) (x:Str),ds=[.int most,.str x]/\x.length<=1000000/\d=.bl (ED most x)
def OH:List D->D->Prop:=λds d=>∃ (s:Int) (x:Str),ds=[.int s,.str x]/\(0<=s/\s<=10)/\x.length<=1000000/\d=.bl (Da s x)
def O5:List D->D->Prop:=λds d=>∃ (m:Nat) (s:Int) (ws:List Str),ds=[.int (m:Nat),.int s,.lst (ws.map D.str)]/\m<=24/\(0<=s/\s<=10)/\(∀ w∈ws,w.length<=1000000)/\d=.bl (Jv m s ws)
def Ol:List D->D->Prop:=λds d=>∃ (s:Int) (x:Str),ds=[.str x]/\s<=10/\0<=s/\((x == "-")||Da s x)=true/\d=od (Em x)
def OD:List D->D->Prop:=λds d=>∃ (m:Nat) (s k:Int) (t:Tn),ds=[.int (m:Nat),.int s,.int k,.str (Ba t)]/\CU m s t/\m<=24/\(0<=s/\s<=10)/\d=tD t
def OE:List D->D->Prop:=λds d=>∃ (m:Nat) (s:Int) (ts:List Tn),ds=[.int (m:Nat),.int s,.str (C6 ts)]/\(∀ t∈ts,CU m s t)/\m<=24/\(0<=s/\s<=10)/\ts.length<=63/\d=.tup (ts.map tD)
theorem JT {ws:List Str} {k:Nat} (h:k<ws.length):Be (ws.map D.str) (k:Int)=some (.str (ws.getD k "")):=by
 refine DZ ?_
 rw [List.getElem?_map,List.getElem?_eq_getElem h]
 simp [List.getD,h]
def Mi:Option Int->V
 | none=>.non
 | some i=>.int i
theorem Am.toOds {K:PySem.W.Frag} {G:Wd}:∀ {l:List (Option Int)} {vs:List V},Am K G (l.map od) vs->vs=l.map Mi
 | [],_,.nil=>rfl
 | none::l,_,.cons h r=>by cases h; rw [Am.toOds r]; rfl
 | some i::l,_,.cons h r=>by cases h; rw [Am.toOds r]; rfl
theorem Q1i {X:Cx} {O:Af} {d:D} {said:List (Option Int)} (h:LT O d (said.map od)):Bg X O (compareOp .In) .non d (.bl (decide (none∈said))):=.of Wm λG v u H Q s h1 h2 k=>by
 cases h1
 obtain ⟨kk,ad,ws,rfl,q,is⟩:=h.sq s h2
 have e:=Am.toOds is
 subst e
 have ev:IV .non (said.map Mi)=decide (none∈said):=by
  unfold IV
  rw [List.any_map]
  by_cases hm:none∈said
  ·rw [decide_eq_true hm,List.any_eq_true]
   exact ⟨none,hm,rfl⟩
  ·rw [decide_eq_false hm,List.any_eq_false]
   intro y hy
   cases y with
   | none=>exact absurd hy hm
   | some i=>exact Bool.false_ne_true
 refine ⟨ad,said.map Mi,rfl,?_,rfl,?_,by rw [ev]; exact k _ G H (Ag.refl _) s (.bl _)⟩
 ·cases kk with
  | true=>exact .inl q
  | false=>exact .inr q
 ·rw [List.all_map,List.all_eq_true]
  intro y _
  cases y <;> rfl
theorem Hh (xs:List Int):(xs.map some).map od=xs.map D.int:=by rw [List.map_map]; rfl
def HD (m s:Int) (xs:List Int):Prop:=(xs.length:Int)=m/\∀ x∈xs,0<=x/\x<=s
theorem HD.said {m s:Int} {xs:List Int} (h:HD m s xs) (hm:m<=24):Bq m s (xs.map some):=by
 refine ⟨by rw [List.length_map]; exact h.1,hm,λw hw=>?_⟩
 obtain ⟨x,hx,rfl⟩:=List.mem_map.mp hw
 right
 have:=h.2 x hx
 show (decide (0<=x)&&decide (x<=s))=true
 rw [decide_eq_true this.1,decide_eq_true this.2]; rfl
theorem Yd (xs:List Int):decide (none∈xs.map some)=false:=by
 rw [decide_eq_false_iff_not]
 intro h
 obtain ⟨x,_,e⟩:=List.mem_map.mp h
 cases e
def fM (sc t b so x:Int):Int:=sc*b-ab (x-so)*(b-t)
def DF (sc t b so:Int) (xs ws:List Int):List Int:=(ws.zip xs).map λp=>p.1*fM sc t b so p.2
def Fv (ws xs:List Int):Int:=sm (λp:Int×Int=>p.1*p.2) ((AV ws).zip xs)
structure C4 (n:Nat) (ws:List Int) (u:Int):Prop where
 w:∀ x∈ws,0<=x/\x<=u
 u1:1<=u
 u2:u<2 ^ (10*(n+1))
theorem YJ (n:Nat):C4 0 (List.replicate n 1) 1:=⟨λx hx=>by rw [List.eq_of_mem_replicate hx]; exact ⟨by decide,by decide⟩,by decide,by decide⟩
theorem Kx {sc t b:Int} (h:B8 sc t b):1<=sc*b/\sc*b<=1000:=by
 have:=h.s1; have:=h.s2; have:=h.t0; have:=h.tb; have:=h.b2
 have h1:sc*1<=sc*b:=Int.mul_le_mul_of_nonneg_left wF wF
 have h2:sc*b<=10*b:=Int.mul_le_mul_of_nonneg_right wF wF
 omega
theorem Q4 {sc t b so x:Int} (h:B8 sc t b) (hx:0<=x/\x<=sc) (hs:0<=so/\so<=sc):0<=fM sc t b so x/\fM sc t b so x<=sc*b:=by
 have:=h.s1; have:=h.t0; have:=h.tb
 have ha:=Ed hx hs
 unfold fM
 have h1:ab (x-so)*(b-t)<=sc*(b-t):=Int.mul_le_mul_of_nonneg_right ha.2 wF
 have h2:sc*(b-t)<=sc*b:=Int.mul_le_mul_of_nonneg_left wF wF
 have h3:0<=ab (x-so)*(b-t):=Int.mul_nonneg ha.1 wF
 omega
theorem Yl {n:Nat} {sc t b so u:Int} {xs ws:List Int} (hf:B8 sc t b) (hx:∀ x∈xs,0<=x/\x<=sc) (hs:0<=so/\so<=sc) (hw:C4 n ws u):C4 (n+1) (DF sc t b so xs ws) (u*(sc*b)):=by
 have hb:=Kx hf
 have e:10*(n+1+1)=10*(n+1)+10:=by omega
 have hu:=hw.u1
 refine ⟨λx h=>?_,?_,by rw [e]; exact (C8 wF hw.u2 wF (show sc*b<2 ^ 10 by omega)).2⟩
 ·obtain ⟨p,hp,rfl⟩:=List.mem_map.mp h
  have h1:=hw.w _ (List.of_mem_zip hp).1
  have h2:=Q4 hf (hx _ (List.of_mem_zip hp).2) hs
  refine ⟨Int.mul_nonneg h1.1 h2.1,?_⟩
  exact Int.le_trans (Int.mul_le_mul_of_nonneg_right h1.2 h2.1) (Int.mul_le_mul_of_nonneg_left h2.2 wF)
 ·have:=Int.mul_le_mul hu hb.1 wE wF
  omega
theorem Ym {sc t b so:Int} {xs ws:List Int} (h:ws.length=xs.length):(DF sc t b so xs ws).length=ws.length:=by
 unfold DF
 rw [List.length_map,List.length_zip]
 omega
theorem Q1d {n:Nat} {ws:List Int} {u:Int} (h:C4 n ws u):∀ x∈AV ws,0<=x/\x<2 ^ (10*(n+1)):=by
 have:=h.u1; have:=h.u2
 intro x hx
 unfold AV at hx
 split at hx
 ·obtain ⟨_,_,rfl⟩:=List.mem_map.mp hx
  omega
 ·have:=h.w x hx
  omega
def JF (C:Addr) (O:Af) (q:Nat) (m sc t b:Int) (ws:List Int) (u:Int):Prop:=O[q]?=some (some (.ins C (A0 m sc t b ws u)))
def Ka:List D->D->Prop:=λds d=>∃ xs:List Int,ds=[.tup (xs.map D.int)]/\d=.non
def OM (C:Addr):AH:=λds O R=>∃ (q n:Nat) (m sc t b u:Int) (ws xs:List Int),ds=[.ptr q,.tup (xs.map D.int)]/\JF C O q m sc t b ws u/\B8 sc t b/\(1<=m/\m<=24)/\n<=1000/\C4 n ws u/\(ws.length:Int)=m/\HD m sc xs/\R (.tup [.int (Fv ws xs),.int (AV ws).sum]) O
def OS (C:Addr):AH:=λds O R=>∃ (q n:Nat) (m sc t b u so:Int) (ws xs:List Int),ds=[.ptr q,.tup (xs.map D.int),.int so]/\JF C O q m sc t b ws u/\B8 sc t b/\(1<=m/\m<=24)/\n<=1000/\C4 n ws u/\(ws.length:Int)=m/\HD m sc xs/\(0<=so/\so<=sc)/\R .non (O.set q (some (.ins C (A0 m sc t b (DF sc t b so xs ws) (u*(sc*b))))))
theorem awT {m:Nat} {s:Int} {t:Tn} (h:B3 m s t) (ha:∀ w∈t.1,∃ i,w=some i):∃ xs:List Int,t.1=xs.map some/\HD (m:Nat) s xs:=by
 have:∀ l:List (Option Int),(∀ w∈l,∃ i,w=some i)->∃ xs:List Int,l=xs.map some:=by
  intro l
  induction l with
  | nil=>intro _; exact ⟨[],rfl⟩
  | cons w l ih=>
   intro hl
   obtain ⟨i,rfl⟩:=hl w List.mem_cons_self
   obtain ⟨xs,rfl⟩:=ih λv hv=>hl v (List.mem_cons_of_mem _ hv)
   exact ⟨i::xs,rfl⟩
 obtain ⟨xs,e⟩:=this t.1 ha
 refine ⟨xs,e,by have:=h.1; rw [e,List.length_map] at this; omega,λx hx=>?_⟩
 have:=h.2.1 (some x) (by rw [e]; exact List.mem_map.mpr ⟨x,hx,rfl⟩)
 exact EX (this.resolve_left (λh=>by cases h))
def gO (so:Int) (p:Int×Int):Int:=p.1*ab (p.2-so)
theorem Qn (sc t b so:Int):∀ ws xs:List Int,ws.length=xs.length->(DF sc t b so xs ws).sum=sc*b*ws.sum-(b-t)*sm (gO so) (ws.zip xs)
 | [],[],_=>by simp [DF,sm]
 | [],_::_,h=>by cases h
 | _::_,[],h=>by cases h
 | w::ws,x::xs,h=>by
  have ih:=Qn sc t b so ws xs (Nat.succ.inj h)
  show w*fM sc t b so x+(DF sc t b so xs ws).sum=sc*b*(w+ws.sum)-(b-t)*(w*ab (x-so)+sm (gO so) (ws.zip xs))
  rw [ih]
  unfold fM
  generalize ab (x-so)=c
  generalize sm (gO so) (ws.zip xs)=y
  generalize ws.sum=z
  grind
theorem Qv (so:Int):∀ ws xs:List Int,ws.length=xs.length->(∀ w∈ws,0<=w)->sm (λp:Int×Int=>p.1*p.2) (ws.zip xs)-so*ws.sum<=sm (gO so) (ws.zip xs)/\-(sm (gO so) (ws.zip xs))<=sm (λp:Int×Int=>p.1*p.2) (ws.zip xs)-so*ws.sum
 | [],[],_,_=>by simp [sm]
 | [],_::_,h,_=>by cases h
 | _::_,[],h,_=>by cases h
 | w::ws,x::xs,h,h0=>by
  have ih:=Qv so ws xs (Nat.succ.inj h) λv hv=>h0 v (List.mem_cons_of_mem _ hv)
  have hw:=h0 w List.mem_cons_self
  show w*x+sm (λp:Int×Int=>p.1*p.2) (ws.zip xs)-so*(w+ws.sum)<=w*ab (x-so)+sm (gO so) (ws.zip xs)/\-(w*ab (x-so)+sm (gO so) (ws.zip xs))<=w*x+sm (λp:Int×Int=>p.1*p.2) (ws.zip xs)-so*(w+ws.sum)
  generalize sm (λp:Int×Int=>p.1*p.2) (ws.zip xs)=y at ih
  generalize sm (gO so) (ws.zip xs)=z at ih
  have e1:so*(w+ws.sum)=w*so+so*ws.sum:=by rw [Int.mul_add,Int.mul_comm so w]
  have e2:w*x-w*so=w*(x-so):=by rw [Int.mul_sub]
  have a1:w*(x-so)<=w*ab (x-so):=Int.mul_le_mul_of_nonneg_left (by unfold ab; split <;> omega) hw
  have a2:w*(-(x-so))<=w*ab (x-so):=Int.mul_le_mul_of_nonneg_left (by unfold ab; split <;> omega) hw
  rw [Int.mul_neg] at a2
  rw [e1]
  omega
def A2 (l p:Int):Int:=if p<=l then l-p+1 else 0
def Gv (ps:List Int) (l:Int):Int:=if sm (A2 l) ps=0 then 0 else sm (A2 l) ps-1
theorem Jq (l p:Int):0<=A2 l p:=by unfold A2; split <;> omega
theorem Q0G (ps:List Int) (l:Int):(if 0>sm (A2 l) ps-1 then 0 else sm (A2 l) ps-1)=Gv ps l:=by
 have:=ER (l:=ps) (g:=A2 l) λa _=>Jq l a
 unfold Gv
 split <;> split <;> omega
theorem Q0S (ps:List Int) (l:Int):((ps.filter λp=>decide (p<=l)).map λp=>l-p+1).sum=sm (A2 l) ps:=by
 rw [DR,<- TC (p:=λp=>decide (p<=l)) (g:=A2 l) (λa _ h=>if_neg (of_decide_eq_false h))]
 exact ES λa ha=>(if_pos (of_decide_eq_true (List.mem_filter.mp ha).2)).symm
def OI:List D->D->Prop:=λds d=>∃ (ps:List Int) (l:Int),ds=[.tup (ps.map D.int),.int l]/\ps.length<=63/\d=.int (Gv ps l)
theorem Mb (L so:Int):∀ (sc:List Int) (said:List (Option Int)),sm (A2 L) (Db said so sc)<=sm (A2 L) sc
 | [],_=>Int.le_refl _
 | x::sc,[]=>ER (l:=x::sc) λa _=>Jq L a
 | x::sc,w::said=>by
  have ih:=Mb L so sc said
  have hc:0<=BP w so:=by
   cases w with
   | none=>exact Int.le_refl _
   | some i=>show 0<=ab (i-so); unfold ab; split <;> omega
  show A2 L (x+BP w so)+sm (A2 L) (Db said so sc)<=A2 L x+sm (A2 L) sc
  have:A2 L (x+BP w so)<=A2 L x:=by unfold A2; split <;> split <;> omega
  omega
theorem P3 (L so:Int):∀ (sc:List Int) (said:List (Option Int)) (f:Nat),f<sc.length->f<said.length->sc.getD f 0<=L->1<=BP (Ax said f) so->sm (A2 L) (Db said so sc)+1<=sm (A2 L) sc
 | [],_,f,h,_,_,_=>absurd h (Nat.not_lt_zero _)
 | _::_,[],f,_,h,_,_=>absurd h (Nat.not_lt_zero _)
 | x::sc,w::said,0,_,_,hx,hc=>by
  have ih:=Mb L so sc said
  have hx:x<=L:=hx
  have hc:1<=BP w so:=hc
  show A2 L (x+BP w so)+sm (A2 L) (Db said so sc)+1<=A2 L x+sm (A2 L) sc
  have:A2 L (x+BP w so)+1<=A2 L x:=by unfold A2; split <;>(try split) <;> omega
  omega
 | x::sc,w::said,f+1,h1,h2,hx,hc=>by
  have ih:=P3 L so sc said f (Nat.lt_of_succ_lt_succ h1) (Nat.lt_of_succ_lt_succ h2) hx hc
  have h0:0<=BP w so:=by
   cases w with
   | none=>exact Int.le_refl _
   | some i=>show 0<=ab (i-so); unfold ab; split <;> omega
  show A2 L (x+BP w so)+sm (A2 L) (Db said so sc)+1<=A2 L x+sm (A2 L) sc
  have:A2 L (x+BP w so)<=A2 L x:=by unfold A2; split <;> split <;> omega
  omega
theorem T3 {sc:List Int} {k:Nat} (h:k<sc.length) (L:Int) (hL:sc.getD k 0<=L):1<=sm (A2 L) sc:=by
 have:∀ (sc:List Int) (k:Nat),k<sc.length->sc.getD k 0<=L->1<=sm (A2 L) sc:=λsc=>by
  induction sc with
  | nil=>intro k h; exact absurd h (Nat.not_lt_zero _)
  | cons x l ih=>
   intro k h hL
   have hp:=ER (l:=l) (g:=A2 L) λa _=>Jq L a
   have hx:=Jq L x
   show 1<=A2 L x+sm (A2 L) l
   cases k with
   | zero=>
    have hL:x<=L:=hL
    have:1<=A2 L x:=by unfold A2; rw [if_pos hL]; omega
    omega
   | succ k=>
    have:=ih k (Nat.lt_of_succ_lt_succ h) hL
    omega
 exact this sc k h hL
def Aw (said:List (Option Int)):Prop:=∀ w∈said,∃ i,w=some i
theorem Q1O {said:List (Option Int)} (h:Aw said):ax said=List.range said.length:=List.filter_eq_self.mpr λk hk=>by
 have hk:=List.mem_range.mp hk
 obtain ⟨i,e⟩:=h _ (List.getElem_mem hk)
 show ((said[k]?).getD none).isSome=true
 rw [List.getElem?_eq_getElem hk,e]
 rfl
structure HJ (m:Nat) (ps sc:List Int) (errs hi:Int):Prop where
 ln:sc.length=m
 h0:0<=hi
 le:∀ k,k<m->hi<=sc.getD k 0
 pot:∀ L,hi<=L->errs+sm (A2 L) sc<=sm (A2 L) ps
theorem HJ.next {m:Nat} {ps sc:List Int} {errs hi so:Int} {said:List (Option Int)} {k:Nat} (h:HJ m ps sc errs hi) (hs:said.length=m) (aw:Aw said) (hf:Ej sc (List.range m) k) :
  HJ m ps (Db said so sc) (errs+(if (!decide ((Ax said k).getD 0=so))=true then 1 else 0)) (if sc.getD k 0>hi then sc.getD k 0 else hi):=by
 have hk:=List.mem_range.mp hf.1
 have hln:=h.ln
 have hv:=h.le k hk
 have hsl:sc.length=said.length:=by omega
 have hc:∀ j,0<=BP (Ax said j) so:=λj=>by
  cases Ax said j with
  | none=>exact Int.le_refl _
  | some i=>show 0<=ab (i-so); unfold ab; split <;> omega
 have hhi:(if sc.getD k 0>hi then sc.getD k 0 else hi)=sc.getD k 0:=by split <;> omega
 rw [hhi]
 refine ⟨by rw [Qr hsl]; exact hln,by have:=h.h0; omega,λj hj=>?_,λL hL=>?_⟩
 ·rw [Yk hsl wF]
  have:=(hf.2 j (List.mem_range.mpr hj)).1
  have:=hc j
  omega
 ·have hp:=h.pot L wF
  by_cases hd:(Ax said k).getD 0=so
  ·rw [decide_eq_true hd]
   have:=Mb L so sc said
   show errs+0+_<=_
   omega
  ·rw [decide_eq_false hd]
   have hc1:1<=BP (Ax said k) so:=by
    obtain ⟨i,e⟩:=aw _ (List.getElem_mem (show k<said.length by omega))
    have e2:Ax said k=some i:=by unfold Ax; rw [List.getElem?_eq_getElem wF,e]; rfl
    rw [e2] at hd ⊢
    have hd:¬ i=so:=hd
    show 1<=ab (i-so)
    unfold ab
    split <;> omega
   have:=P3 L so sc said k wF wF hL hc1
   show errs+1+_<=_
   omega
def nn (said:List (Option Int)) (k:Nat):Int:=(Ax said k).getD 0
def s1 (said:List (Option Int)) (ins:List Bool):List Int:=((ax said).filter λk=>ins.getD k false).map (nn said)
def sR (said:List (Option Int)) (ins:List Bool):List Int:=if s1 said ins=[] then Cj said else s1 said ins
def le (g:Int) (l:List Int):Nat:=(l.filter λx=>decide (x<=g)).length
theorem Mt (g:Int) (n:Nat->Int) (b:Nat->Bool):∀ as:List Nat,sm (λq:Int×Int=>if q.1<=g then q.2 else 0) (as.map λk=>(n k,C3 (b k)))=(le g ((as.filter b).map n):Nat)
 | []=>rfl
 | a::as=>by
  have ih:=Mt g n b as
  rw [List.map_cons]
  show (if n a<=g then C3 (b a) else 0)+_=_
  rw [ih]
  unfold C3
  cases hb:b a with
  | false=>
   rw [List.filter_cons_of_neg (by rw [hb]; exact Bool.false_ne_true),if_neg Bool.false_ne_true]
   split <;> omega
  | true=>
   rw [List.filter_cons_of_pos hb,if_pos rfl,List.map_cons]
   unfold le
   by_cases hg:n a<=g
   ·rw [if_pos hg,List.filter_cons,if_pos (decide_eq_true hg),List.length_cons]; omega
   ·rw [if_neg hg,List.filter_cons,if_neg (by rw [decide_eq_true_eq]; exact hg)]; omega
theorem J0 (n:Nat->Int) (b:Nat->Bool):∀ as:List Nat,(as.map λk=>C3 (b k)).sum=(((as.filter b).map n).length:Nat)
 | []=>rfl
 | a::as=>by
  have ih:=J0 n b as
  rw [List.map_cons,List.sum_cons,ih]
  unfold C3
  cases hb:b a with
  | false=>rw [List.filter_cons_of_neg (by rw [hb]; exact Bool.false_ne_true),if_neg Bool.false_ne_true]; omega
  | true=>rw [List.filter_cons_of_pos hb,if_pos rfl,List.map_cons,List.length_cons]; omega
theorem Sl (said:List (Option Int)) (ins:List Bool) (h:ins.length=said.length):BY said (Bh ins)=(ax said).map λk=>C3 (ins.getD k false):=by
 unfold BY Bh
 refine List.map_congr_left λk hk=>?_
 have hk:=Gy hk
 rw [List.getD_eq_getElem?_getD,List.getElem?_map,List.getElem?_eq_getElem wF,List.getD_eq_getElem?_getD,List.getElem?_eq_getElem wF]
 rfl
theorem cntR (said:List (Option Int)) (ins:List Bool) (h:ins.length=said.length):(∀ g,sm (λq:Int×Int=>if q.1<=g then q.2 else 0) ((Cj said).zip (AV (BY said (Bh ins))))=(le g (sR said ins):Nat))/\(AV (BY said (Bh ins))).sum=((sR said ins).length:Nat):=by
 rw [Sl said ins h]
 have hs:=J0 (nn said) (λk=>ins.getD k false) (ax said)
 have hs1:s1 said ins=((ax said).filter λk=>ins.getD k false).map (nn said):=rfl
 rw [<- hs1] at hs
 have hz:∀ b:Nat->Bool,(Cj said).zip ((ax said).map λk=>C3 (b k))=(ax said).map λk=>(nn said k,C3 (b k)):=λb=>by
  show ((ax said).map (nn said)).zip _=_
  rw [List.zip_map']
 unfold sR AV
 by_cases h0:s1 said ins=[]
 ·have h00:((ax said).map λk=>C3 (ins.getD k false)).sum=0:=by rw [hs,h0]; rfl
  rw [if_pos h0,if_pos h00,List.map_map]
  have e:((λ_:Int=>(1:Int)) ∘ λk=>C3 (ins.getD k false))=λk:Nat=>C3 ((λ_=>true) k):=rfl
  have ht:(ax said).filter (λ_=>true)=ax said:=List.filter_eq_self.mpr λ_ _=>rfl
  rw [e]
  refine ⟨λg=>?_,?_⟩
  ·rw [hz,Mt g (nn said) (λ_=>true),ht]
   rfl
  ·rw [J0 (nn said) (λ_=>true),ht]
   rfl
 ·have h00:¬ ((ax said).map λk=>C3 (ins.getD k false)).sum=0:=by
   rw [hs]
   have:=List.length_pos_iff.mpr h0
   omega
  rw [if_neg h0,if_neg h00]
  refine ⟨λg=>?_,hs⟩
  rw [hz,Mt g (nn said)]
  rfl
theorem Ms {f g:Int} (h:f<=g):∀ l:List Int,le f l<=le g l
 | []=>Nat.le_refl _
 | x::l=>by
  have ih:=Ms h l
  unfold le at *
  rw [List.filter_cons,List.filter_cons]
  by_cases h1:x<=f
  ·rw [if_pos (decide_eq_true h1),if_pos (decide_eq_true wF),List.length_cons,List.length_cons]; omega
  ·rw [if_neg (by rw [decide_eq_true_eq]; exact h1)]
   by_cases h2:x<=g
   ·rw [if_pos (decide_eq_true h2),List.length_cons]; omega
   ·rw [if_neg (by rw [decide_eq_true_eq]; exact h2)]; exact ih
theorem YF {said:List (Option Int)} {ins:List Bool} (h24:said.length<=24) (h:ins.length=said.length) :
  (sR said ins=[]->AG said (Bh ins)=0)/\(sR said ins≠[]->((sR said ins).length:Int)<=2*(le (AG said (Bh ins)) (sR said ins):Nat)/\∀ f,f<AG said (Bh ins)->2*((le f (sR said ins):Nat):Int)<(sR said ins).length):=by
 obtain ⟨c1,c2⟩:=cntR said ins h
 have hr:=L8 (Ie (ws:=Bh ins) h24 (JP ins))
 have hm:Di (Cj said) (BY said (Bh ins))=AG said (Bh ins):=rfl
 rw [hm] at hr
 generalize AG said (Bh ins)=m at hr
 have hne:Cj said=[] ↔ sR said ins=[]:=by
  unfold sR
  by_cases h0:s1 said ins=[]
  ·rw [if_pos h0]
  ·rw [if_neg h0]
   refine ⟨λe=>?_,λe=>absurd e h0⟩
   exfalso
   apply h0
   unfold s1
   have:ax said=[]:=List.map_eq_nil_iff.mp (show (ax said).map _=[] from e)
   rw [this]; rfl
 unfold Ha at hr
 refine ⟨λe=>?_,λe=>?_⟩
 ·rw [if_pos (hne.mpr e)] at hr
  exact of_decide_eq_true hr
 ·rw [if_neg (λz=>e (hne.mp z)),Bool.and_eq_true,Bool.and_eq_true] at hr
  have h2:=of_decide_eq_true hr.2.1
  have h3:=of_decide_eq_true hr.2.2
  rw [c2] at h2 h3
  have e1:Ec m (Cj said) (AV (BY said (Bh ins)))+there m (Cj said) (AV (BY said (Bh ins)))=(le m (sR said ins):Nat):=by
   rw [<- c1 m]
   unfold Ec there
   rw [<- F7]
   refine ES λa ha=>?_
   split <;> split <;>(try split) <;> omega
  have e2:Ec m (Cj said) (AV (BY said (Bh ins)))=(le (m-1) (sR said ins):Nat):=by
   rw [<- c1 (m-1)]
   unfold Ec
   refine ES λa ha=>?_
   split <;> split <;> omega
  rw [e1] at h3
  rw [e2] at h2
  refine ⟨h3,λf hf=>?_⟩
  have:=Ms (show f<=m-1 by omega) (sR said ins)
  omega
def ct (l:List Bool):Nat:=(l.filter id).length
def Jk (so:Int) (l:List Int):Nat:=(l.filter λx=>decide (x=so)).length
theorem Mr (so:Int):∀ l:List Int,le so l=le (so-1) l+Jk so l
 | []=>rfl
 | x::l=>by
  have ih:=Mr so l
  unfold le Jk at *
  rw [List.filter_cons,List.filter_cons,List.filter_cons]
  by_cases h1:x<=so-1
  ·rw [if_pos (decide_eq_true wF),if_pos (decide_eq_true h1),if_neg (by rw [decide_eq_true_eq]; omega),List.length_cons,List.length_cons]; omega
  ·by_cases h2:x=so
   ·rw [if_pos (decide_eq_true wF),if_neg (by rw [decide_eq_true_eq]; exact h1),if_pos (decide_eq_true h2),List.length_cons,List.length_cons]; omega
   ·rw [if_neg (by rw [decide_eq_true_eq]; omega),if_neg (by rw [decide_eq_true_eq]; exact h1),if_neg (by rw [decide_eq_true_eq]; exact h2)]; exact ih
theorem YU (g:Int) (l:List Int):le g l<=l.length:=List.length_filter_le _ _
theorem Rt {α:Type} (f:α->Bool) (l:List α):ct (l.map f)=(l.filter f).length:=by
 unfold ct
 rw [List.filter_map,List.length_map]
 rfl
theorem QE {said:List (Option Int)} {so:Int} {ins:List Bool} (h:ins.length=said.length):BS said so ins=(List.range said.length).map λk=>ins.getD k false&&decide (BP (Ax said k) so=0):=by
 unfold BS
 refine List.ext_getElem? λi=>?_
 rw [List.getElem?_map,List.getElem?_map]
 by_cases hi:i<said.length
 ·have hz:i<(ins.zip said).length:=by rw [List.length_zip]; omega
  rw [List.getElem?_range hi,List.getElem?_eq_getElem hz,List.getElem_zip]
  have h1:ins.getD i false=ins[i]:=by rw [List.getD_eq_getElem?_getD,List.getElem?_eq_getElem wF]; rfl
  have h2:Ax said i=said[i]:=by unfold Ax; rw [List.getElem?_eq_getElem hi]; rfl
  show some (ins[i]&&decide (BP said[i] so=0))=some (ins.getD i false&&decide (BP (Ax said i) so=0))
  rw [h1,h2]
 ·rw [List.getElem?_eq_none (by rw [List.length_zip]; omega),List.getElem?_eq_none (by simp; omega)]
  rfl
theorem Zm {n:Nat} {ins:List Bool} (h:ins.length=n):ins=(List.range n).map λk=>ins.getD k false:=by
 refine List.ext_getElem? λi=>?_
 rw [List.getElem?_map]
 by_cases hi:i<n
 ·rw [List.getElem?_range hi,List.getElem?_eq_getElem wF]
  simp [List.getD,h,hi]
 ·rw [List.getElem?_eq_none wF,List.getElem?_eq_none (by simp; omega)]
  rfl
theorem M9 {said:List (Option Int)} (h:Aw said) {k:Nat} (hk:k<said.length):∃ i,Ax said k=some i:=by
 obtain ⟨i,e⟩:=h _ (List.getElem_mem hk)
 exact ⟨i,by unfold Ax; rw [List.getElem?_eq_getElem hk,e]; rfl⟩
theorem Q0U {said:List (Option Int)} {ins:List Bool} (h:ins.length=said.length) (aw:Aw said):ct ins=(s1 said ins).length:=by
 conv=>lhs; rw [Zm h]
 rw [Rt]
 unfold s1 ax
 rw [List.length_map,List.filter_filter]
 congr 1
 refine List.filter_congr λk hk=>?_
 obtain ⟨i,e⟩:=M9 aw (List.mem_range.mp hk)
 rw [e]
 exact (Bool.and_true _).symm
theorem Q0T {said:List (Option Int)} {so:Int} {ins:List Bool} (h:ins.length=said.length) (aw:Aw said):ct (BS said so ins)=Jk so (s1 said ins):=by
 rw [QE h,Rt]
 unfold Jk s1 ax
 rw [List.filter_map,List.length_map,List.filter_filter,List.filter_filter]
 congr 1
 refine List.filter_congr λk hk=>?_
 obtain ⟨i,e⟩:=M9 aw (List.mem_range.mp hk)
 show (ins.getD k false&&decide (BP (Ax said k) so=0))=(decide (nn said k=so)&&ins.getD k false&&(Ax said k).isSome)
 unfold nn
 rw [e]
 show (ins.getD k false&&decide (ab (i-so)=0))=(decide (i=so)&&ins.getD k false&&true)
 rw [Bool.and_true,Bool.and_comm]
 congr 1
 by_cases hi:i=so
 ·rw [decide_eq_true hi,decide_eq_true (by unfold ab; split <;> omega)]
 ·rw [decide_eq_false hi,decide_eq_false (by unfold ab; split <;> omega)]
theorem RR (l:List Bool):l.any id=true ↔ 1<=ct l:=by
 unfold ct
 refine ⟨λh=>?_,λh=>?_⟩
 ·obtain ⟨b,hb,e⟩:=List.any_eq_true.mp h
  exact List.length_pos_iff.mpr (List.ne_nil_of_mem (List.mem_filter.mpr ⟨hb,e⟩))
 ·obtain ⟨b,hb⟩:=List.exists_mem_of_ne_nil _ (List.length_pos_iff.mp h)
  exact List.any_eq_true.mpr ⟨b,List.mem_filter.mp hb⟩
theorem Jr (n:Nat):ct (List.replicate n true)=n:=by
 unfold ct
 rw [List.filter_eq_self.mpr λb hb=>by rw [List.eq_of_mem_replicate hb]; rfl,List.length_replicate]
theorem ZG {said:List (Option Int)} {so:Int} {ins:List Bool} (h24:said.length<=24) (h:ins.length=said.length) (aw:Aw said) (h1:1<=ct ins) :
  (AG said (Bh ins)≠so->2*ct (BS said so ins)<=ct ins)/\(AG said (Bh ins)=so->1<=ct (BS said so ins))/\ct (BS said so ins)<=ct ins:=by
 have e1:=Q0U h aw
 have e2:=Q0T (so:=so) h aw
 have hne:s1 said ins≠[]:=by
  rw [e1] at h1
  exact List.length_pos_iff.mp h1
 have er:sR said ins=s1 said ins:=if_neg hne
 have hm:=(YF h24 h).2 (by rw [er]; exact hne)
 rw [er] at hm
 rw [e2,e1]
 generalize AG said (Bh ins)=m at hm
 generalize s1 said ins=S at hm hne
 obtain ⟨m1,m2⟩:=hm
 have hsp:=Mr so S
 have hl:=YU so S
 refine ⟨λhd=>?_,λhd=>?_,?_⟩
 ·by_cases hlt:so<m
  ·have:=m2 so hlt
   omega
  ·have:=Ms (show m<=so-1 by omega) S
   omega
 ·subst hd
  have:=m2 (m-1) wF
  have hsp:=Mr m S
  omega
 ·omega
def HC (m:Nat) (said:List (Option Int)) (so:Int) (am:List Int):List Int:=(List.range m).map λj=>am.getD j 0+(if (!decide (Ax said j=some so))=true then 1 else 0)
theorem Nf {m:Nat} {said:List (Option Int)} {so:Int} {am:List Int} {j:Nat} (h:j<m):(HC m said so am).getD j 0=am.getD j 0+(if (!decide (Ax said j=some so))=true then 1 else 0):=by
 unfold HC
 rw [List.getD_eq_getElem?_getD,List.getElem?_map,List.getElem?_range h]
 rfl
structure FK (m:Nat) (ins:List Bool) (ov errs:Int) (am:List Int) (i:Nat):Prop where
 li:ins.length=m
 la:am.length=m
 c1:1<=ct ins
 o0:0<=ov
 oi:ov<=i
 pot:errs+(hv (ct ins):Nat)<=((hv m:Nat)+1)*ov+(hv m:Nat)
 ea:∀ j,j<m->ov+(if ins.getD j false=true then 0 else 1)<=am.getD j 0
theorem FK.next {m:Nat} {ins:List Bool} {ov errs so:Int} {am:List Int} {i:Nat} {said:List (Option Int)} (h:FK m ins ov errs am i) (hm1:1<=m) (hm2:m<=24) (hs:said.length=m) (aw:Aw said) :
  FK m (D5 said so ins) (EY said so ins ov) (errs+(if (!decide (AG said (Bh ins)=so))=true then 1 else 0)) (HC m said so am) (i+1)/\(AG said (Bh ins)=so->EY said so ins ov=ov):=by
 have hl:=h.li; have ho:=h.o0; have hoi:=h.oi; have hp:=h.pot
 have hil:ins.length=said.length:=by omega
 obtain ⟨a1,a2,a3⟩:=ZG (so:=so) wF hil aw h.c1
 have hc24:ct ins<=m:=by rw [<- hl]; exact List.length_filter_le _ _
 have hlr:=QE (so:=so) hil
 have hll:=Mq (so:=so) hil
 have heA:(if (!decide (AG said (Bh ins)=so))=true then (1:Int) else 0)=if AG said (Bh ins)=so then 0 else 1:=by
  by_cases hd:AG said (Bh ins)=so
  ·rw [if_pos hd,decide_eq_true hd]; rfl
  ·rw [if_neg hd,decide_eq_false hd]; rfl
 rw [heA]
 have hlat:∀ j,j<m->(BS said so ins).getD j false=(ins.getD j false&&decide (Ax said j=some so)):=λj hj=>by
  rw [hlr,List.getD_eq_getElem?_getD,List.getElem?_map,List.getElem?_range wF]
  obtain ⟨x,e⟩:=M9 aw (show j<said.length by omega)
  show (ins.getD j false&&decide (BP (Ax said j) so=0))=_
  rw [e]
  congr 1
  show decide (ab (x-so)=0)=decide (some x=some so)
  by_cases hx:x=so
  ·rw [decide_eq_true (show ab (x-so)=0 by unfold ab; split <;> omega),decide_eq_true (show some x=some so by rw [hx])]
  ·rw [decide_eq_false (show ¬ ab (x-so)=0 by unfold ab; split <;> omega),decide_eq_false (show ¬ some x=some so from λz=>hx (Option.some.inj z))]
 by_cases hany:(BS said so ins).any id=true
 ·have hc:=(RR _).mp hany
  unfold D5 EY
  rw [if_pos hany,if_pos hany]
  refine ⟨⟨by omega,by unfold HC; rw [List.length_map,List.length_range],hc,ho,by omega,?_,λj hj=>?_⟩,λ_=>rfl⟩
  ·have hmo:=Zu (ct ins) wF (ct (BS said so ins)) wF a3
   by_cases hd:AG said (Bh ins)=so
   ·rw [if_pos hd]
    generalize ((hv m:Nat)+1)*ov+(hv m:Nat)=B at *
    omega
   ·rw [if_neg hd]
    have hh:=Zv (ct ins) wF (ct (BS said so ins)) wF hc (a1 hd)
    generalize ((hv m:Nat)+1)*ov+(hv m:Nat)=B at *
    omega
  ·rw [Nf hj,hlat j hj]
   have:=h.ea j hj
   cases hb:ins.getD j false <;> cases hd:decide (Ax said j=some so) <;> rw [hb] at this <;> simp at this ⊢ <;> omega
 ·have hc:ct (BS said so ins)=0:=by
   exact Nat.eq_zero_of_not_pos λz=>hany ((RR (BS said so ins)).mpr z)
  have hd:AG said (Bh ins)≠so:=λz=>by have:=a2 z; omega
  unfold D5 EY
  rw [if_neg hany,if_neg hany,if_neg hd]
  refine ⟨⟨by rw [List.length_replicate]; exact hl,by unfold HC; rw [List.length_map,List.length_range],by rw [Jr]; omega,by omega,by omega,?_,λj hj=>?_⟩,λz=>absurd z hd⟩
  ·rw [Jr,hl,Int.mul_add,Int.mul_one]
   generalize ((hv m:Nat)+1:Int)*ov=B at *
   omega
  ·rw [Nf hj]
   have:=h.ea j hj
   have hz:(BS said so ins).getD j false=false:=by
    cases hb:(BS said so ins).getD j false with
    | false=>rfl
    | true=>
     exfalso
     apply hany
     have hjl:j<(BS said so ins).length:=by omega
     rw [List.getD_eq_getElem?_getD,List.getElem?_eq_getElem hjl] at hb
     exact List.any_eq_true.mpr ⟨true,by rw [<- show (BS said so ins)[j]=true from hb]; exact List.getElem_mem _,rfl⟩
   rw [hlat j hj] at hz
   have hrep:(List.replicate ins.length true).getD j false=true:=by
    rw [List.getD_eq_getElem?_getD,List.getElem?_replicate,if_pos wF]
    rfl
   rw [hrep]
   cases hb:ins.getD j false <;> cases hdd:decide (Ax said j=some so) <;> rw [hb] at this hz <;> rw [hdd] at hz <;> simp at this hz ⊢ <;> omega
theorem FK.first {m:Nat} (hm1:1<=m):FK m (List.replicate m true) 0 0 (List.replicate m 0) 0:=by
 refine ⟨List.length_replicate,List.length_replicate,by rw [Jr]; exact hm1,Int.le_refl _,Int.le_refl _,?_,λj hj=>?_⟩
 ·rw [Jr,Int.mul_zero]
  omega
 ·rw [List.getD_eq_getElem?_getD,List.getElem?_replicate,if_pos hj,List.getD_eq_getElem?_getD,List.getElem?_replicate,if_pos hj]
  decide
theorem Rr (p:SP):∀ (ws:List Int) (c:Int),(ws.map λw=>w*(p.m*(p.pa-p.sh))+c).sum=ws.sum*(p.m*(p.pa-p.sh))+(ws.length:Nat)*c
 | [],c=>by simp
 | w::ws,c=>by
  rw [List.map_cons,List.sum_cons,Rr p ws c,List.sum_cons,List.length_cons]
  generalize p.m*(p.pa-p.sh)=K
  push_cast
  grind
theorem Tl {sf:Bool} {p:SP} {said:List (Option Int)} {so u:Int} {ws:List Int} (hv:Df sf p) (hsd:Bq p.m p.sc said) (hso:0<=so/\so<=p.sc) (hw0:Cd ws) (hl:ws.length=said.length) (h:ws.sum<=u*p.m):(Hk sf p said so ws).sum<=IW sf p said so ws u*p.m:=by
 have h24:=hsd.2.1
 have hl2:(ws.length:Int)=p.m:=by have:=hsd.1; omega
 have hd:=Ed (Ez (ws:=ws) hsd (by have:=hv.f.s1; omega) hw0) hso
 have hs:=N5 hv.f hsd hso hw0 hl
 have hT:=F1 (own:=ab (AG said ws-so)) hv.f hd.2
 cases sf with
 | false=>
  show (BW p.t p.b p.sc (ab (AG said ws-so)) so said ws).sum<=u*tS p.t p.b p.sc (ab (AG said ws-so))*p.m
  have e:u*tS p.t p.b p.sc (ab (AG said ws-so))*p.m=u*p.m*tS p.t p.b p.sc (ab (AG said ws-so)):=by grind
  rw [e]
  exact Int.le_trans hs (Int.mul_le_mul_of_nonneg_right h hT.1)
 | true=>
  obtain ⟨q1,q2,q3⟩:=hv.s rfl
  show (Dx p (BW p.t p.b p.sc (ab (AG said ws-so)) so said ws)).sum<=u*tS p.t p.b p.sc (ab (AG said ws-so))*p.m*p.pa*p.m
  unfold Dx
  rw [Rr,Gg hl,hl2]
  generalize (BW p.t p.b p.sc (ab (AG said ws-so)) so said ws).sum=X at hs
  generalize tS p.t p.b p.sc (ab (AG said ws-so))=Y at hs hT
  generalize ws.sum=W at hs h
  have m1:=hv.m1
  have e1:X*(p.m*(p.pa-p.sh))+p.m*(p.sh*X)=X*(p.m*p.pa):=by grind
  have e2:u*Y*p.m*p.pa*p.m=u*p.m*Y*(p.m*p.pa):=by grind
  rw [e1,e2]
  refine Int.mul_le_mul_of_nonneg_right (Int.le_trans hs (Int.mul_le_mul_of_nonneg_right h hT.1)) (Int.mul_nonneg wF wF)
def GB (C:Cs) (O:Af) (m:Nat) (s:Int) (pv:List (Nat×Hv)):Prop:=∀ x∈pv,O[x.1]?=some (some (C.o (m:Nat) s x.2))/\Br 0 m s x.2
theorem GB.app {C:Cs} {O Y:Af} {m:Nat} {s:Int} {pv:List (Nat×Hv)} (h:GB C O m s pv):GB C (O++Y) m s pv:=λx hx=>⟨De (h x hx).1,(h x hx).2⟩
theorem NO {O O' Z:Af} (h:∃ Y,O'=O++Y):∃ Y,O'++Z=O++Y:=by
 obtain ⟨Y,rfl⟩:=h
 exact ⟨_,List.append_assoc ..⟩
theorem Nd (m:Nat) (v:Hv):Bn m (Bn m v)=Bn m v:=by cases v <;> rfl
theorem Q1W (m:Nat) (x:Hx):DI m (DI m x)=DI m x:=by
 cases x with
 | p v=>exact congrArg Hx.p (Nd m v)
 | t hs hd ch=>
  show Hx.t ((hs.map (Bn m)).map (Bn m)) (Bn (hs.map (Bn m)).length (Bn hs.length hd)) (List.replicate (hs.map (Bn m)).length 0)=Hx.t (hs.map (Bn m)) (Bn hs.length hd) (List.replicate hs.length 0)
  have e:(hs.map (Bn m)).map (Bn m)=hs.map (Bn m):=by rw [List.map_map]; exact List.map_congr_left λv _=>Nd m v
  rw [e,List.length_map,Nd]
theorem Q0o (m:Nat) (x:Hx) (ts:List Tn) (i:Nat):C0 m (DI m x) ts i=C0 m x ts i:=by unfold C0; rw [Q1W]
theorem UZ (m:Nat) (x:Hx) (ts:List Tn) (k:Nat):B6 m (DI m x) ts k=B6 m x ts k:=by unfold B6; rw [Q0o]
theorem Dg.refl (q k:Nat) (O:Af):Dg q k O O:=⟨rfl,λ_ _=>rfl⟩
theorem Dg.trans {q k:Nat} {O O1 O2:Af} (h:Dg q k O O1) (g:Dg q k O1 O2):Dg q k O O2:=⟨g.l.trans h.l,λj hj=>(g.o j hj).trans (h.o j hj)⟩
theorem JQ {f g:Nat->Int} {ts:List Tn} (h:∀ k,k<ts.length->f k=g k):Co f ts=Co g ts:=by
 unfold Co
 congr 1
 exact List.map_congr_left λk hk=>by rw [h k (List.mem_range.mp hk)]
theorem Vn {C:Cs} {O:Af} {m:Nat} {s:Int} {pv:List (Nat×Hv)} (h:GB C O m s pv):Dq C O m s pv:=λx hx=>⟨(h x hx).1,0,(h x hx).2⟩
theorem Mv (sep a:Str):∀ l:List Str,l≠[]->Str.join sep (l++[a])=Str.join sep l++sep++a
 | [],h=>absurd rfl h
 | [b],_=>rfl
 | b::c::l,_=>by
  show b++sep++Str.join sep ((c::l)++[a])=b++sep++Str.join sep (c::l)++sep++a
  rw [Mv sep a (c::l) (by simp)]
  simp only [Str.append_assoc]
theorem YZ {α:Type} {f:α->D} {l:List α} {a:α} (h:l[l.length-1]?=some a):Be (l.map f) (-1)=some (f a):=by
 have hl:=(List.getElem?_eq_some_iff.mp h).1
 unfold Be Fa
 rw [List.length_map,if_neg wE,if_pos wF]
 show (l.map f)[((-1:Int)+(l.length:Nat)).toNat]?=_
 rw [show ((-1:Int)+(l.length:Nat)).toNat=l.length-1 by omega,List.getElem?_map,h]
 rfl
theorem Q1o {ns:List Int}:(Eb ns).length<=60:=by
 unfold Eb
 split
 ·rw [List.length_map,List.length_range]; decide
 ·have e:Cc ns (some 3) (some 63)=(ns.drop 3).take 60:=Q0P ns 3 63
  rw [e,List.length_take]
  omega
theorem R5 {X:Cx} {ρ:Aj} {O:Af} {e:Expr} {R:D->Af->Prop} (h:Ev X ρ O e λd O'=>(∃ O2,O'=O++O2)/\Fu d=true/\R d O):Ev X ρ O e R:=λG=>PE.imp (h G) λσ H Q ⟨q1,q2,q3⟩=>⟨q1,q2,λv d O' G' H' e1 s1 i1 r=>by
 obtain ⟨⟨O2,rfl⟩,hn,r⟩:=r
 obtain ⟨e2,s2⟩:=q1.cut e1 s1
 exact q3 v d O _ H' e2 s2 (i1.cut hn _) r⟩
theorem Q0v (a b:Option Int):CO (od a) (od b)=decide (a=b):=by
 cases a with
 | none=>cases b <;> rfl
 | some i=>cases b with
  | none=>rfl
  | some j=>
   show CO (.int i) (.int j)=_
   rw [MN]
   by_cases h:i=j
   ·rw [decide_eq_true h,decide_eq_true (by rw [h])]
   ·rw [decide_eq_false h,decide_eq_false (by intro e; exact h (Option.some.inj e))]
theorem Q0s (t:Tn):CO (tD t) (tD t)=true:=by
 show CO (.tup [.tup (t.1.map od),.int t.2]) (.tup [.tup (t.1.map od),.int t.2])=true
 rw [Q0u,MN,decide_eq_true rfl,show CO (.tup (t.1.map od)) (.tup (t.1.map od))=Ht (t.1.map od) (t.1.map od) from rfl,MM Q0v,decide_eq_true rfl]
 rfl
theorem Q0r:∀ ts:List Tn,CO (.tup (ts.map tD)) (.tup (ts.map tD))=true:=λts=>by
 show Ht (ts.map tD) (ts.map tD)=true
 induction ts with
 | nil=>rfl
 | cons t ts ih=>show (CO (tD t) (tD t)&&Ht (ts.map tD) (ts.map tD))=true; rw [Q0s,ih]; rfl
theorem P5 (ts:List Tn):Ci (.tup (ts.map tD))=true:=Me λt _=>by
 show (Dt (t.1.map od)&&(true&&true))=true
 rw [Me (f:=od) (λw _=>by cases w <;> rfl)]
 rfl
theorem Rk:∀ l:List (Option Int),CP (l.map od)=0
 | []=>rfl
 | w::l=>by show max (C1 (od w)) (CP (l.map od))=0; rw [Rk l]; cases w <;> rfl
theorem Rj:∀ ts:List Tn,CP (ts.map tD)<=2
 | []=>by show 0<=2; decide
 | t::ts=>by
  have h:=Rj ts
  have h0:=Rk t.1
  have e:C1 (tD t)=max (CP (t.1.map od)+1) (max 0 0)+1:=rfl
  show max (C1 (tD t)) (CP (ts.map tD))<=2
  rw [e,h0]
  omega
theorem Q1g {X:Cx} {O:Af} {k:Nat} {w:Option Int} {z:Int} (hr:AL k X.A):Bg X O (compareOp .NotEq) (od w) (.int z) (.bl (!decide (w=some z))):=by
 cases w with
 | none=>exact Rw hr (Or.inl rfl) (Or.inl rfl) rfl rfl (Nat.le_trans (Nat.min_le_left _ _) wE)
 | some i=>
  have e:decide (some i=some z)=decide (i=z):=by
   by_cases h:i=z
   ·rw [decide_eq_true h,decide_eq_true (by rw [h])]
   ·rw [decide_eq_false h,decide_eq_false (by intro e; exact h (Option.some.inj e))]
  rw [e]
  exact Gw
theorem N4:∀ n:Nat,(List.replicate n (1:Int)).sum=(n:Nat)
 | 0=>rfl
 | n+1=>by rw [List.replicate_succ,List.sum_cons,N4 n]; omega
theorem cntK {α:Type} (l:List α) (f g:α->Int) (h:α->D):(((l.filterMap λq=>if (!decide (f q=g q))=true then some (h q) else none).length:Nat):Int)=(l.map λq=>D7 (f q) (g q)).sum:=by
 induction l with
 | nil=>rfl
 | cons a l ih=>
  rw [List.map_cons,List.sum_cons,<- ih]
  by_cases hc:(!decide (f a=g a))=true
  ·rw [List.filterMap_cons_some (f:=λq=>if (!decide (f q=g q))=true then some (h q) else none) (a:=a) (b:=h a) (if_pos hc),List.length_cons]
   unfold D7
   rw [if_pos hc]; omega
  ·rw [List.filterMap_cons_none (f:=λq=>if (!decide (f q=g q))=true then some (h q) else none) (a:=a) (if_neg hc)]
   unfold D7
   rw [if_neg hc]; omega
def Io:List D->D->Prop:=λds d=>∃ (f:Nat->Int) (ts:List Tn),ds=[.tup (((List.range ts.length).map f).map D.int),.tup (ts.map tD)]/\ts.length<=63/\d=.int (Co f ts)
def Oo (C:Cs):AH:=λds O R=>∃ (q m:Nat) (s:Int) (sf:Bool) (p:SP) (ts:List Tn),ds=[.ptr q,.tup (ts.map tD)]/\O[q]?=some (some (C.o (m:Nat) s (.v sf p (List.replicate m 1) 1)))/\Br 0 m s (.v sf p (List.replicate m 1) 1)/\(1<=m/\m<=24)/\(1<=s/\s<=10)/\(∀ t∈ts,B3 m s t)/\ts.length<=63/\∀ O',Dg q 1 O O'->R (.bl true) O'
def FR (ts:List Tn):Prop:=∀ t∈ts,Aw t.1
def D0 (f:Nat->Int) (ts:List Tn) (i:Nat):Int:=((List.range i).map λk=>D7 (f k) (Bi ts k).2).sum
theorem NF (f:Nat->Int) (ts:List Tn) (i:Nat):D0 f ts (i+1)=D0 f ts i+D7 (f i) (Bi ts i).2:=by
 unfold D0
 rw [List.range_succ,List.map_append,List.sum_append]
 show _+(_+0)=_
 rw [Int.add_zero]
theorem Rb {m:Nat} {ps:List Int} {s:Int} {ts:List Tn} (hps:Eh (m:Nat) ps) (hm:1<=m) (h24:m<=24) (hts:∀ t∈ts,B3 m s t) (haw:FR ts):∀ i,i<=ts.length->∃ sc hi,Bd m (.f ps ps) ts i=.f ps sc/\HJ m ps sc (D0 (AK m (.f ps ps) ts) ts i) hi
 | 0,_=>⟨ps,0,rfl,by have:=hps.1; omega,Int.le_refl _,λk hk=>by
   have hk:k<ps.length:=by have:=hps.1; omega
   rw [List.getD_eq_getElem?_getD,List.getElem?_eq_getElem hk]
   exact (hps.2 _ (List.getElem_mem hk)).1,λL _=>by show 0+_<=_; omega⟩
 | i+1,h=>by
  obtain ⟨sc,hi,e,hK⟩:=Rb hps hm h24 hts haw i wF
  have hq:ts[i]?=some ts[i]:=List.getElem?_eq_getElem wF
  have hok:=hts _ (List.getElem_mem (show i<ts.length by omega))
  have aw:=haw _ (List.getElem_mem (show i<ts.length by omega))
  obtain ⟨k,hk⟩:=Z1 (sc:=sc) (by rw [hK.ln]; exact hm)
  rw [hK.ln] at hk
  have hax:ax ts[i].1=List.range m:=by rw [Q1O aw,hok.1]
  have hsay:AK m (.f ps ps) ts i=(Ax ts[i].1 k).getD 0:=by
   unfold AK
   rw [e,Dh hq]
   exact Po (by rw [hax]; exact hk)
  have hN:=hK.next (so:=ts[i].2) hok.1 aw hk
  have e2:D0 (AK m (.f ps ps) ts) ts (i+1)=D0 (AK m (.f ps ps) ts) ts i+(if (!decide ((Ax ts[i].1 k).getD 0=ts[i].2))=true then 1 else 0):=by rw [NF,hsay,Dh hq]; rfl
  rw [<- e2] at hN
  exact ⟨Db ts[i].1 ts[i].2 sc,_,by rw [Gu hq,e]; rfl,hN⟩
theorem ZZ {m:Nat} {ps sc:List Int} {errs hi L:Int} (hK:HJ m ps sc errs hi) (h1:L∈sc):errs<=Gv ps L:=by
 obtain ⟨i,hi2,rfl⟩:=List.mem_iff_getElem.mp h1
 have hg:sc.getD i 0=sc[i]:=by rw [List.getD_eq_getElem?_getD,List.getElem?_eq_getElem hi2]; rfl
 have h1:=hK.le i (by rw [<- hK.ln]; exact hi2)
 rw [hg] at h1
 have h2:=hK.pot sc[i] h1
 have h3:=T3 hi2 sc[i] (by rw [hg]; exact Int.le_refl _)
 unfold Gv
 split <;> omega
def EJ (m:Nat) (ts:List Tn) (j i:Nat):Int:=((List.range i).map λk=>if (!decide (Ax (Bi ts k).1 j=some (Bi ts k).2))=true then (1:Int) else 0).sum
theorem Q1Y (m:Nat) (ts:List Tn) (j i:Nat):EJ m ts j (i+1)=EJ m ts j i+if (!decide (Ax (Bi ts i).1 j=some (Bi ts i).2))=true then (1:Int) else 0:=by
 unfold EJ
 rw [List.range_succ,List.map_append,List.sum_append]
 show _+(_+0)=_
 rw [Int.add_zero]
theorem Q7 {m:Nat} {s:Int} {ts:List Tn} (hm:1<=m) (h24:m<=24) (hts:∀ t∈ts,B3 m s t) (haw:FR ts):∀ i,i<=ts.length->∃ ins ov am,Bd m (.r (List.replicate m true) 0) ts i=.r ins ov/\FK m ins ov (D0 (AK m (.r (List.replicate m true) 0) ts) ts i) am i/\∀ j,j<m->am.getD j 0=EJ m ts j i
 | 0,_=>⟨_,_,_,rfl,FK.first hm,λj hj=>by rw [List.getD_eq_getElem?_getD,List.getElem?_replicate,if_pos hj]; rfl⟩
 | i+1,h=>by
  obtain ⟨ins,ov,am,e,hK,ha⟩:=Q7 hm h24 hts haw i wF
  have hq:ts[i]?=some ts[i]:=List.getElem?_eq_getElem wF
  have hok:=hts _ (List.getElem_mem (show i<ts.length by omega))
  have aw:=haw _ (List.getElem_mem (show i<ts.length by omega))
  have hsay:AK m (.r (List.replicate m true) 0) ts i=AG ts[i].1 (Bh ins):=by
   unfold AK
   rw [e,Dh hq]; rfl
  have hN:=(hK.next (so:=ts[i].2) hm h24 hok.1 aw).1
  have e2:D0 (AK m (.r (List.replicate m true) 0) ts) ts (i+1)=D0 (AK m (.r (List.replicate m true) 0) ts) ts i+(if (!decide (AG ts[i].1 (Bh ins)=ts[i].2))=true then 1 else 0):=by rw [NF,hsay,Dh hq]; rfl
  rw [<- e2] at hN
  exact ⟨D5 ts[i].1 ts[i].2 ins,EY ts[i].1 ts[i].2 ins ov,_,by rw [Gu hq,e]; rfl,hN,λj hj=>by rw [Nf hj,ha j hj,Q1Y,Dh hq]⟩
def OU:AH:=λds O R=>∃ (m:Nat) (s:Int) (ps:List Int) (ts:List Tn),ds=[.int (m:Nat),.int s,.tup (ps.map D.int),.tup (ts.map tD)]/\(1<=m/\m<=24)/\(1<=s/\s<=10)/\Eh (m:Nat) ps/\(∀ t∈ts,B3 m s t)/\FR ts/\ts.length<=63/\R (.bl true) O
def Os:AH:=λds O R=>∃ (m:Nat) (s t b:Int) (ps:List Int) (ts:List Tn),ds=[.int (m:Nat),.int s,.tup [.int t,.int b],.tup (ps.map D.int),.tup (ts.map tD)]/\(1<=m/\m<=24)/\(1<=s/\s<=10)/\B8 s t b/\Eh (m:Nat) ps/\(∀ t∈ts,B3 m s t)/\ts.length<=60/\R (.bl true) O
def OL:AH:=λds O R=>∃ (m:Nat) (s t b:Int) (ts:List Tn),ds=[.int (m:Nat),.int s,.tup [.int t,.int b],.tup (ts.map tD)]/\(1<=m/\m<=24)/\(1<=s/\s<=10)/\B8 s t b/\(∀ t∈ts,B3 m s t)/\FR ts/\ts.length<=63/\R (.bl true) O
def Ou:AH:=λds O R=>∃ (m:Nat) (s:Int) (ts:List Tn),ds=[.tup (ts.map tD)]/\(∀ t∈ts,CU m s t)/\FR ts/\(1<=m/\m<=24)/\s<=10/\ts.length<=63/\R (.str (C6 ts)) O
theorem Q1Q {l:List (Option Int)} (h:Aw l):∃ xs:List Int,l=xs.map some:=by
 induction l with
 | nil=>exact ⟨[],rfl⟩
 | cons w l ih=>
  obtain ⟨i,rfl⟩:=h w List.mem_cons_self
  obtain ⟨xs,rfl⟩:=ih λv hv=>h v (List.mem_cons_of_mem _ hv)
  exact ⟨i::xs,rfl⟩
theorem U7 {xs:List Int} (so:Int) (h:xs≠[]):Ba (xs.map some,so)=Str.join " " (xs.map nS) ++ " : " ++ nS so:=by
 have e:Bb (xs.map some,so)=(xs.map nS++[(":" : Str)])++[nS so]:=by
  unfold Bb
  rw [List.map_map,List.append_assoc]; rfl
 unfold Ba
 rw [e,Mv _ _ _ (by simp),Mv _ _ _ (λz=>h (List.map_eq_nil_iff.mp z)),show ((" : " : Str))=(" " : Str)++(":" : Str)++(" " : Str) by decide +kernel]
 simp only [Str.append_assoc]
theorem at3M (c:Int):∃ M:Int,Be [D.int 1,.int 4,.int (10 ^ (40:Int).toNat)] (c%3)=some (.int M)/\1<=M/\M<=10 ^ (40:Int).toNat:=by
 have h:c%3=0\/c%3=1\/c%3=2:=by omega
 rcases h with h | h | h <;> rw [h]
 ·exact ⟨1,rfl,by decide,by decide +kernel⟩
 ·exact ⟨4,rfl,by decide,by decide +kernel⟩
 ·exact ⟨_,rfl,by decide +kernel,Int.le_refl _⟩
theorem Dg.up {O A O':Af} {k:Nat} (h:Dg O.length k (O++A) O'):∃ Y,O'=O++Y:=by
 have hlen:=h.l
 rw [List.length_append] at hlen
 refine ⟨O'.drop O.length,List.ext_getElem? λj=>?_⟩
 by_cases hj:j<O.length
 ·rw [h.o j (.inl hj),List.getElem?_append_left hj,List.getElem?_append_left hj]
 ·rw [List.getElem?_append_right wF,List.getElem?_drop,show O.length+(j-O.length)=j by omega]
theorem ZI {m:Nat} {s:Int} {t:Tn} (h:B3 m s t):CU m s t:=⟨h.1,λw hw i e=>by
 have:=h.2.1 w hw
 subst e
 exact EX (this.resolve_left (λh=>by cases h)),h.2.2.1,h.2.2.2⟩
def OB:AH:=λds O R=>∃ (m:Nat) (s:Int) (ts:List Tn),ds=[.int (m:Nat),.int s,.tup (ts.map tD)]/\(1<=m/\m<=24)/\(1<=s/\s<=10)/\(∀ t∈ts,B3 m s t)/\FR ts/\ts.length<=63/\R (.bl true) O
def IZ (k:Nat):Int:=([2,4,8,16]:List Int).getD k 0
theorem ZM:∀ k:Nat,k<4->Be [D.int 2,.int 4,.int 8,.int 16] (k:Int)=some (.int (IZ k))
 | 0,_ | 1,_ | 2,_ | 3,_=>rfl
theorem ZK:∀ m:Nat,m<25->1<=m->((List.range ((5:Int)-1).toNat).filterMap λk:Nat=>if decide (IZ k<=((m:Nat):Int))=true then some (D.int (1+(k:Int))) else none).length=hv m:=by decide +kernel
theorem Q1X (m:Nat) (ts:List Tn) (j:Nat):(((ts.filterMap λt:Tn=>if (!decide (Ax t.1 j=some t.2))=true then some (tD t) else none).length:Nat):Int)=EJ m ts j ts.length:=by
 have e:∀ l:List Tn,(((l.filterMap λt:Tn=>if (!decide (Ax t.1 j=some t.2))=true then some (tD t) else none).length:Nat):Int)=(l.map λt:Tn=>if (!decide (Ax t.1 j=some t.2))=true then (1:Int) else 0).sum:=λl=>by
  induction l with
  | nil=>rfl
  | cons a l ih=>
   rw [List.map_cons,List.sum_cons,<- ih]
   by_cases hc:(!decide (Ax a.1 j=some a.2))=true
   ·rw [List.filterMap_cons_some (f:=λt:Tn=>if (!decide (Ax t.1 j=some t.2))=true then some (tD t) else none) (a:=a) (b:=tD a) (if_pos hc),List.length_cons,if_pos hc]; omega
   ·rw [List.filterMap_cons_none (f:=λt:Tn=>if (!decide (Ax t.1 j=some t.2))=true then some (tD t) else none) (a:=a) (if_neg hc),if_neg hc]; omega
 have e2:ts=(List.range ts.length).map (Bi ts):=(PH ts ([],0)).symm
 rw [e]
 unfold EJ
 conv=>lhs; rw [e2]
 rw [List.map_map]; rfl
seal Ac Ev BK Ex Cm Bk Ce
section
variable {P:Program} {w:World} {K:PySem.W.Frag} {mg:Str->Option Value} {base:Heap} {CK1 CK6 CK4 CK3 CK0 CK5 CK2:Addr} {f:Addr} {fd:FuncData} (T:BJ K mg CK1 CK6 CK4 CK3 CK0 CK5 CK2)
include T
theorem WY (Fn:As K "is_whole" "is_whole" K6 f fd) (hm:mg "is_whole" = some (.ref f)) (hb:Binds K fd ["value"] []):Ah P w K mg base 1 "is_whole" (Ao Kc):=by
 refine AO (k:=0) Fn T6 hm hb (λds O R h=>?_) (λcdv A outer s H E ds O R hr h=>?_)
 ·obtain ⟨_,⟨_,rfl,_⟩,_⟩:=h; rfl
 ·obtain ⟨d,⟨w,rfl,rfl⟩,hR⟩:=h
  cases w with
  | none=>
   refine Ad (AB (Ac.ev (DH (AT T.b_isinstance (Ab (Aa 0) (Ab (EE T.b_int) Ae)) (Rz rfl)) (λhbb=>(Dl (Q8 (AT T.b_isinstance (Ab (Aa 0) (Ab (EE T.b_bool) Ae)) (RA rfl)))))) ?_))
   exact hR
  | some i=>
   refine Ad (AB (Ac.ev (DH (AT T.b_isinstance (Ab (Aa 0) (Ab (EE T.b_int) Ae)) (Rz rfl)) (λhbb=>(Dl (Q8 (AT T.b_isinstance (Ab (Aa 0) (Ab (EE T.b_bool) Ae)) (RA rfl)))))) ?_))
   exact hR
theorem Xe (Fn:As K "counted" "counted" Lf f fd) (hm:mg "counted" = some (.ref f)) (hb:Binds K fd ["weights"] []):Ah P w K mg base 1 "counted" (Ao Kj):=by
 refine AO (k:=0) Fn Uf hm hb (λds O R h=>?_) (λcdv A outer s H E ds O R hr h=>?_)
 ·obtain ⟨_,⟨_,rfl,_⟩,_⟩:=h; rfl
 ·obtain ⟨d,⟨ws,rfl,hl,rfl⟩,hR⟩:=h
  refine Ad (AW (A1 (AT T.b_sum (Ab (Aa 0) Ae) (DY (by first | exact Or.inr rfl | exact Or.inl (Or.inl rfl) | exact Or.inl (Or.inr (Or.inl rfl)) | exact Or.inl (Or.inr (Or.inr ⟨_,rfl,by first | assumption | rfl⟩))))) Ai CC) (λhk=>?_) (λhk=>?_))
  ·have hk:=of_decide_eq_true hk
   refine Ad (AB (Ac.ev (BN (λ_=>.int 1) ["weight"] [] [] (Bz (Aa 0) wB) (by rw [sizeLine_eq]; omega) (by exact λq hq s H fp=>⟨[some _],rfl,(AC 0 (show List.Nodup (["weight"]:List Str) by decide +kernel)),⟨_,rfl,Ai⟩⟩)) ?_))
   unfold AV at hR
   rw [if_pos hk,List.map_map] at hR
   exact hR
  ·have hk:=of_decide_eq_false hk
   refine Au ?_
   refine Ad (AB (Ac.ev (BO T.b_list (Ab (Aa 0) Ae) (Q1F (by first | exact Or.inr rfl | exact Or.inl (Or.inl rfl) | exact Or.inl (Or.inr (Or.inl rfl)) | exact Or.inl (Or.inr (Or.inr ⟨_,rfl,by first | assumption | rfl⟩))))) ?_))
   unfold AV at hR
   rw [if_neg hk] at hR
   exact hR
theorem WJ (Fn:As K "middle" "middle" KP f fd) (hm:mg "middle" = some (.ref f)) (hb:Binds K fd ["numbers","weights"] []) (kj:Ah P w K mg base 1 "counted" (Ao Kj)):Ah P w K mg base 2 "middle" (Ao OJ):=by
 refine AO (k:=1) Fn Fp hm hb (λds O R h=>?_) (λcdv A outer s H E ds O R hr h=>?_)
 ·obtain ⟨_,⟨_,_,rfl,_⟩,_⟩:=h; rfl
 ·obtain ⟨d,⟨ns,ws,rfl,⟨h1,h2,h3⟩,rfl⟩,hR⟩:=h
  refine Ad (AJ 2 (Ac.ev (AA kj (hr.mono wE) (Ab (Aa 1) Ae) ⟨_,rfl,by assumption,rfl⟩) ?_) Fp.nd)
  have hc:=MQ h3
  have hcl:=Js ws
  unfold Di at hR
  generalize AV ws=cs at hR hc hcl
  refine Ad (AJ 3 (Ac.ev (AT T.b_sum (Ab (Aa 2) Ae) (DY (by first | exact Or.inr rfl | exact Or.inl (Or.inl rfl) | exact Or.inl (Or.inr (Or.inl rfl)) | exact Or.inl (Or.inr (Or.inr ⟨_,rfl,by first | assumption | rfl⟩))))) ?_) Fp.nd)
  refine Ad (AJ 4 (Ac.ev Ai ?_) Fp.nd)
  have hz:(ns.zip cs).length<64:=by rw [List.length_zip]; omega
  have hsl:(Ch AS (ns.zip cs)).length<=63:=by rw [(Ii AS (ns.zip cs)).length_eq]; omega
  have hsm:∀ p∈Ch AS (ns.zip cs),0<=p.2:=λp hp=>hc _ (List.of_mem_zip ((Ii AS (ns.zip cs)).mem_iff.mp hp)).2
  refine Ad (C5 (Bz (Z8 Hf (λY=>cmpP) Ye (FA (Aa 0) (Aa 2) wB wB T.b_zip) wF T.b_sorted) wB) (λi ρ O'=>∃ (r:Int) (u v:Option D),ρ=[some (.tup (ns.map D.int)),some (.tup (ws.map D.int)),some (.lst (cs.map D.int)),some (.int cs.sum),some (.int r),u,v]/\r=sm (λq=>q.2) ((Ch AS (ns.zip cs)).take i)/\go cs.sum 0 (Ch AS (ns.zip cs))=go cs.sum r ((Ch AS (ns.zip cs)).drop i)/\O'=O) ⟨0,_,_,rfl,rfl,rfl,rfl⟩ ?_ ?_)
  ·rintro i x ρ O' hx ⟨r,u,v,rfl,hr1,hg,rfl⟩
   rw [List.getElem?_map] at hx
   cases hp:(Ch AS (ns.zip cs))[i]? with
   | none=>rw [hp] at hx; cases hx
   | some p=>
    rw [hp] at hx
    cases hx
    refine ⟨_,BV (AU (AC 5 Fp.nd) (AU (AC 6 Fp.nd) BU)),?_⟩
    refine Ad (AJ 4 (Ac.ev (Ak (Aa 4) (Aa 6) Bs) ?_) Fp.nd)
    have h4:r+p.2=sm (λq=>q.2) ((Ch AS (ns.zip cs)).take (i+1)):=by rw [Tz hp,hr1]
    have hd:(Ch AS (ns.zip cs)).drop i=p::(Ch AS (ns.zip cs)).drop (i+1):=by
     obtain ⟨hi,e⟩:=List.getElem?_eq_some_iff.mp hp
     rw [List.drop_eq_getElem_cons hi,e]
    rw [hd] at hg
    refine Ad (AW (A1 (Ak Ai (Aa 4) (A8 (AZ.ok (Or.inl ⟨by decide,by decide⟩)))) (Aa 3) Q1j) (λhk=>?_) (λhk=>?_))
    ·have hk:=of_decide_eq_true hk
     refine Ad (AB (Ac.ev (Aa 5) ?_))
     rw [hg] at hR
     unfold go at hR
     rw [if_pos hk] at hR
     exact hR
    ·have hk:=of_decide_eq_false hk
     refine Au (Au ?_)
     refine ⟨_,_,_,rfl,h4,?_,rfl⟩
     rw [hg]
     conv=>lhs; unfold go
     rw [if_neg hk]
  ·rintro ρ O' ⟨r,u,v,rfl,hr1,hg,rfl⟩
   refine Ad (AB (Ac.ev Ai ?_))
   rw [List.length_map,List.drop_of_length_le (Nat.le_refl _)] at hg
   rw [hg] at hR
   exact hR
theorem Xf (Fn:As K "check_within" "check_within" Lg f fd) (hm:mg "check_within" = some (.ref f)) (hb:Binds K fd ["what","value","least","most"] []) (kb:Ah P w K mg base 1 "is_whole" (Ao Kc)):Ah P w K mg base 2 "check_within" (Ao F3):=by
 refine AO (k:=1) Fn Ug hm hb (λds O R h=>?_) (λcdv A outer s H E ds O R hr h=>?_)
 ·obtain ⟨_,⟨_,_,_,_,rfl,_⟩,_⟩:=h; rfl
 ·obtain ⟨d,⟨x,v,l,u,rfl,hv,rfl⟩,hR⟩:=h
  refine Ad (AW (B9.t (Ea (Ct (Cb (AA kb (hr.mono wE) (Ab (Aa 1) Ae) ⟨some v,rfl,rfl⟩))) (λhbb=>(D9 (Ct (Q0q (Aa 2) (Aa 1) (Aa 3) DX (λhbb=>DX))))))) (λhk=>?_) (λhk=>Au (Au hR)))
  exfalso
  have hk:(!true||!(decide (l<=v)&&decide (v<=u)))=true:=hk
  rw [decide_eq_true hv.1,decide_eq_true hv.2] at hk
  cases hk
theorem Xk (Fn:As K "check_scale" "check_scale" Ll f fd) (hm:mg "check_scale" = some (.ref f)) (hb:Binds K fd ["scale"] []) (jh:Ah P w K mg base 2 "check_within" (Ao F3)):Ah P w K mg base 3 "check_scale" (Ao Oz):=by
 refine AO (k:=2) Fn Uk hm hb (λds O R h=>?_) (λcdv A outer s H E ds O R hr h=>?_)
 ·obtain ⟨_,⟨_,rfl,_⟩,_⟩:=h; rfl
 ·obtain ⟨d,⟨s,rfl,hs,rfl⟩,hR⟩:=h
  refine Ad (AX (Ac.ev (AA jh (hr.mono wE) (Ab CM (Ab (Aa 0) (Ab Ai (Ab (Hr T.g_MOST_SCALE.choose_spec) Ae)))) ⟨_,_,_,_,rfl,by omega,rfl⟩) ?_))
  exact Au hR
theorem Xo (Fn:As K "check_making" "check_making" Lp f fd) (hm:mg "check_making" = some (.ref f)) (hb:Binds K fd ["many","scale"] []) (jh:Ah P w K mg base 2 "check_within" (Ao F3)) (gp:Ah P w K mg base 3 "check_scale" (Ao Oz)):Ah P w K mg base 4 "check_making" (Ao Kb):=by
 refine AO (k:=3) Fn Uo hm hb (λds O R h=>?_) (λcdv A outer s H E ds O R hr h=>?_)
 ·obtain ⟨_,⟨_,_,rfl,_⟩,_⟩:=h; rfl
 ·obtain ⟨d,⟨m,s,rfl,hm,hs,rfl⟩,hR⟩:=h
  refine Ad (AX (Ac.ev (AA jh (hr.mono wE) (Ab CM (Ab (Aa 0) (Ab Ai (Ab (Hr T.g_MOST_ADVISERS.choose_spec) Ae)))) ⟨_,_,_,_,rfl,by omega,rfl⟩) ?_))
  refine Ad (AX (Ac.ev (AA gp (hr.mono wE) (Ab (Aa 1) Ae) ⟨_,rfl,by assumption,rfl⟩) ?_))
  exact Au hR
theorem Xp (Fn:As K "check_fraction" "check_fraction" Lq f fd) (hm:mg "check_fraction" = some (.ref f)) (hb:Binds K fd ["top","bottom"] []) (jh:Ah P w K mg base 2 "check_within" (Ao F3)):Ah P w K mg base 3 "check_fraction" (Ao Ki):=by
 refine AO (k:=2) Fn Up hm hb (λds O R h=>?_) (λcdv A outer s H E ds O R hr h=>?_)
 ·obtain ⟨_,⟨_,_,rfl,_⟩,_⟩:=h; rfl
 ·obtain ⟨d,⟨t,b,rfl,hb,rfl⟩,hR⟩:=h
  refine Ad (AX (Ac.ev (AA jh (hr.mono wE) (Ab CM (Ab (Aa 1) (Ab Ai (Ab (Hr T.g_MOST_BOTTOM.choose_spec) Ae)))) ⟨_,_,_,_,rfl,by omega,rfl⟩) ?_))
  refine Ad (AX (Ac.ev (AA jh (hr.mono wE) (Ab CM (Ab (Aa 0) (Ab Ai (Ab (Ak (Aa 1) Ai CV) Ae)))) ⟨_,_,_,_,rfl,by omega,rfl⟩) ?_))
  exact Au hR
theorem Xj (Fn:As K "check_share" "check_share" Lk f fd) (hm:mg "check_share" = some (.ref f)) (hb:Binds K fd ["share","parts"] []) (jh:Ah P w K mg base 2 "check_within" (Ao F3)):Ah P w K mg base 3 "check_share" (Ao Ox):=by
 refine AO (k:=2) Fn Uj hm hb (λds O R h=>?_) (λcdv A outer s H E ds O R hr h=>?_)
 ·obtain ⟨_,⟨_,_,rfl,_⟩,_⟩:=h; rfl
 ·obtain ⟨d,⟨t,b,rfl,hb,rfl⟩,hR⟩:=h
  refine Ad (AX (Ac.ev (AA jh (hr.mono wE) (Ab CM (Ab (Aa 1) (Ab Ai (Ab (Hr T.g_MOST_PARTS.choose_spec) Ae)))) ⟨_,_,_,_,rfl,by omega,rfl⟩) ?_))
  refine Ad (AX (Ac.ev (AA jh (hr.mono wE) (Ab CM (Ab (Aa 0) (Ab Ai (Ab (Ak (Aa 1) Ai CV) Ae)))) ⟨_,_,_,_,rfl,by omega,rfl⟩) ?_))
  exact Au hR
theorem W8 (Fn:As K "is_on_scale" "is_on_scale" K9 f fd) (hm:mg "is_on_scale" = some (.ref f)) (hb:Binds K fd ["scale","value"] []) (kb:Ah P w K mg base 1 "is_whole" (Ao Kc)):Ah P w K mg base 2 "is_on_scale" (Ao J9):=by
 refine AO (k:=1) Fn T9 hm hb (λds O R h=>?_) (λcdv A outer s H E ds O R hr h=>?_)
 ·obtain ⟨_,⟨_,_,rfl,_⟩,_⟩:=h; rfl
 ·obtain ⟨d,⟨s,w,rfl,rfl⟩,hR⟩:=h
  cases w with
  | none=>
   refine Ad (AB (Ac.ev (DH (l:=false) (AA kb (hr.mono wE) (Ab (Aa 1) Ae) ⟨none,rfl,rfl⟩) (λhbb=>absurd hbb Bool.false_ne_true)) ?_))
   exact hR
  | some i=>
   refine Ad (AB (Ac.ev (DH (AA kb (hr.mono wE) (Ab (Aa 1) Ae) ⟨some i,rfl,rfl⟩) (λhbb=>(Dl (Q0l Ai (Aa 1) (Aa 0) DX (λhbb=>DX))))) ?_))
   exact hR
theorem W0 (Fn:As K "is_said" "is_said" K8 f fd) (hm:mg "is_said" = some (.ref f)) (hb:Binds K fd ["many","scale","said"] []) (kl:Ah P w K mg base 2 "is_on_scale" (Ao J9)):Ah P w K mg base 3 "is_said" (Ao Ke):=by
 refine AO (k:=2) Fn T8 hm hb (λds O R h=>?_) (λcdv A outer s H E ds O R hr h=>?_)
 ·obtain ⟨_,⟨_,_,_,rfl,_⟩,_⟩:=h; rfl
 ·obtain ⟨d,⟨m,s,said,rfl,⟨h1,h2,h3⟩,rfl⟩,hR⟩:=h
  refine Ad (AW (B9.t (Ea (Ct (Cb (AT T.b_isinstance (Ab (Aa 2) (Ab (EE T.b_tuple) Ae)) (Hz rfl)))) (λhbb=>(D9 (A1 (AT T.b_len (Ab (Aa 2) Ae) (Dm (by first | exact Or.inr rfl | exact Or.inl (Or.inl rfl) | exact Or.inl (Or.inr (Or.inl rfl)) | exact Or.inl (Or.inr (Or.inr ⟨_,rfl,by first | assumption | rfl⟩))))) (Aa 0) Gw))))) (λhk=>?_) (λhk=>Au ?_))
  ·exfalso
   have e:(!decide ((((said.map od).length:Nat):Int)=m))=false:=by rw [List.length_map,h1,decide_eq_true rfl]; rfl
   have hk:(!true||!decide ((((said.map od).length:Nat):Int)=m))=true:=hk
   rw [e] at hk
   cases hk
  refine Ad (AB (Ac.ev (AT T.b_all (Ab (BN (λw=>.bl (CK (od w)||C9 s w)) ["what"] ["scale"] [1] (Bz (Aa 2) wB) (by rw [sizeLine_eq]; omega) (by exact λq hq s H fp=>⟨[some _],rfl,(AC 0 (show List.Nodup (["what","scale"]:List Str) by decide +kernel)),⟨_,rfl,(Jg (CA (Aa 0) CY EI) (λhbb=>(Dl (AA kl (hr.mono wE) (Ab (Aa 1) (Ab (Aa 0) Ae)) ⟨_,q,rfl,rfl⟩))))⟩⟩)) Ae) (HA (bs:=said.map λw=>(CK (od w)||C9 s w)) (Or.inl (Or.inl (congrArg D.lst (by rw [List.map_map]; rfl)))))) ?_))
  have e:((said.map λw=>(CK (od w)||C9 s w)).all id)=true:=by
   rw [List.all_map,List.all_eq_true]
   intro w hw
   rcases h3 w hw with rfl | h
   ·rfl
   ·show (CK (od w)||C9 s w)=true
    rw [h,Bool.or_true]
  rw [e]
  exact hR
theorem Xl (Fn:As K "check_said" "check_said" Lm f fd) (hm:mg "check_said" = some (.ref f)) (hb:Binds K fd ["many","scale","said"] []) (km:Ah P w K mg base 3 "is_said" (Ao Ke)):Ah P w K mg base 4 "check_said" (Ao GO):=by
 refine AO (k:=3) Fn Ul hm hb (λds O R h=>?_) (λcdv A outer s H E ds O R hr h=>?_)
 ·obtain ⟨_,⟨_,_,_,rfl,_⟩,_⟩:=h; rfl
 ·obtain ⟨d,⟨m,s,said,rfl,hs,rfl⟩,hR⟩:=h
  exact Ad (AW (Ct (Cb (AA km (hr.mono wE) (Ab (Aa 0) (Ab (Aa 1) (Ab (Aa 2) Ae))) ⟨_,_,_,rfl,by assumption,rfl⟩))) (λhk=>by cases hk) (λhk=>Au (Au hR)))
theorem WF (Fn:As K "power" "power" KL f fd) (hm:mg "power" = some (.ref f)) (hb:Binds K fd ["base","exponent"] []):Ah P w K mg base 1 "power" (Ao GM):=by
 refine AO (k:=0) Fn Iu hm hb (λds O R h=>?_) (λcdv A outer s H E ds O R hr h=>?_)
 ·obtain ⟨_,⟨_,_,rfl,_⟩,_⟩:=h; rfl
 ·obtain ⟨d,⟨b,n,rfl,hb,hn,rfl⟩,hR⟩:=h
  refine Ad (AJ 2 (Ac.ev Ai ?_) Iu.nd)
  refine Ad (C5 (FF (Aa 1) T.b_range wC wC) (λi ρ O'=>∃ u,ρ=[some (.int b),some (.int n),some (.int (b ^ i)),u]/\O'=O) ⟨none,by rw [Int.pow_zero]; rfl,rfl⟩ ?_ ?_)
  ·rintro i x ρ O' hx ⟨u,rfl,rfl⟩
   refine ⟨_,AC 3 Iu.nd,?_⟩
   refine Ad (AJ 2 (Ac.ev (Ak (Aa 2) (Aa 0) (A8 (by first | assumption | exact AZ.ok (Or.inl ⟨by omega,by omega⟩) | exact AZ.ok (Or.inr ⟨by omega,by omega⟩)))) ?_) Iu.nd)
   exact Au ⟨_,by rw [Int.pow_succ]; rfl,rfl⟩
  ·rintro ρ O' ⟨u,rfl,rfl⟩
   rw [Gd]
   exact Ad (AB (Ac.ev (Aa 2) hR))
theorem Xq (Fn:As K "charge" "charge" Lr f fd) (hm:mg "charge" = some (.ref f)) (hb:Binds K fd ["what","so"] []):Ah P w K mg base 1 "charge" (Ao Fm):=by
 refine AO (k:=0) Fn Uq hm hb (λds O R h=>?_) (λcdv A outer s H E ds O R hr h=>?_)
 ·obtain ⟨_,⟨_,_,rfl,_⟩,_⟩:=h; rfl
 ·obtain ⟨d,⟨w,z,rfl,rfl⟩,hR⟩:=h
  cases w with
  | none=>
   refine Ad (AW (A1 (Aa 0) CY EI) (λhk=>?_) (λhk=>?_))
   ·exact Ad (AB (Ac.ev Ai hR))
   ·cases hk
  | some w=>
   refine Ad (AW (A1 (Aa 0) CY EI) (λhk=>?_) (λhk=>?_))
   ·cases hk
   ·exact Au (Ad (AB (Ac.ev (AT T.b_abs (Ab (Ak (Aa 0) (Aa 1) CV) Ae) M0) hR)))
theorem WZ (Fn:As K "is_turn" "is_turn" K7 f fd) (hm:mg "is_turn" = some (.ref f)) (hb:Binds K fd ["many","scale","turn"] []) (km:Ah P w K mg base 3 "is_said" (Ao Ke)) (kl:Ah P w K mg base 2 "is_on_scale" (Ao J9)):Ah P w K mg base 4 "is_turn" (Ao Kd):=by
 refine AO (k:=3) Fn T7 hm hb (λds O R h=>?_) (λcdv A outer s H E ds O R hr h=>?_)
 ·obtain ⟨_,⟨_,_,_,_,rfl,_⟩,_⟩:=h; rfl
 ·obtain ⟨d,⟨m,s,said,so,rfl,hs,hso,rfl⟩,hR⟩:=h
  refine Ad (AW (B9.t (Ea (Ct (Cb (AT T.b_isinstance (Ab (Aa 2) (Ab (EE T.b_tuple) Ae)) (Hz rfl)))) (λhbb=>(D9 (A1 (AT T.b_len (Ab (Aa 2) Ae) (Dm (by first | exact Or.inr rfl | exact Or.inl (Or.inl rfl) | exact Or.inl (Or.inr (Or.inl rfl)) | exact Or.inl (Or.inr (Or.inr ⟨_,rfl,by first | assumption | rfl⟩))))) Ai Gw))))) (λhk=>by cases hk) (λhk=>Au ?_))
  have e:C9 s (some so)=true:=by
   show (decide (0<=so)&&decide (so<=s))=true
   rw [decide_eq_true hso.1,decide_eq_true hso.2]; rfl
  refine Ad (AB (Ac.ev (DH (AA km (hr.mono wE) (Ab (Aa 0) (Ab (Aa 1) (Ab (B2 (Aa 2) Ai rfl) Ae))) ⟨_,_,_,rfl,by assumption,rfl⟩) (λhbb=>(Dl (AA kl (hr.mono wE) (Ab (Aa 1) (Ab (B2 (Aa 2) Ai rfl) Ae)) ⟨s,some so,rfl,rfl⟩)))) ?_))
  rw [e]
  exact hR
theorem Xh (Fn:As K "check_turn" "check_turn" Li f fd) (hm:mg "check_turn" = some (.ref f)) (hb:Binds K fd ["many","scale","said","so"] []) (kn:Ah P w K mg base 4 "is_turn" (Ao Kd)):Ah P w K mg base 5 "check_turn" (Ao EQ):=by
 refine AO (k:=4) Fn Uh hm hb (λds O R h=>?_) (λcdv A outer s H E ds O R hr h=>?_)
 ·obtain ⟨_,⟨_,_,_,_,rfl,_⟩,_⟩:=h; rfl
 ·obtain ⟨d,⟨m,s,said,so,rfl,hs,hso,rfl⟩,hR⟩:=h
  exact Ad (AW (Ct (Cb (AA kn (hr.mono wE) (Ab (Aa 0) (Ab (Aa 1) (Ab (Cr (Ab (Aa 2) (Ab (Aa 3) Ae))) Ae))) ⟨_,_,_,_,rfl,by assumption,by assumption,rfl⟩))) (λhk=>by cases hk) (λhk=>Au (Au hR)))
theorem Xr (Fn:As K "awake_in" "awake_in" Ls f fd) (hm:mg "awake_in" = some (.ref f)) (hb:Binds K fd ["said"] []):Ah P w K mg base 1 "awake_in" (Ao Kl):=by
 refine AO (k:=0) Fn Ur hm hb (λds O R h=>?_) (λcdv A outer s H E ds O R hr h=>?_)
 ·obtain ⟨_,⟨_,rfl,_⟩,_⟩:=h; rfl
 ·obtain ⟨d,⟨said,rfl,hs,rfl⟩,hR⟩:=h
  refine Ad (AB (Ac.ev (Gs (λq:Option Int×Nat=>if (!CK (od q.1))=true then some (D.int (q.2:Nat)) else none) ["adviser","what"] [] [] (EG (MF (Aa 0) wB T.b_enumerate)) (by rw [List.length_zipIdx,sizeLine_eq]; omega) (by exact λq hq s H fp=>⟨[some _,some _],rfl,(BV (AU (AC 0 (show List.Nodup (["adviser","what"]:List Str) by decide +kernel)) (AU (AC 1 (show List.Nodup (["adviser","what"]:List Str) by decide +kernel)) BU))),⟨_,(A1 (Aa 1) CY MS),λhbb=>⟨_,if_pos hbb,(Aa 0)⟩,λhbb=>if_neg (λhcc=>Bool.false_ne_true (hbb.symm.trans hcc))⟩⟩)) ?_))
  rw [Q1P]
  exact hR
theorem WI (Fn:As K "middle_awake" "middle_awake" KO f fd) (hm:mg "middle_awake" = some (.ref f)) (hb:Binds K fd ["said","weights"] []) (gq:Ah P w K mg base 2 "middle" (Ao OJ)) (ko:Ah P w K mg base 1 "awake_in" (Ao Kl)):Ah P w K mg base 4 "middle_awake" (Ao ON):=by
 refine AO (k:=3) Fn Pf hm hb (λds O R h=>?_) (λcdv A outer s H E ds O R hr h=>?_)
 ·obtain ⟨_,⟨_,_,rfl,_⟩,_⟩:=h; rfl
 ·obtain ⟨d,⟨said,ws,rfl,hs,hl,hw,rfl⟩,hR⟩:=h
  have hal:=M8 said
  refine Ad (AJ 2 (Ac.ev (AA ko (hr.mono wE) (Ab (Aa 0) Ae) ⟨_,rfl,by assumption,rfl⟩) ?_) Pf.nd)
  have e:[D.tup ((ax said).map λk=>D.int ((Ax said k).getD 0)),D.tup ((ax said).map λk=>D.int (ws.getD k 0))]=[.tup ((Cj said).map D.int),.tup ((BY said ws).map D.int)]:=by
   unfold Cj BY
   rw [List.map_map,List.map_map]
   rfl
  exact Ad (AB (Ac.ev (AA gq (hr.mono wE) (Ab (BO T.b_tuple (Ab (BN (λk=>D.int ((Ax said k).getD 0)) ["adviser"] ["said"] [0] (Bz (Aa 2) wB) (by rw [sizeLine_eq]; omega) (by exact λq hq s H fp=>⟨[some _],rfl,(AC 0 (show List.Nodup (["adviser","said"]:List Str) by decide +kernel)),⟨_,rfl,(B2 (Aa 1) (Aa 0) (RN hq))⟩⟩)) Ae) (CD (by first | exact Or.inr rfl | exact Or.inl (Or.inl rfl) | exact Or.inl (Or.inr (Or.inl rfl)) | exact Or.inl (Or.inr (Or.inr ⟨_,rfl,by first | assumption | rfl⟩))))) (Ab (BO T.b_tuple (Ab (BN (λk=>D.int (ws.getD k 0)) ["adviser"] ["weights"] [1] (Bz (Aa 2) wB) (by rw [sizeLine_eq]; omega) (by exact λq hq s H fp=>⟨[some _],rfl,(AC 0 (show List.Nodup (["adviser","weights"]:List Str) by decide +kernel)),⟨_,rfl,(B2 (Aa 1) (Aa 0) (RL (by have:=Gy hq; omega)))⟩⟩)) Ae) (CD (by first | exact Or.inr rfl | exact Or.inl (Or.inl rfl) | exact Or.inl (Or.inr (Or.inl rfl)) | exact Or.inl (Or.inr (Or.inr ⟨_,rfl,by first | assumption | rfl⟩))))) Ae)) ⟨Cj said,BY said ws,e,Ie hs hw,rfl⟩) hR))
theorem Wx (Fn:As K "times_awake" "times_awake" KC f fd) (hm:mg "times_awake" = some (.ref f)) (hb:Binds K fd ["keeper","own","off"] []) (ji:Ah P w K mg base 1 "power" (Ao GM)):Ah P w K mg base 2 "times_awake" (Ow CK6 CK4):=by
 refine AO (k:=1) Fn Pc hm hb (λds O R h=>?_) (λcdv A outer s H E ds O R hr h=>?_)
 ·obtain ⟨_,_,_,_,_,_,_,rfl,_⟩:=h; rfl
 ·obtain ⟨q,sf,p,u,own,off,ws,rfl,hW,hp,ho,hof,hR⟩:=h
  have hf:=hp.f
  have s1:=hf.s1; have s2:=hf.s2; have t0:=hf.t0; have tb:=hf.tb; have b2:=hf.b2
  have a1:=DE (x:=p.t) (e:=off) hf.t0 wF wF
  have a2:=DE (x:=p.b) (e:=p.sc-off) wF wF wF
  have a3:=DE (x:=p.b) (e:=own) wF wF wF
  have c1:=C8 a1.1 a1.2 a2.1 a2.2
  have c2:=C8 (c:=2) c1.1 c1.2 (show (0:Int)<=2 by decide) wE
  refine Ad (AJ 3 (Ac.ev (Ak (AA ji (hr.mono wE) (Ab (Aq (Aa 0) hW (cv T.c_Weigher.cls T.c_Shifter.cls sf) (nv T.n_Weigher_top T.n_Shifter_top sf) (NK sf p u ws)) (Ab (Aa 2) Ae)) ⟨_,_,rfl,⟨by omega,by omega⟩,⟨by omega,by omega⟩,rfl⟩) (AA ji (hr.mono wE) (Ab (Aq (Aa 0) hW (cv T.c_Weigher.cls T.c_Shifter.cls sf) (nv T.n_Weigher_bottom T.n_Shifter_bottom sf) (H0 sf p u ws)) (Ab (Ak (Aq (Aa 0) hW (cv T.c_Weigher.cls T.c_Shifter.cls sf) (nv T.n_Weigher_scale T.n_Shifter_scale sf) (HZ sf p u ws)) (Aa 2) CV) Ae)) ⟨_,_,rfl,⟨by omega,by omega⟩,⟨by omega,by omega⟩,rfl⟩) (A8 (D8 a1.1 a1.2 a2.1 a2.2))) ?_) Pc.nd)
  exact Ad (AB (Ac.ev (Ak (Ak (Aa 3) Ai (A8 (by first | assumption | exact AZ.ok (Or.inl ⟨by omega,by omega⟩) | exact AZ.ok (Or.inr ⟨by omega,by omega⟩)))) (AA ji (hr.mono wE) (Ab (Aq (Aa 0) hW (cv T.c_Weigher.cls T.c_Shifter.cls sf) (nv T.n_Weigher_bottom T.n_Shifter_bottom sf) (H0 sf p u ws)) (Ab (Aa 1) Ae)) ⟨_,_,rfl,⟨by omega,by omega⟩,⟨by omega,by omega⟩,rfl⟩) (A8 (D8 c2.1 c2.2 a3.1 a3.2))) hR))
theorem Wy (Fn:As K "times_asleep" "times_asleep" KD f fd) (hm:mg "times_asleep" = some (.ref f)) (hb:Binds K fd ["keeper","own"] []) (ji:Ah P w K mg base 1 "power" (Ao GM)):Ah P w K mg base 2 "times_asleep" (J7 CK6 CK4):=by
 refine AO (k:=1) Fn TY hm hb (λds O R h=>?_) (λcdv A outer s H E ds O R hr h=>?_)
 ·obtain ⟨_,_,_,_,_,_,rfl,_⟩:=h; rfl
 ·obtain ⟨q,sf,p,u,own,ws,rfl,hW,hp,ho,hR⟩:=h
  have hf:=hp.f
  have s1:=hf.s1; have s2:=hf.s2; have t0:=hf.t0; have tb:=hf.tb; have b2:=hf.b2
  have a1:=DE (x:=p.b) (e:=p.sc) wF wF wF
  have a2:=DE (x:=p.b) (e:=own) wF wF wF
  have a3:=DE (x:=p.t) (e:=own) hf.t0 wF wF
  have e82:(2:Int) ^ 82=2 ^ 81+2 ^ 81:=by decide
  exact Ad (AB (Ac.ev (Ak (AA ji (hr.mono wE) (Ab (Aq (Aa 0) hW (cv T.c_Weigher.cls T.c_Shifter.cls sf) (nv T.n_Weigher_bottom T.n_Shifter_bottom sf) (H0 sf p u ws)) (Ab (Aq (Aa 0) hW (cv T.c_Weigher.cls T.c_Shifter.cls sf) (nv T.n_Weigher_scale T.n_Shifter_scale sf) (HZ sf p u ws)) Ae)) ⟨_,_,rfl,⟨by omega,by omega⟩,⟨by omega,by omega⟩,rfl⟩) (Ak (AA ji (hr.mono wE) (Ab (Aq (Aa 0) hW (cv T.c_Weigher.cls T.c_Shifter.cls sf) (nv T.n_Weigher_bottom T.n_Shifter_bottom sf) (H0 sf p u ws)) (Ab (Aa 1) Ae)) ⟨_,_,rfl,⟨by omega,by omega⟩,⟨by omega,by omega⟩,rfl⟩) (AA ji (hr.mono wE) (Ab (Aq (Aa 0) hW (cv T.c_Weigher.cls T.c_Shifter.cls sf) (nv T.n_Weigher_top T.n_Shifter_top sf) (NK sf p u ws)) (Ab (Aa 1) Ae)) ⟨_,_,rfl,⟨by omega,by omega⟩,⟨by omega,by omega⟩,rfl⟩) Bs) (A8 (D8 (n:=82) a1.1 a1.2 wF (by rw [e82]; omega)))) hR))
theorem Wz (Fn:As K "times" "times" KF f fd) (hm:mg "times" = some (.ref f)) (hb:Binds K fd ["keeper","own","what","so"] []) (jg:Ah P w K mg base 1 "charge" (Ao Fm)) (kt:Ah P w K mg base 2 "times_asleep" (J7 CK6 CK4)) (gr:Ah P w K mg base 2 "times_awake" (Ow CK6 CK4)):Ah P w K mg base 3 "times" (Ov CK6 CK4):=by
 refine AO (k:=2) Fn TZ hm hb (λds O R h=>?_) (λcdv A outer s H E ds O R hr h=>?_)
 ·obtain ⟨_,_,_,_,_,_,_,_,rfl,_⟩:=h; rfl
 ·obtain ⟨q,sf,p,u,own,so,w,ws,rfl,hW,hp,ho,hso,hw,hR⟩:=h
  cases w with
  | none=>
   refine Ad (AW (A1 (Aa 2) CY EI) (λhk=>?_) (λhk=>by cases hk))
   exact Ad (AB (Ac.ev (Ev.evp (Ck kt (hr.mono wE) (Ab (Aa 0) (Ab (Aa 1) Ae)) ⟨q,sf,p,u,own,ws,rfl,hW,hp,ho,rfl,rfl⟩)) hR))
  | some x=>
   have hx:=EX (hw.resolve_left (λh=>by cases h))
   refine Ad (AW (A1 (Aa 2) CY EI) (λhk=>by cases hk) (λhk=>Au ?_))
   exact Ad (AB (Ac.ev (Ev.evp (Ck gr (hr.mono wE) (Ab (Aa 0) (Ab (Aa 1) (Ab (AA jg (hr.mono wE) (Ab (Aa 2) (Ab (Aa 3) Ae)) ⟨some x,so,rfl,rfl⟩) Ae))) ⟨q,sf,p,u,own,ab (x-so),ws,rfl,hW,hp,ho,Ed hx hso,rfl,rfl⟩)) hR))
theorem Xg (Fn:As K "check_turns" "check_turns" Lh f fd) (hm:mg "check_turns" = some (.ref f)) (hb:Binds K fd ["many","scale","turns"] []) (kn:Ah P w K mg base 4 "is_turn" (Ao Kd)):Ah P w K mg base 5 "check_turns" (Ao OY):=by
 refine AO (k:=4) Fn Kt hm hb (λds O R h=>?_) (λcdv A outer s H E ds O R hr h=>?_)
 ·obtain ⟨_,⟨_,_,_,rfl,_⟩,_⟩:=h; rfl
 ·obtain ⟨d,⟨m,s,ts,rfl,hm,hts,rfl⟩,hR⟩:=h
  refine Ad (AW (Ct (Cb (AT T.b_isinstance (Ab (Aa 2) (Ab (EE T.b_tuple) Ae)) (Hz rfl)))) (λhk=>by cases hk) (λhk=>Au ?_))
  refine Ad (C5 (EG (MF (Aa 2) wB T.b_enumerate)) (λi ρ O'=>(∃ u v:Option D,ρ=[some (.int (m:Nat)),some (.int s),some (.tup (ts.map tD)),u,v])/\O'=O) ⟨⟨_,_,rfl⟩,rfl⟩ ?_ ?_)
  ·rintro i x ρ O' hx ⟨⟨u,v,rfl⟩,rfl⟩
   rw [List.getElem?_map] at hx
   cases hp:ts.zipIdx[i]? with
   | none=>rw [hp] at hx; cases hx
   | some p=>
    rw [hp] at hx
    cases hx
    have hok:=hts p.1 (List.fst_mem_of_mem_zipIdx (List.mem_of_getElem? hp))
    have hsd:=hok.said hm
    have hso:=hok.2.2
    refine ⟨_,BV (AU (AC 3 Kt.nd) (AU (AC 4 Kt.nd) BU)),?_⟩
    exact Ad (AW (Ct (Cb (AA kn (hr.mono wE) (Ab (Aa 0) (Ab (Aa 1) (Ab (Aa 4) Ae))) ⟨(m:Nat),s,p.1.1,p.1.2,rfl,hsd,hso,rfl⟩))) (λhk=>by cases hk) (λhk=>Au (Au ⟨⟨_,_,rfl⟩,rfl⟩)))
  ·rintro ρ O' ⟨⟨u,v,rfl⟩,rfl⟩
   exact Au hR
theorem Xm (Fn:As K "check_push" "check_push" Ln f fd) (hm:mg "check_push" = some (.ref f)) (hb:Binds K fd ["many","push"] []) (jh:Ah P w K mg base 2 "check_within" (Ao F3)) (ji:Ah P w K mg base 1 "power" (Ao GM)):Ah P w K mg base 3 "check_push" (Ao OG):=by
 refine AO (k:=2) Fn Ph hm hb (λds O R h=>?_) (λcdv A outer s H E ds O R hr h=>?_)
 ·obtain ⟨_,⟨_,_,rfl,_⟩,_⟩:=h; rfl
 ·obtain ⟨d,⟨m,ps,rfl,hp,hm,rfl⟩,hR⟩:=h
  refine Ad (AW (B9.t (Ea (Ct (Cb (AT T.b_isinstance (Ab (Aa 1) (Ab (EE T.b_tuple) Ae)) (Hz rfl)))) (λhbb=>(D9 (A1 (AT T.b_len (Ab (Aa 1) Ae) (Dm (by first | exact Or.inr rfl | exact Or.inl (Or.inl rfl) | exact Or.inl (Or.inr (Or.inl rfl)) | exact Or.inl (Or.inr (Or.inr ⟨_,rfl,by first | assumption | rfl⟩))))) (Aa 0) Gw))))) (λhk=>?_) (λhk=>Au ?_))
  ·exfalso
   have hk:(!true||!decide ((((ps.map D.int).length:Nat):Int)=m))=true:=hk
   rw [List.length_map,hp.1,decide_eq_true rfl] at hk
   cases hk
  refine Ad (C5 (Bz (Aa 1) wB) (λi ρ O'=>(∃ u,ρ=[some (.int m),some (.tup (ps.map D.int)),u])/\O'=O) ⟨⟨_,rfl⟩,rfl⟩ ?_ ?_)
  ·rintro i x ρ O' hx ⟨⟨u,rfl⟩,rfl⟩
   rw [List.getElem?_map] at hx
   cases hi:ps[i]? with
   | none=>rw [hi] at hx; cases hx
   | some p=>
    rw [hi] at hx
    cases hx
    have hb:=hp.2 p (List.mem_of_getElem? hi)
    refine ⟨_,AC 2 Ph.nd,?_⟩
    exact Ad (AX (Ac.ev (AA jh (hr.mono wE) (Ab CM (Ab (Aa 2) (Ab Ai (Ab (Ak (AA ji (hr.mono wE) (Ab Ai (Ab (Hr T.g_MOST_FIGURES.choose_spec) Ae)) ⟨10,60,rfl,by decide,by decide,rfl⟩) Ai CV) Ae)))) ⟨_,_,_,_,rfl,hb,rfl⟩) (Au ⟨⟨_,rfl⟩,rfl⟩)))
  ·rintro ρ O' ⟨⟨u,rfl⟩,rfl⟩
   exact Au hR
theorem WE (Fn:As K "push_of" "push_of" KK f fd) (hm:mg "push_of" = some (.ref f)) (hb:Binds K fd ["many","push"] []) (gu:Ah P w K mg base 3 "check_push" (Ao OG)):Ah P w K mg base 4 "push_of" (Ao OF):=by
 refine AO (k:=3) Fn T2 hm hb (λds O R h=>?_) (λcdv A outer s H E ds O R hr h=>?_)
 ·obtain ⟨_,⟨_,_,rfl,_⟩,_⟩:=h; rfl
 ·obtain ⟨d,⟨m,po,rfl,hm,hp,rfl⟩,hR⟩:=h
  cases po with
  | none=>
   refine Ad (AW (A1 (Aa 1) CY EI) (λhk=>?_) (λhk=>by cases hk))
   refine Ad (AB (Ac.ev (Ak (Cr (Ab Ai Ae)) (Aa 0) (Ft hm.1 wF (by simp) (by rw [sizeLine_eq]; show 1*m.toNat<=_; omega))) ?_))
   rw [JN]
   exact hR
  | some ps=>
   have hp:Eh m ps:=hp
   have hm2:=hm.2
   refine Ad (AW (A1 (Aa 1) CY EI) (λhk=>by cases hk) (λhk=>Au ?_))
   refine Ad (AX (Ac.ev (AA gu (hr.mono wE) (Ab (Aa 0) (Ab (Aa 1) Ae)) ⟨m,ps,rfl,hp,hm2,rfl⟩) ?_))
   exact Ad (AB (Ac.ev (Aa 1) hR))
theorem Xd (Fn:As K "first_least" "first_least" Le f fd) (hm:mg "first_least" = some (.ref f)) (hb:Binds K fd ["scores","advisers"] []):Ah P w K mg base 1 "first_least" (Ao OV):=by
 refine AO (k:=0) Fn Ue hm hb (λds O R h=>?_) (λcdv A outer s H E ds O R hr h=>?_)
 ·obtain ⟨_,⟨_,_,_,rfl,_⟩,_⟩:=h; rfl
 ·obtain ⟨d,⟨sc,as,k,rfl,hl,hb,hf,rfl⟩,hR⟩:=h
  have hy:∀ q∈as,Be (sc.map D.int) (q:Nat)=some (.int (sc.getD q 0)):=λq hq=>RL (hb q hq)
  have hne:(as.map λk=>(sc.getD k 0,((k:Nat):Int)))≠[]:=λz=>by
   rw [List.map_eq_nil_iff] at z
   have:=hf.1
   rw [z] at this
   cases this
  refine Ad (AB (Ac.ev (B2 (AT T.b_min (Ab (BN (λk:Nat=>pD (sc.getD k 0,((k:Nat):Int))) ["adviser"] ["scores"] [0] (Bz (Aa 1) wB) (by rw [sizeLine_eq]; omega) (by exact λq hq s H fp=>⟨[some _],rfl,(AC 0 (show List.Nodup (["adviser","scores"]:List Str) by decide +kernel)),⟨_,rfl,(Cr (Ab (B2 (Aa 1) (Aa 0) (hy q hq)) (Ab (Aa 0) Ae)))⟩⟩)) Ae) (Q1C hr (ps:=as.map λk=>(sc.getD k 0,((k:Nat):Int))) (Or.inl (congrArg D.lst (by rw [List.map_map]; rfl))) hne)) Ai rfl) ?_))
  rw [YD hf]
  exact hR
theorem X2 (Fn:As K "__init__" "Hand.__init__" L3 f fd)  (ku:Ah P w K mg base 4 "check_making" (Ao Kb)):AM P w K mg base AQ 5 f fd ["self","many","scale"] (AN K (Fl (λC=>C=CK1\/C=CK6\/C=CK4\/C=CK3\/C=CK5\/C=CK0))):=by
 refine Bc (k:=4) Fn UR (λds O R h=>?_) (λcdv A outer s H E ds O R hr h=>?_)
 ·obtain ⟨_,_,_,_,rfl,_⟩:=h; rfl
 ·obtain ⟨q,m,s,C,rfl,hC,hq,hm,hs,hR⟩:=h
  have hc:A5 K C:=by rcases hC with rfl | rfl | rfl | rfl | rfl | rfl; exact T.c_Hand.cls; exact T.c_Weigher.cls; exact T.c_Shifter.cls; exact T.c_Rounder.cls; exact T.c_Tier.cls; exact T.c_Follower.cls
  have n1:Ap K C "many" := by rcases hC with rfl | rfl | rfl | rfl | rfl | rfl; exact T.n_Hand_many; exact T.n_Weigher_many; exact T.n_Shifter_many; exact T.n_Rounder_many; exact T.n_Tier_many; exact T.n_Follower_many
  have n2:Ap K C "scale" := by rcases hC with rfl | rfl | rfl | rfl | rfl | rfl; exact T.n_Hand_scale; exact T.n_Weigher_scale; exact T.n_Shifter_scale; exact T.n_Rounder_scale; exact T.n_Tier_scale; exact T.n_Follower_scale
  refine Ad (AX (Ac.ev (AA ku (hr.mono wE) (Ab (Aa 1) (Ab (Aa 2) Ae)) ⟨_,_,rfl,by assumption,by assumption,rfl⟩) ?_))
  refine Ad (Bw (Aa 1) (Aa 0) hq hc n1 wE ?_)
  refine Ad (Bw (Aa 2) (Aa 0) (BG hq) hc n2 (by show 1<1000; decide) ?_)
  refine Au ?_
  rw [List.set_set,PP]
  exact hR
theorem XZ (Fn:As K "heeded" "Hand.heeded" LZ f fd)  : AM P w K mg base AQ 1 f fd ["self"] (AN K (OR CK1)):=by
 refine Bc (k:=0) Fn UO (λds O R h=>?_) (λcdv A outer s H E ds O R hr h=>?_)
 ·obtain ⟨_,_,_,rfl,_⟩:=h; rfl
 ·obtain ⟨q,m,s,rfl,hq,hm,hR⟩:=h
  refine Ad (AB (Ac.ev (Ak (Cr (Ab Ai Ae)) (Aq (Aa 0) hq T.c_Hand.cls T.n_Hand_many (Hl m s)) (Ft hm.1 wF (by simp) (by rw [sizeLine_eq]; show 1*m.toNat<=_; omega))) ?_))
  rw [Mh]
  exact hR
theorem Xw (Fn:As K "heeded" "Weigher.heeded" Ly f fd)  : AM P w K mg base AQ 1 f fd ["self"] (AN K (Kh CK6 CK4)):=by
 refine Bc (k:=0) Fn Uv (λds O R h=>?_) (λcdv A outer s H E ds O R hr h=>?_)
 ·obtain ⟨_,_,_,_,_,rfl,_⟩:=h; rfl
 ·obtain ⟨q,sf,p,u,ws,rfl,hW,hR⟩:=h
  exact Ad (AB (Ac.ev (Aq (Aa 0) hW (cv T.c_Weigher.cls T.c_Shifter.cls sf) (nv T.n_Weigher_tops T.n_Shifter_tops sf) (JU sf p u ws)) hR))
theorem XO (Fn:As K "heeded" "Rounder.heeded" LO f fd)  : AM P w K mg base AQ 1 f fd ["self"] (AN K (OQ CK3)):=by
 refine Bc (k:=0) Fn UI (λds O R h=>?_) (λcdv A outer s H E ds O R hr h=>?_)
 ·obtain ⟨_,_,_,_,_,rfl,_⟩:=h; rfl
 ·obtain ⟨jj,m,s,ov,ins,rfl,hO,hl,hR⟩:=h
  refine Ad (AB (Ac.ev (BO T.b_tuple (Ab (BN (λb:Bool=>if b=true then D.int 1 else D.int 0) ["one"] [] [] (Bz (Aq (Aa 0) hO T.c_Rounder.cls T.n_Rounder_inside (Pv m s ov ins)) wB) (by rw [sizeLine_eq]; omega) (by exact λq hq s H fp=>⟨[some _],rfl,(AC 0 (show List.Nodup (["one"]:List Str) by decide +kernel)),⟨_,rfl,(Q0g (Cb (Aa 0)) (λhbb=>Ai) (λhbb=>Ai))⟩⟩)) Ae) (CD (by first | exact Or.inr rfl | exact Or.inl (Or.inl rfl) | exact Or.inl (Or.inr (Or.inl rfl)) | exact Or.inl (Or.inr (Or.inr ⟨_,rfl,by first | assumption | rfl⟩))))) ?_))
  rw [ZB]
  exact hR
theorem XY (Fn:As K "say" "Hand.say" LY f fd)  (jk:Ah P w K mg base 4 "check_said" (Ao GO)) (gg:Ah P w K mg base 4 "middle_awake" (Ao ON)) (gv:Al P w K mg base CK1 1 "heeded" (OR CK1)) (gw:Al P w K mg base CK6 1 "heeded" (Kh CK6 CK4)) (gx:Al P w K mg base CK4 1 "heeded" (Kh CK6 CK4)) (gy:Al P w K mg base CK3 1 "heeded" (OQ CK3)):AM P w K mg base AQ 6 f fd ["self","said"] (AN K (B0 CK1 CK6 CK4 CK3)):=by
 refine Bc (k:=5) Fn UN (λds O R h=>?_) (λcdv A outer s H E ds O R hr h=>?_)
 ·obtain ⟨_,_,_,_,_,rfl,_⟩:=h; rfl
 ·obtain ⟨q,m,s,ws,said,rfl,hq,hm,hs,hl,hw,hR⟩:=h
  have hs1:=hs.1
  have h24:said.length<=24:=by have:=hs.2.1; omega
  have hll:ws.length=said.length:=by omega
  rcases hq with ⟨hq,rfl⟩ | ⟨sf,p,u,hW,rfl,rfl⟩ | ⟨ins,ov,hq,rfl⟩
  ·refine Ad (AX (Ac.ev (AA jk (hr.mono wE) (Ab (Aq (Aa 0) hq T.c_Hand.cls T.n_Hand_many (Hl m s)) (Ab (Aq (Aa 0) hq T.c_Hand.cls T.n_Hand_scale (IX m s)) (Ab (Aa 1) Ae))) ⟨_,_,_,rfl,by assumption,rfl⟩) ?_))
   exact Ad (AB (Ac.ev (AA gg (hr.mono wE) (Ab (Aa 1) (Ab (Ev.evp (CZ gv (hr.mono wE) (Aa 0) hq (Zy m s) ⟨q,m,s,rfl,hq,hm,rfl,rfl⟩)) Ae)) ⟨_,_,rfl,by assumption,by assumption,by assumption,rfl⟩) hR))
  ·refine Ad (AX (Ac.ev (AA jk (hr.mono wE) (Ab (Aq (Aa 0) hW (cv T.c_Weigher.cls T.c_Shifter.cls sf) (nv T.n_Weigher_many T.n_Shifter_many sf) (NL sf p u ws)) (Ab (Aq (Aa 0) hW (cv T.c_Weigher.cls T.c_Shifter.cls sf) (nv T.n_Weigher_scale T.n_Shifter_scale sf) (HZ sf p u ws)) (Ab (Aa 1) Ae))) ⟨_,_,_,rfl,by assumption,rfl⟩) ?_))
   exact Ad (AB (Ac.ev (AA gg (hr.mono wE) (Ab (Aa 1) (Ab (Ev.evp (CZ (mv gw gx sf) (hr.mono wE) (Aa 0) hW (FW sf p u ws wD wD) ⟨q,sf,p,u,ws,rfl,hW,rfl,rfl⟩)) Ae)) ⟨_,_,rfl,by assumption,by assumption,by assumption,rfl⟩) hR))
  ·have hi24:ins.length<=24:=by have:(Bh ins).length=ins.length:=List.length_map ..; omega
   refine Ad (AX (Ac.ev (AA jk (hr.mono wE) (Ab (Aq (Aa 0) hq T.c_Rounder.cls T.n_Rounder_many (G8 m s ov ins)) (Ab (Aq (Aa 0) hq T.c_Rounder.cls T.n_Rounder_scale (IA m s ov ins)) (Ab (Aa 1) Ae))) ⟨_,_,_,rfl,by assumption,rfl⟩) ?_))
   exact Ad (AB (Ac.ev (AA gg (hr.mono wE) (Ab (Aa 1) (Ab (Ev.evp (CZ gy (hr.mono wE) (Aa 0) hq (Gb m s ov ins wD) ⟨q,m,s,ov,ins,rfl,hq,hi24,rfl,rfl⟩)) Ae)) ⟨_,_,rfl,by assumption,by assumption,by assumption,rfl⟩) hR))
theorem X0 (Fn:As K "hear" "Hand.hear" L0 f fd)  (ja:Ah P w K mg base 5 "check_turn" (Ao EQ)):AM P w K mg base AQ 6 f fd ["self","said","so"] (AN K (Eo CK1)):=by
 refine Bc (k:=5) Fn UP (λds O R h=>?_) (λcdv A outer s H E ds O R hr h=>?_)
 ·obtain ⟨_,_,_,_,_,rfl,_⟩:=h; rfl
 ·obtain ⟨q,m,sc,so,said,rfl,hq,hs,hso,hR⟩:=h
  exact Ad (AX (Ac.ev (AA ja (hr.mono wE) (Ab (Aq (Aa 0) hq T.c_Hand.cls T.n_Hand_many (Hl m sc)) (Ab (Aq (Aa 0) hq T.c_Hand.cls T.n_Hand_scale (IX m sc)) (Ab (Aa 1) (Ab (Aa 2) Ae)))) ⟨_,_,_,_,rfl,by assumption,by assumption,rfl⟩) (Au hR)))
theorem X1 (Fn:As K "anew" "Hand.anew" L1 f fd)  (gz:Cv P w K mg base CK1 5 "Hand" (Fl (λC=>C=CK1\/C=CK6\/C=CK4\/C=CK3\/C=CK5\/C=CK0))):AM P w K mg base AQ 7 f fd ["self"] (AN K (GQ CK1)):=by
 refine Bc (k:=6) Fn UQ (λds O R h=>?_) (λcdv A outer s H E ds O R hr h=>?_)
 ·obtain ⟨_,_,_,rfl,_⟩:=h; rfl
 ·obtain ⟨q,m,sc,rfl,hq,hm,hs,hR⟩:=h
  refine Ad (AB (Dc gz (hr.mono wE) (Ab (Aq (Aa 0) hq T.c_Hand.cls T.n_Hand_many (Hl m sc)) (Ab (Aq (Aa 0) hq T.c_Hand.cls T.n_Hand_scale (IX m sc)) Ae)) ⟨O.length,m,sc,CK1,rfl,.inl rfl,A7,hm,hs,rfl,?_⟩))
  rw [B5]
  exact hR
theorem XT (Fn:As K "__init__" "Rounder.__init__" LR f fd)  (jl:Fg P w K mg base "Hand" 5 "__init__" (Fl (λC=>C=CK1\/C=CK6\/C=CK4\/C=CK3\/C=CK5\/C=CK0))):AM P w K mg base AQ 6 f fd ["self","many","scale"] (AN K (Il CK3)):=by
 refine Bc (k:=5) Fn UK (λds O R h=>?_) (λcdv A outer s H E ds O R hr h=>?_)
 ·obtain ⟨_,_,_,rfl,_⟩:=h; rfl
 ·obtain ⟨q,m,s,rfl,hq,hm,hs,hR⟩:=h
  refine Ad (AX (Ho jl (hr.mono wE) (Ab (Aa 0) (Ab (Aa 1) (Ab (Aa 2) Ae))) ⟨q,m,s,CK3,rfl,.inr (.inr (.inr (.inl rfl))),hq,hm,hs,?_⟩))
  refine Ad (Bw (Ak (Cr (Ab Fd Ae)) (Aa 1) (Ft hm.1 wF (by simp) (by rw [sizeLine_eq]; show 1*m.toNat<=_; omega))) (Aa 0) (BG hq) T.c_Rounder.cls T.n_Rounder_inside (by show 2<1000; decide) ?_)
  rw [List.set_set,show BL m s=r2 m s from rfl,Vq,NR]
  refine Ad (Bw Ai (Aa 0) (BG hq) T.c_Rounder.cls T.n_Rounder_over (by show 3<1000; decide) ?_)
  rw [List.set_set,Vp]
  exact Au hR
theorem XM (Fn:As K "rounds" "Rounder.rounds" LN f fd)  : AM P w K mg base AQ 1 f fd ["self"] (AN K (OC CK3)):=by
 refine Bc (k:=0) Fn UH (λds O R h=>?_) (λcdv A outer s H E ds O R hr h=>?_)
 ·obtain ⟨_,_,_,_,_,rfl,_⟩:=h; rfl
 ·obtain ⟨q,m,s,ov,ins,rfl,hq,hR⟩:=h
  exact Ad (AB (Ac.ev (Aq (Aa 0) hq T.c_Rounder.cls T.n_Rounder_over (Pu m s ov ins)) hR))
theorem XQ (Fn:As K "hear" "Rounder.hear" LP f fd)  (ja:Ah P w K mg base 5 "check_turn" (Ao EQ)) (jg:Ah P w K mg base 1 "charge" (Ao Fm)):AM P w K mg base AQ 6 f fd ["self","said","so"] (AN K (En CK3)):=by
 refine Bc (k:=5) Fn Pj (λds O R h=>?_) (λcdv A outer s H E ds O R hr h=>?_)
 ·obtain ⟨_,_,_,_,_,_,_,rfl,_⟩:=h; rfl
 ·obtain ⟨jj,m,s,ov,so,ins,said,rfl,hO,hm,hs,hso,hl,hR⟩:=h
  have hs1:=hs.1
  have hzl:(ins.zip said).length<=63:=by rw [List.length_zip]; omega
  refine Ad (AX (Ac.ev (AA ja (hr.mono wE) (Ab (Aq (Aa 0) hO T.c_Rounder.cls T.n_Rounder_many (G8 m s ov ins)) (Ab (Aq (Aa 0) hO T.c_Rounder.cls T.n_Rounder_scale (IA m s ov ins)) (Ab (Aa 1) (Ab (Aa 2) Ae)))) ⟨_,_,_,_,rfl,by assumption,by assumption,rfl⟩) ?_))
  refine Ad (AJ 3 (Ac.ev (BO T.b_tuple (Ab (BN (λp:Bool×Option Int=>.bl (p.1&&decide (BP p.2 so=0))) ["one","what"] ["so"] [2] (EG (FA (Aq (Aa 0) hO T.c_Rounder.cls T.n_Rounder_inside (Pv m s ov ins)) (Aa 1) wB wB T.b_zip)) (by rw [sizeLine_eq]; omega) (by exact λq hq s H fp=>⟨[some _,some _],rfl,(BV (AU (AC 0 (show List.Nodup (["one","what","so"]:List Str) by decide +kernel)) (AU (AC 1 (show List.Nodup (["one","what","so"]:List Str) by decide +kernel)) BU))),⟨_,rfl,(DH (Aa 0) (λhbb=>(Dl (CA (AA jg (hr.mono wE) (Ab (Aa 1) (Ab (Aa 2) Ae)) ⟨_,_,rfl,rfl⟩) Ai CC))))⟩⟩)) Ae) (CD (by first | exact Or.inr rfl | exact Or.inl (Or.inl rfl) | exact Or.inl (Or.inr (Or.inl rfl)) | exact Or.inl (Or.inr (Or.inr ⟨_,rfl,by first | assumption | rfl⟩))))) ?_) Pj.nd)
  have e1:((ins.zip said).map λp:Bool×Option Int=>D.bl (p.1&&decide (BP p.2 so=0)))=(BS said so ins).map D.bl:=by
   unfold BS
   rw [List.map_map]
   rfl
  rw [e1]
  have hLl:(BS said so ins).length=ins.length:=Mq wF
  unfold D5 EY at hR
  generalize BS said so ins=left at hR hLl
  refine Ad (AW (Cb (AT T.b_any (Ab (Aa 3) Ae) (Q1I (by first | exact Or.inr rfl | exact Or.inl (Or.inl rfl) | exact Or.inl (Or.inr (Or.inl rfl)) | exact Or.inl (Or.inr (Or.inr ⟨_,rfl,by first | assumption | rfl⟩)))))) (λhk=>?_) (λhk=>?_))
  ·rw [if_pos hk,if_pos hk] at hR
   refine Ad (Bw (Aa 3) (Aa 0) hO T.c_Rounder.cls T.n_Rounder_inside (by show 4<1000; decide) ?_)
   rw [Pr]
   exact Au (Au hR)
  ·have hk':¬ left.any id=true:=by rw [hk]; exact Bool.false_ne_true
   rw [if_neg hk',if_neg hk'] at hR
   refine Ad (Bw (Ak (Cr (Ab Fd Ae)) (Aq (Aa 0) hO T.c_Rounder.cls T.n_Rounder_many (G8 m s ov ins)) (Ft hm.1 wF (by simp) (by rw [sizeLine_eq]; show 1*m.toNat<=_; omega))) (Aa 0) hO T.c_Rounder.cls T.n_Rounder_inside (by show 4<1000; decide) ?_)
   rw [NR,Pr]
   have hO2:(O.set jj (some (MO.ins CK3 (B1 m s (List.replicate m.toNat true) ov))))[jj]?=some (some (.ins CK3 (B1 m s (List.replicate m.toNat true) ov))):=BG hO
   refine Ad (Bw (Ak (Aq (Aa 0) hO2 T.c_Rounder.cls T.n_Rounder_over (Pu m s ov _)) Ai Bs) (Aa 0) hO2 T.c_Rounder.cls T.n_Rounder_over (by show 4<1000; decide) ?_)
   rw [List.set_set,U6]
   have e:m.toNat=ins.length:=by omega
   rw [e]
   exact Au (Au hR)
theorem XS (Fn:As K "anew" "Rounder.anew" LQ f fd)  (jt:Cv P w K mg base CK3 6 "Rounder" (Il CK3)):AM P w K mg base AQ 8 f fd ["self"] (AN K (GP CK3)):=by
 refine Bc (k:=7) Fn UJ (λds O R h=>?_) (λcdv A outer s H E ds O R hr h=>?_)
 ·obtain ⟨_,_,_,_,_,rfl,_⟩:=h; rfl
 ·obtain ⟨q,m,s,ov,ins,rfl,hq,hm,hs,hR⟩:=h
  refine Ad (AB (Dc jt (hr.mono wE) (Ab (Aq (Aa 0) hq T.c_Rounder.cls T.n_Rounder_many (G8 m s ov ins)) (Ab (Aq (Aa 0) hq T.c_Rounder.cls T.n_Rounder_scale (IA m s ov ins)) Ae)) ⟨O.length,m,s,rfl,A7,hm,hs,rfl,?_⟩))
  rw [B5]
  exact hR
theorem Xz (Fn:As K "__init__" "Weigher.__init__" LB f fd)  (kv:Ah P w K mg base 3 "check_fraction" (Ao Ki)) (jl:Fg P w K mg base "Hand" 5 "__init__" (Fl (λC=>C=CK1\/C=CK6\/C=CK4\/C=CK3\/C=CK5\/C=CK0))):AM P w K mg base AQ 6 f fd ["self","many","scale","top","bottom"] (AN K (F5 CK6 CK4)):=by
 refine Bc (k:=5) Fn Uy (λds O R h=>?_) (λcdv A outer s H E ds O R hr h=>?_)
 ·obtain ⟨_,_,_,rfl,_⟩:=h; rfl
 ·obtain ⟨q,sf,p,rfl,hq,hp,hR⟩:=h
  obtain ⟨m,s,t,b,sh,pa⟩:=p
  have hm:1<=m/\m<=24:=⟨hp.m1,hp.m2⟩
  have hb:0<=t/\t<b/\b<=100:=⟨hp.f.t0,hp.f.tb,hp.f.b2⟩
  refine Ad (AX (Ac.ev (AA kv (hr.mono wE) (Ab (Aa 3) (Ab (Aa 4) Ae)) ⟨_,_,rfl,by assumption,rfl⟩) ?_))
  refine Ad (AX (Ho jl (hr.mono wE) (Ab (Aa 0) (Ab (Aa 1) (Ab (Aa 2) Ae))) ⟨q,m,s,B4 CK6 CK4 sf,rfl,(by cases sf; exact .inr (.inl rfl); exact .inr (.inr (.inl rfl))),hq,hm,⟨hp.f.s1,hp.f.s2⟩,?_⟩))
  have q1:=BG (y:=some (.ins (B4 CK6 CK4 sf) (BL m s))) hq
  refine Ad (Bw (Aa 3) (Aa 0) q1 (cv T.c_Weigher.cls T.c_Shifter.cls sf) (nv T.n_Weigher_top T.n_Shifter_top sf) (by show 2<1000; decide) ?_)
  rw [List.set_set,PN]
  refine Ad (Bw (Aa 4) (Aa 0) (BG hq) (cv T.c_Weigher.cls T.c_Shifter.cls sf) (nv T.n_Weigher_bottom T.n_Shifter_bottom sf) (by show 3<1000; decide) ?_)
  rw [List.set_set,PQ]
  refine Ad (Bw (Ak (Cr (Ab Ai Ae)) (Aa 1) (Ft hm.1 wF (by simp) (by rw [sizeLine_eq]; show 1*m.toNat<=_; omega))) (Aa 0) (BG hq) (cv T.c_Weigher.cls T.c_Shifter.cls sf) (nv T.n_Weigher_tops T.n_Shifter_tops sf) (by show 4<1000; decide) ?_)
  rw [List.set_set,PM,Mh]
  refine Ad (Bw Ai (Aa 0) (BG hq) (cv T.c_Weigher.cls T.c_Shifter.cls sf) (nv T.n_Weigher_under T.n_Shifter_under sf) (by show 5<1000; decide) ?_)
  rw [List.set_set,PL]
  exact Au hR
theorem XL (Fn:As K "__init__" "Shifter.__init__" LM f fd)  (za:Ah P w K mg base 3 "check_share" (Ao Ox)) (zb:Fg P w K mg base "Weigher" 6 "__init__" (F5 CK6 CK4)):AM P w K mg base AQ 7 f fd ["self","many","scale","top","bottom","share","parts"] (AN K (Kg CK4)):=by
 refine Bc (k:=6) Fn UG (λds O R h=>?_) (λcdv A outer s H E ds O R hr h=>?_)
 ·obtain ⟨_,_,rfl,_⟩:=h; rfl
 ·obtain ⟨q,p,rfl,hq,hp,hR⟩:=h
  have hsh:1<=p.sh/\p.sh<p.pa/\p.pa<=100:=⟨hp.h1,hp.h2,hp.h3⟩
  refine Ad (AX (Ac.ev (AA za (hr.mono wE) (Ab (Aa 5) (Ab (Aa 6) Ae)) ⟨_,_,rfl,by assumption,rfl⟩) ?_))
  refine Ad (AX (Ho zb (hr.mono wE) (Ab (Aa 0) (Ab (Aa 1) (Ab (Aa 2) (Ab (Aa 3) (Ab (Aa 4) Ae))))) ⟨q,true,p,rfl,hq,⟨hp.f,hp.m1,hp.m2,λz=>by cases z⟩,?_⟩))
  have q1:=BG (y:=some (.ins CK4 (A0 p.m p.sc p.t p.b (List.replicate p.m.toNat 1) 1))) hq
  refine Ad (Bw (Aa 5) (Aa 0) q1 T.c_Shifter.cls T.n_Shifter_share (by show 6<1000; decide) ?_)
  rw [List.set_set,Vo]
  refine Ad (Bw (Aa 6) (Aa 0) (BG hq) T.c_Shifter.cls T.n_Shifter_parts (by show 7<1000; decide) ?_)
  rw [List.set_set,Vr]
  exact Au hR
theorem Xv (Fn:As K "total" "Weigher.total" Lx f fd)  : AM P w K mg base AQ 1 f fd ["self"] (AN K (J6 CK6 CK4)):=by
 refine Bc (k:=0) Fn Uu (λds O R h=>?_) (λcdv A outer s H E ds O R hr h=>?_)
 ·obtain ⟨_,_,_,_,_,rfl,_⟩:=h; rfl
 ·obtain ⟨q,sf,p,u,ws,rfl,hW,hl,hR⟩:=h
  exact Ad (AB (Ac.ev (Cr (Ab (AT T.b_sum (Ab (Aq (Aa 0) hW (cv T.c_Weigher.cls T.c_Shifter.cls sf) (nv T.n_Weigher_tops T.n_Shifter_tops sf) (JU sf p u ws)) Ae) (DY (Or.inr rfl))) (Ab (Aq (Aa 0) hW (cv T.c_Weigher.cls T.c_Shifter.cls sf) (nv T.n_Weigher_under T.n_Shifter_under sf) (NJ sf p u ws)) Ae))) hR))
theorem Xu (Fn:As K "weigh" "Weigher.weigh" Lw f fd)  (jg:Ah P w K mg base 1 "charge" (Ao Fm)) (jn:Al P w K mg base CK6 6 "say" (B0 CK1 CK6 CK4 CK3)) (jo:Al P w K mg base CK4 6 "say" (B0 CK1 CK6 CK4 CK3)) (zc:Ah P w K mg base 3 "times" (Ov CK6 CK4)) (kt:Ah P w K mg base 2 "times_asleep" (J7 CK6 CK4)):AM P w K mg base AQ 7 f fd ["self","said","so"] (AN K (J5 CK6 CK4)):=by
 refine Bc (k:=6) Fn Pi (λds O R h=>?_) (λcdv A outer s H E ds O R hr h=>?_)
 ·obtain ⟨_,_,_,_,_,_,_,_,rfl,_⟩:=h; rfl
 ·obtain ⟨jj,n,sf,p,u,so,said,ws,rfl,hW,hp,hn,hwo,hl,hs,hso,hR⟩:=h
  have hf:=hp.f
  have hs1:=hs.1
  have h24:=hs.2.1
  have h0:Cd ws:=λw hw=>(hwo.w w hw).1
  have hon:=Ez (ws:=ws) hs (by have:=hf.s1; omega) h0
  have hd:=Ed hon hso
  refine Ad (AJ 3 (Ac.ev (AA jg (hr.mono wE) (Ab (Ev.evp (CN (mv jn jo sf) (hr.mono wE) (Aa 0) hW (FW sf p u ws wD wD) (Ab (Aa 1) Ae) ⟨jj,p.m,p.sc,ws,said,rfl,.inr (.inl ⟨sf,p,u,hW,rfl,rfl⟩),⟨hp.m1,hp.m2⟩,hs,hl,h0,rfl,rfl⟩)) (Ab (Aa 2) Ae)) ⟨some (AG said ws),so,rfl,rfl⟩) ?_) Pi.nd)
  have hdd:BP (some (AG said ws)) so=ab (AG said ws-so):=rfl
  rw [hdd]
  generalize ab (AG said ws-so)=dd at hd hR
  have hzl:(ws.zip said).length<=63:=by rw [List.length_zip]; omega
  have hi:∀ q∈ws.zip said,IntMulOk q.1 (tF p.t p.b p.sc dd so q.2):=λq hq=>by
   have h1:=hwo.w _ (List.of_mem_zip hq).1
   have h2:=Ih hf hd.2 hso (hs.2.2 _ (List.of_mem_zip hq).2)
   exact D8 h1.1 h1.2 h2.1 h2.2 wF
  have hin:∀ q∈ws.zip said,q.2=none\/C9 p.sc q.2=true:=λq hq=>hs.2.2 _ (List.of_mem_zip hq).2
  refine Ad (Bw (BO T.b_tuple (Ab (BN (λq:Int×Option Int=>.int (q.1*tF p.t p.b p.sc dd so q.2)) ["kept","what"] ["self","own","so"] [0,3,2] (EG (FA (Aq (Aa 0) hW (cv T.c_Weigher.cls T.c_Shifter.cls sf) (nv T.n_Weigher_tops T.n_Shifter_tops sf) (JU sf p u ws)) (Aa 1) wB wB T.b_zip)) (by rw [sizeLine_eq]; omega) (by exact λq hq s H fp=>⟨[some _,some _],rfl,(BV (AU (AC 0 (show List.Nodup (["kept","what","self","own","so"]:List Str) by decide +kernel)) (AU (AC 1 (show List.Nodup (["kept","what","self","own","so"]:List Str) by decide +kernel)) BU))),⟨_,rfl,(Ak (Aa 0) (Ev.evp (Ck zc (hr.mono wE) (Ab (Aa 2) (Ab (Aa 3) (Ab (Aa 1) (Ab (Aa 4) Ae)))) ⟨_,_,_,_,_,_,q.2,_,rfl,hW,hp,hd,hso,hin q hq,rfl,rfl⟩)) (A8 (hi q hq)))⟩⟩)) Ae) (CD (by first | exact Or.inr rfl | exact Or.inl (Or.inl rfl) | exact Or.inl (Or.inr (Or.inl rfl)) | exact Or.inl (Or.inr (Or.inr ⟨_,rfl,by first | assumption | rfl⟩))))) (Aa 0) hW (cv T.c_Weigher.cls T.c_Shifter.cls sf) (nv T.n_Weigher_tops T.n_Shifter_tops sf) (NI ..) ?_)
  have e1:((ws.zip said).map λq:Int×Option Int=>D.int (q.1*tF p.t p.b p.sc dd so q.2))=(BW p.t p.b p.sc dd so said ws).map D.int:=by
   unfold BW
   rw [List.map_map]
   rfl
  rw [e1,Sv]
  have h1:=F1 (own:=dd) hf hd.2
  have hW2:(O.set jj (some (MO.ins (B4 CK6 CK4 sf) (Cn sf p (BW p.t p.b p.sc dd so said ws) u))))[jj]?=some (some (.ins (B4 CK6 CK4 sf) (Cn sf p (BW p.t p.b p.sc dd so said ws) u))):=BG hW
  refine Ad (Bw (Ak (Aq (Aa 0) hW2 (cv T.c_Weigher.cls T.c_Shifter.cls sf) (nv T.n_Weigher_under T.n_Shifter_under sf) (NJ sf p u _)) (Ev.evp (Ck kt (hr.mono wE) (Ab (Aa 0) (Ab (Aa 3) Ae)) ⟨jj,sf,p,u,dd,_,rfl,hW2,hp,hd,rfl,rfl⟩)) (A8 (D8 hwo.u0 hwo.u1 h1.1 h1.2 wF))) (Aa 0) hW2 (cv T.c_Weigher.cls T.c_Shifter.cls sf) (nv T.n_Weigher_under T.n_Shifter_under sf) (NI ..) ?_)
  rw [List.set_set,Su]
  exact Au hR
theorem XI (Fn:As K "deal" "Shifter.deal" LK f fd)  : AM P w K mg base AQ 1 f fd ["self"] (AN K (OX CK4)):=by
 refine Bc (k:=0) Fn Kv (λds O R h=>?_) (λcdv A outer s H E ds O R hr h=>?_)
 ·obtain ⟨_,_,_,_,rfl,_⟩:=h; rfl
 ·obtain ⟨jj,p,u,ws,rfl,hW,hp,hl,hR⟩:=h
  have hk:=QH hp
  have p1:=hp.h1; have p2:=hp.h2; have p3:=hp.h3; have m1:=hp.m1; have m2:=hp.m2
  refine Ad (AJ 1 (Ac.ev (Ak (Aq (Aa 0) hW T.c_Shifter.cls T.n_Shifter_share (JJ p u ws)) (AT T.b_sum (Ab (Aq (Aa 0) hW T.c_Shifter.cls T.n_Shifter_tops (JI p u ws)) Ae) (DY (Or.inr rfl))) (A8 (AZ.ok (Or.inl ⟨by omega,by omega⟩)))) ?_) Kv.nd)
  refine Ad (AJ 2 (Ac.ev (Ak (Aq (Aa 0) hW T.c_Shifter.cls T.n_Shifter_many (GH p u ws)) (Ak (Aq (Aa 0) hW T.c_Shifter.cls T.n_Shifter_parts (JL p u ws)) (Aq (Aa 0) hW T.c_Shifter.cls T.n_Shifter_share (JJ p u ws)) CV) (A8 (AZ.ok (Or.inl ⟨by omega,by omega⟩)))) ?_) Kv.nd)
  refine Ad (Bw (BO T.b_tuple (Ab (BN (λw:Int=>.int (w*(p.m*(p.pa-p.sh))+p.sh*ws.sum)) ["one"] ["kept","dealt"] [2,1] (Bz (Aq (Aa 0) hW T.c_Shifter.cls T.n_Shifter_tops (JI p u ws)) wB) (by rw [sizeLine_eq]; omega) (by exact λq hq s H fp=>⟨[some _],rfl,(AC 0 (show List.Nodup (["one","kept","dealt"]:List Str) by decide +kernel)),⟨_,rfl,(Ak (Ak (Aa 0) (Aa 1) (A8 (AZ.ok (Or.inr ⟨by omega,by omega⟩)))) (Aa 2) Bs)⟩⟩)) Ae) (CD (by first | exact Or.inr rfl | exact Or.inl (Or.inl rfl) | exact Or.inl (Or.inr (Or.inl rfl)) | exact Or.inl (Or.inr (Or.inr ⟨_,rfl,by first | assumption | rfl⟩))))) (Aa 0) hW T.c_Shifter.cls T.n_Shifter_tops (by show 8<1000; decide) ?_)
  have e1:(ws.map λw:Int=>D.int (w*(p.m*(p.pa-p.sh))+p.sh*ws.sum))=(Dx p ws).map D.int:=by
   unfold Dx
   rw [List.map_map]
   rfl
  rw [e1,Og]
  have hW2:(O.set jj (some (MO.ins CK4 (Bt p (Dx p ws) u))))[jj]?=some (some (.ins CK4 (Bt p (Dx p ws) u))):=BG hW
  refine Ad (Bw (Ak (Ak (Aq (Aa 0) hW2 T.c_Shifter.cls T.n_Shifter_under (Nx p u _)) (Aq (Aa 0) hW2 T.c_Shifter.cls T.n_Shifter_many (GH p u _)) (A8 (AZ.ok (Or.inr ⟨by omega,by omega⟩)))) (Aq (Aa 0) hW2 T.c_Shifter.cls T.n_Shifter_parts (JL p u _)) (A8 (AZ.ok (Or.inr ⟨by omega,by omega⟩)))) (Aa 0) hW2 T.c_Shifter.cls T.n_Shifter_under (by show 8<1000; decide) ?_)
  rw [List.set_set,Of]
  exact Au hR
theorem Xx (Fn:As K "hear" "Weigher.hear" Lz f fd)  (ja:Ah P w K mg base 5 "check_turn" (Ao EQ)) (ze:Al P w K mg base CK6 7 "weigh" (J5 CK6 CK4)):AM P w K mg base AQ 8 f fd ["self","said","so"] (AN K (Cp CK6 CK4 false)):=by
 refine Bc (k:=7) Fn Uw (λds O R h=>?_) (λcdv A outer s H E ds O R hr h=>?_)
 ·obtain ⟨_,_,_,_,_,_,_,rfl,_⟩:=h; rfl
 ·obtain ⟨jj,n,p,u,so,said,ws,rfl,hW,hp,hn,hwo,hl,hs,hso,hR⟩:=h
  have hW':O[jj]?=some (some (.ins CK6 (A0 p.m p.sc p.t p.b ws u))):=hW
  refine Ad (AX (Ac.ev (AA ja (hr.mono wE) (Ab (Aq (Aa 0) hW' T.c_Weigher.cls T.n_Weigher_many (GJ ..)) (Ab (Aq (Aa 0) hW' T.c_Weigher.cls T.n_Weigher_scale (FT ..)) (Ab (Aa 1) (Ab (Aa 2) Ae)))) ⟨_,_,_,_,rfl,by assumption,by assumption,rfl⟩) ?_))
  exact Ad (AX (CN ze (hr.mono wE) (Aa 0) hW' (FU _ _ _ _ _ _ wD) (Ab (Aa 1) (Ab (Aa 2) Ae)) ⟨jj,n,false,p,u,so,said,ws,rfl,hW,hp,hn,hwo,hl,hs,hso,Au hR⟩))
theorem XH (Fn:As K "hear" "Shifter.hear" LJ f fd)  (ja:Ah P w K mg base 5 "check_turn" (Ao EQ)) (zg:Al P w K mg base CK4 7 "weigh" (J5 CK6 CK4)) (zh:Al P w K mg base CK4 1 "deal" (OX CK4)):AM P w K mg base AQ 8 f fd ["self","said","so"] (AN K (Cp CK6 CK4 true)):=by
 refine Bc (k:=7) Fn UE (λds O R h=>?_) (λcdv A outer s H E ds O R hr h=>?_)
 ·obtain ⟨_,_,_,_,_,_,_,rfl,_⟩:=h; rfl
 ·obtain ⟨jj,n,p,u,so,said,ws,rfl,hW0,hp0,hn,hwo,hl,hs,hso,hR⟩:=h
  have hW:JA CK4 O jj p ws u:=hW0
  have hp:=hp0.so
  refine Ad (AX (Ac.ev (AA ja (hr.mono wE) (Ab (Aq (Aa 0) hW T.c_Shifter.cls T.n_Shifter_many (GH p u ws)) (Ab (Aq (Aa 0) hW T.c_Shifter.cls T.n_Shifter_scale (JK p u ws)) (Ab (Aa 1) (Ab (Aa 2) Ae)))) ⟨_,_,_,_,rfl,by assumption,by assumption,rfl⟩) ?_))
  refine Ad (AX (CN zg (hr.mono wE) (Aa 0) hW (JM p u ws wD) (Ab (Aa 1) (Ab (Aa 2) Ae)) ⟨jj,n,true,p,u,so,said,ws,rfl,hW0,hp0,hn,hwo,hl,hs,hso,?_⟩))
  have hW2:JA CK4 (O.set jj (some (.ins CK4 (Bt p (BW p.t p.b p.sc (ab (AG said ws-so)) so said ws) (u*tS p.t p.b p.sc (ab (AG said ws-so))))))) jj p (BW p.t p.b p.sc (ab (AG said ws-so)) so said ws) (u*tS p.t p.b p.sc (ab (AG said ws-so))):=BG hW
  have hs1:=hs.1
  have h24:=hs.2.1
  have hnl:=Gg (t:=p.t) (b:=p.b) (sc:=p.sc) (dd:=ab (AG said ws-so)) (so:=so) (show ws.length=said.length by omega)
  refine Ad (AX (CZ zh (hr.mono wE) (Aa 0) hW2 (JM p _ _ wD) ⟨jj,p,_,_,rfl,hW2,hp,by omega,?_⟩))
  rw [List.set_set]
  exact Au hR
theorem Xy (Fn:As K "anew" "Weigher.anew" LA f fd)  (jp:Cv P w K mg base CK6 6 "Weigher" (F5 CK6 CK4)):AM P w K mg base AQ 9 f fd ["self"] (AN K (DQ CK6 CK4 false)):=by
 refine Bc (k:=8) Fn Ux (λds O R h=>?_) (λcdv A outer s H E ds O R hr h=>?_)
 ·obtain ⟨_,_,_,_,rfl,_⟩:=h; rfl
 ·obtain ⟨jj,p,u,ws,rfl,hW,hp,hR⟩:=h
  have hW':O[jj]?=some (some (.ins CK6 (A0 p.m p.sc p.t p.b ws u))):=hW
  refine Ad (AB (Dc jp (hr.mono wE) (Ab (Aq (Aa 0) hW' T.c_Weigher.cls T.n_Weigher_many (GJ ..)) (Ab (Aq (Aa 0) hW' T.c_Weigher.cls T.n_Weigher_scale (FT ..)) (Ab (Aq (Aa 0) hW' T.c_Weigher.cls T.n_Weigher_top (JS ..)) (Ab (Aq (Aa 0) hW' T.c_Weigher.cls T.n_Weigher_bottom (HX ..)) Ae)))) ⟨O.length,false,p,rfl,A7,hp,rfl,?_⟩))
  rw [B5]
  exact hR
theorem XJ (Fn:As K "anew" "Shifter.anew" LL f fd)  (kx:Cv P w K mg base CK4 7 "Shifter" (Kg CK4)):AM P w K mg base AQ 9 f fd ["self"] (AN K (DQ CK6 CK4 true)):=by
 refine Bc (k:=8) Fn UF (λds O R h=>?_) (λcdv A outer s H E ds O R hr h=>?_)
 ·obtain ⟨_,_,_,_,rfl,_⟩:=h; rfl
 ·obtain ⟨jj,p,u,ws,rfl,hW0,hp0,hR⟩:=h
  have hW:JA CK4 O jj p ws u:=hW0
  have hp:=hp0.so
  refine Ad (AB (Dc kx (hr.mono wE) (Ab (Aq (Aa 0) hW T.c_Shifter.cls T.n_Shifter_many (GH p u ws)) (Ab (Aq (Aa 0) hW T.c_Shifter.cls T.n_Shifter_scale (JK p u ws)) (Ab (Aq (Aa 0) hW T.c_Shifter.cls T.n_Shifter_top (Ny p u ws)) (Ab (Aq (Aa 0) hW T.c_Shifter.cls T.n_Shifter_bottom (Nz p u ws)) (Ab (Aq (Aa 0) hW T.c_Shifter.cls T.n_Shifter_share (JJ p u ws)) (Ab (Aq (Aa 0) hW T.c_Shifter.cls T.n_Shifter_parts (JL p u ws)) Ae)))))) ⟨O.length,p,rfl,A7,hp,rfl,?_⟩))
  rw [B5]
  exact hR
theorem X7 (Fn:HM K "__init__" "Follower.__init__" Ga f fd [.none])  (zi:Ah P w K mg base 4 "push_of" (Ao OF)) (jl:Fg P w K mg base "Hand" 5 "__init__" (Fl (λC=>C=CK1\/C=CK6\/C=CK4\/C=CK3\/C=CK5\/C=CK0))):AM P w K mg base AQ 6 f fd ["self","many","scale","push"] (AN K (F6 CK0)):=by
 refine X8 (k:=5) Fn UV (λds O R h=>?_) (λcdv A outer s H E ds O R hr h=>?_)
 ·obtain ⟨_,_,_,_,rfl,_⟩:=h; rfl
 ·obtain ⟨q,m,s,po,rfl,hq,hm,hs,hp,hR⟩:=h
  refine Ad (AX (Ho jl (hr.mono wE) (Ab (Aa 0) (Ab (Aa 1) (Ab (Aa 2) Ae))) ⟨q,m,s,CK0,rfl,.inr (.inr (.inr (.inr (.inr rfl)))),hq,hm,hs,?_⟩))
  refine Ad (Bw (AA zi (hr.mono wE) (Ab (Aa 1) (Ab (Aa 3) Ae)) ⟨m,po,rfl,hm,hp,rfl⟩) (Aa 0) (BG hq) T.c_Follower.cls T.n_Follower_push (by show 2<1000; decide) ?_)
  rw [List.set_set,show BL m s=g2 m s from rfl,Vv]
  have q3:=BG (y:=some (.ins CK0 (g3 m s (.tup ((Ge m po).map D.int))))) hq
  refine Ad (Bw (Aq (Aa 0) q3 T.c_Follower.cls T.n_Follower_push (ZT _ _ _)) (Aa 0) q3 T.c_Follower.cls T.n_Follower_reached (by show 3<1000; decide) ?_)
  rw [List.set_set,Vu]
  exact Au hR
theorem X4 (Fn:As K "say" "Follower.say" L5 f fd)  (jk:Ah P w K mg base 4 "check_said" (Ao GO)) (ko:Ah P w K mg base 1 "awake_in" (Ao Kl)) (zj:Ah P w K mg base 1 "first_least" (Ao OV)):AM P w K mg base AQ 5 f fd ["self","said"] (AN K (F4 CK0)):=by
 refine Bc (k:=4) Fn Pl (λds O R h=>?_) (λcdv A outer s H E ds O R hr h=>?_)
 ·obtain ⟨_,_,_,_,_,_,rfl,_⟩:=h; rfl
 ·obtain ⟨q,m,s,ps,sc,said,rfl,hq,hm,hs,hl,hR⟩:=h
  have hs1:=hs.1
  have h24:said.length<=24:=by have:=hs.2.1; omega
  have hal:=M8 said
  refine Ad (AX (Ac.ev (AA jk (hr.mono wE) (Ab (Aq (Aa 0) hq T.c_Follower.cls T.n_Follower_many (Jd m s ps sc)) (Ab (Aq (Aa 0) hq T.c_Follower.cls T.n_Follower_scale (Jb m s ps sc)) (Ab (Aa 1) Ae))) ⟨_,_,_,rfl,by assumption,rfl⟩) ?_))
  refine Ad (AJ 2 (Ac.ev (AA ko (hr.mono wE) (Ab (Aa 1) Ae) ⟨_,rfl,by assumption,rfl⟩) ?_) Pl.nd)
  refine Ad (AW (A1 (AT T.b_len (Ab (Aa 2) Ae) (Dm (by first | exact Or.inr rfl | exact Or.inl (Or.inl rfl) | exact Or.inl (Or.inr (Or.inl rfl)) | exact Or.inl (Or.inr (Or.inr ⟨_,rfl,by first | assumption | rfl⟩))))) Ai CC) (λhk=>?_) (λhk=>Au ?_))
  ·have hk:=of_decide_eq_true hk
   rw [List.length_map] at hk
   rw [U1 (List.length_eq_zero_iff.mp wF)] at hR
   exact Ad (AB (Ac.ev Ai hR))
  ·have hk:=of_decide_eq_false hk
   rw [List.length_map] at hk
   obtain ⟨k,_,hf⟩:=Ja sc (ax said) (RK said) (λz=>hk (by rw [z]; rfl))
   rw [Po hf] at hR
   have hb:∀ k∈ax said,k<sc.length:=λk hk=>by have:=Gy hk; omega
   exact Ad (AB (Ac.ev (B2 (Aa 1) (AA zj (hr.mono wE) (Ab (Aq (Aa 0) hq T.c_Follower.cls T.n_Follower_reached (MD m s ps sc)) (Ab (Aa 2) Ae)) ⟨sc,ax said,k,rfl,by omega,hb,hf,rfl⟩) (RN hf.1)) hR))
theorem X5 (Fn:As K "hear" "Follower.hear" L6 f fd)  (ja:Ah P w K mg base 5 "check_turn" (Ao EQ)) (jg:Ah P w K mg base 1 "charge" (Ao Fm)):AM P w K mg base AQ 6 f fd ["self","said","so"] (AN K (Ep CK0)):=by
 refine Bc (k:=5) Fn UT (λds O R h=>?_) (λcdv A outer s H E ds O R hr h=>?_)
 ·obtain ⟨_,_,_,_,_,_,_,rfl,_⟩:=h; rfl
 ·obtain ⟨jj,m,s,so,ps,sc,said,rfl,hO,hm,hs,hso,hl,hR⟩:=h
  have hs1:=hs.1
  have hzl:(sc.zip said).length<=63:=by rw [List.length_zip]; omega
  refine Ad (AX (Ac.ev (AA ja (hr.mono wE) (Ab (Aq (Aa 0) hO T.c_Follower.cls T.n_Follower_many (Jd m s ps sc)) (Ab (Aq (Aa 0) hO T.c_Follower.cls T.n_Follower_scale (Jb m s ps sc)) (Ab (Aa 1) (Ab (Aa 2) Ae)))) ⟨_,_,_,_,rfl,by assumption,by assumption,rfl⟩) ?_))
  refine Ad (Bw (BO T.b_tuple (Ab (BN (λp:Int×Option Int=>.int (p.1+BP p.2 so)) ["score","what"] ["so"] [2] (EG (FA (Aq (Aa 0) hO T.c_Follower.cls T.n_Follower_reached (MD m s ps sc)) (Aa 1) wB wB T.b_zip)) (by rw [sizeLine_eq]; omega) (by exact λq hq s H fp=>⟨[some _,some _],rfl,(BV (AU (AC 0 (show List.Nodup (["score","what","so"]:List Str) by decide +kernel)) (AU (AC 1 (show List.Nodup (["score","what","so"]:List Str) by decide +kernel)) BU))),⟨_,rfl,(Ak (Aa 0) (AA jg (hr.mono wE) (Ab (Aa 1) (Ab (Aa 2) Ae)) ⟨_,_,rfl,rfl⟩) Bs)⟩⟩)) Ae) (CD (by first | exact Or.inr rfl | exact Or.inl (Or.inl rfl) | exact Or.inl (Or.inr (Or.inl rfl)) | exact Or.inl (Or.inr (Or.inr ⟨_,rfl,by first | assumption | rfl⟩))))) (Aa 0) hO T.c_Follower.cls T.n_Follower_reached (by show 4<1000; decide) ?_)
  have e1:((sc.zip said).map λp:Int×Option Int=>D.int (p.1+BP p.2 so))=(Db said so sc).map D.int:=by
   unfold Db
   rw [List.map_map]
   rfl
  rw [e1,ZY]
  exact Au hR
theorem X6 (Fn:As K "anew" "Follower.anew" L7 f fd)  (ju:Cv P w K mg base CK0 6 "Follower" (F6 CK0)):AM P w K mg base AQ 8 f fd ["self"] (AN K (GR CK0)):=by
 refine Bc (k:=7) Fn UU (λds O R h=>?_) (λcdv A outer s H E ds O R hr h=>?_)
 ·obtain ⟨_,_,_,_,_,rfl,_⟩:=h; rfl
 ·obtain ⟨q,m,s,ps,sc,rfl,hq,hm,hs,hp,hR⟩:=h
  refine Ad (AB (Dc ju (hr.mono wE) (Ab (Aq (Aa 0) hq T.c_Follower.cls T.n_Follower_many (Jd m s ps sc)) (Ab (Aq (Aa 0) hq T.c_Follower.cls T.n_Follower_scale (Jb m s ps sc)) (Ab (Aq (Aa 0) hq T.c_Follower.cls T.n_Follower_push (Z0 m s ps sc)) Ae))) ⟨O.length,m,s,some ps,rfl,A7,hm,hs,hp,rfl,?_⟩))
  rw [B5]
  exact hR
theorem Xt (Fn:As K "are_alike" "are_alike" Lv f fd) (hm:mg "are_alike" = some (.ref f)) (hb:Binds K fd ["hands"] []):Ah P w K mg base 1 "are_alike" (O6 ⟨CK1,CK6,CK4,CK3,CK5,CK0⟩):=by
 refine AO (k:=0) Fn Ut hm hb (λds O R h=>?_) (λcdv A outer s H E ds O R hr h=>?_)
 ·obtain ⟨_,_,_,rfl,_⟩:=h; rfl
 ·obtain ⟨m,s,pv,rfl,hP,hl,hR⟩:=h
  have hz:pv.length<=sizeLine:=by rw [sizeLine_eq]; omega
  refine Ad (AW (Bk.cast (k':=false) (B9.t (Ea (Ct (Cb (AT T.b_isinstance (Ab (Aa 0) (Ab (EE T.b_tuple) Ae)) (Hz rfl)))) (λhbb=>(D9 (A1 (AT T.b_len (Ab (Aa 0) Ae) (Dm (by first | exact Or.inr rfl | exact Or.inl (Or.inl rfl) | exact Or.inl (Or.inr (Or.inl rfl)) | exact Or.inl (Or.inr (Or.inr ⟨_,rfl,by first | assumption | rfl⟩))))) Ai CC))))) (by show (false||decide _)=false; rw [List.length_map,decide_eq_false wF]; rfl)) (λhk=>by cases hk) (λ_=>Au ?_))
  have ea:(pv.map λ_=>true).all id=true:=by rw [List.all_map]; exact List.all_eq_true.mpr λ_ _=>rfl
  refine Ad (AW (Bk.cast (k':=false) (Ct (Cb (AT T.b_all (Ab (BN (λ_:Nat×Hv=>.bl true) ["hand"] [] [] (Bz (Aa 0) wB) hz (by exact λq hq s H fp=>⟨[some _],rfl,(AC 0 (show List.Nodup (["hand"]:List Str) by decide +kernel)),⟨_,rfl,(Q9 T.b_isinstance (Aa 0) (hP q hq).1 T.c_Hand T.c_Weigher T.c_Shifter T.c_Rounder T.m_Hand T.i_Hand_Hand T.i_Weigher_Hand T.i_Shifter_Hand T.i_Rounder_Hand T.c_Follower T.i_Follower_Hand)⟩⟩)) Ae) (HA (bs:=pv.map λ_=>true) (Or.inl (Or.inl (by rw [List.map_map]; rfl))))))) (by rw [ea]; rfl)) (λhk=>by cases hk) (λ_=>Au ?_))
  obtain ⟨x0,h0⟩:∃ x,pv[0]?=some x:=⟨_,List.getElem?_eq_getElem wF⟩
  have hx0:=hP x0 (List.mem_of_getElem? h0)
  have hat:Be (pv.map λx=>D.ptr x.1) 0=some (.ptr x0.1):=DZ (j:=0) (by rw [List.getElem?_map,h0]; rfl)
  obtain ⟨n0,ok0⟩:=hx0.2
  refine Ad (AB (Ac.ev (AT T.b_all (Ab (BN (λ_:Nat×Hv=>.bl (decide (((m:Nat):Int)=(m:Nat))&&decide (s=s))) ["hand"] ["hands"] [0] (Bz (Aa 0) wB) hz (by exact λq hq s H fp=>⟨[some _],rfl,(AC 0 (show List.Nodup (["hand","hands"]:List Str) by decide +kernel)),⟨_,rfl,(DH (CA (Gp T.c_Hand.cls T.c_Weigher.cls T.c_Shifter.cls T.c_Rounder.cls T.n_Hand_many T.n_Weigher_many T.n_Shifter_many T.n_Rounder_many T.c_Follower.cls T.n_Follower_many (Aa 0) (hP q hq).1 (hP q hq).2.choose_spec) (Gp T.c_Hand.cls T.c_Weigher.cls T.c_Shifter.cls T.c_Rounder.cls T.n_Hand_many T.n_Weigher_many T.n_Shifter_many T.n_Rounder_many T.c_Follower.cls T.n_Follower_many (B2 (Aa 1) Ai (hat)) hx0.1 ok0) CC) (λhbb=>(Dl (CA (Go T.c_Hand.cls T.c_Weigher.cls T.c_Shifter.cls T.c_Rounder.cls T.n_Hand_scale T.n_Weigher_scale T.n_Shifter_scale T.n_Rounder_scale T.c_Follower.cls T.n_Follower_scale (Aa 0) (hP q hq).1 (hP q hq).2.choose_spec) (Go T.c_Hand.cls T.c_Weigher.cls T.c_Shifter.cls T.c_Rounder.cls T.n_Hand_scale T.n_Weigher_scale T.n_Shifter_scale T.n_Rounder_scale T.c_Follower.cls T.n_Follower_scale (B2 (Aa 1) Ai (hat)) hx0.1 ok0) CC))))⟩⟩)) Ae) (HA (bs:=pv.map λ_=>true) (Or.inl (Or.inl (by rw [List.map_map,decide_eq_true rfl,decide_eq_true rfl]; rfl))))) ?_))
  rw [ea]
  exact hR
theorem Xb (Fn:As K "is_head" "is_head" Lc f fd) (hm:mg "is_head" = some (.ref f)) (hb:Binds K fd ["hands","head"] []):Ah P w K mg base 1 "is_head" (OO ⟨CK1,CK6,CK4,CK3,CK5,CK0⟩):=by
 refine AO (k:=0) Fn Uc hm hb (λds O R h=>?_) (λcdv A outer s H E ds O R hr h=>?_)
 ·obtain ⟨_,_,_,_,_,rfl,_⟩:=h; rfl
 ·obtain ⟨m,s,pv,hp,hd,rfl,hP,hD,hl,hR⟩:=h
  obtain ⟨x0,h0⟩:∃ x,pv[0]?=some x:=⟨_,List.getElem?_eq_getElem wF⟩
  have hx0:=hP x0 (List.mem_of_getElem? h0)
  have hat:Be (pv.map λx=>D.ptr x.1) 0=some (.ptr x0.1):=DZ (j:=0) (by rw [List.getElem?_map,h0]; rfl)
  obtain ⟨n0,ok0⟩:=hx0.2
  have hd0:=hD (hp,hd) (List.mem_singleton.mpr rfl)
  obtain ⟨n1,ok1⟩:=hd0.2
  refine Ad (AB (Ac.ev (DH (Q9 T.b_isinstance (Aa 1) hd0.1 T.c_Hand T.c_Weigher T.c_Shifter T.c_Rounder T.m_Hand T.i_Hand_Hand T.i_Weigher_Hand T.i_Shifter_Hand T.i_Rounder_Hand T.c_Follower T.i_Follower_Hand) (λhbb=>(DH (CA (Gp T.c_Hand.cls T.c_Weigher.cls T.c_Shifter.cls T.c_Rounder.cls T.n_Hand_many T.n_Weigher_many T.n_Shifter_many T.n_Rounder_many T.c_Follower.cls T.n_Follower_many (Aa 1) hd0.1 ok1) (AT T.b_len (Ab (Aa 0) Ae) (Dm (by first | exact Or.inr rfl | exact Or.inl (Or.inl rfl) | exact Or.inl (Or.inr (Or.inl rfl)) | exact Or.inl (Or.inr (Or.inr ⟨_,rfl,by first | assumption | rfl⟩))))) CC) (λhbb=>(Dl (CA (Go T.c_Hand.cls T.c_Weigher.cls T.c_Shifter.cls T.c_Rounder.cls T.n_Hand_scale T.n_Weigher_scale T.n_Shifter_scale T.n_Rounder_scale T.c_Follower.cls T.n_Follower_scale (Aa 1) hd0.1 ok1) (Go T.c_Hand.cls T.c_Weigher.cls T.c_Shifter.cls T.c_Rounder.cls T.n_Hand_scale T.n_Weigher_scale T.n_Shifter_scale T.n_Rounder_scale T.c_Follower.cls T.n_Follower_scale (B2 (Aa 0) Ai (hat)) hx0.1 ok0) CC)))))) ?_))
  rw [List.length_map,decide_eq_true rfl,decide_eq_true rfl]
  exact hR
theorem Xi (Fn:As K "check_tier" "check_tier" Lj f fd) (hm:mg "check_tier" = some (.ref f)) (hb:Binds K fd ["hands","head"] []) (zk:Ah P w K mg base 1 "are_alike" (O6 ⟨CK1,CK6,CK4,CK3,CK5,CK0⟩)) (zm:Ah P w K mg base 1 "is_head" (OO ⟨CK1,CK6,CK4,CK3,CK5,CK0⟩)):Ah P w K mg base 2 "check_tier" (Ot ⟨CK1,CK6,CK4,CK3,CK5,CK0⟩):=by
 refine AO (k:=1) Fn Ui hm hb (λds O R h=>?_) (λcdv A outer s H E ds O R hr h=>?_)
 ·obtain ⟨_,_,_,_,_,rfl,_⟩:=h; rfl
 ·obtain ⟨m,s,pv,hp,hd,rfl,hP,hD,hm,hs,hl,hR⟩:=h
  exact Ad (AW (Bk.cast (k':=false) (B9.t (Ea (Ct (Cb (Ev.evp (Ck zk (hr.mono wE) (Ab (Aa 0) Ae) ⟨m,s,pv,rfl,hP,hl,rfl,rfl⟩)))) (λhbb=>(D9 (Ct (Cb (Ev.evp (Ck zm (hr.mono wE) (Ab (Aa 0) (Ab (Aa 1) Ae)) ⟨m,s,pv,hp,hd,rfl,hP,hD,hl,rfl,rfl⟩)))))))) rfl) (λhk=>by cases hk) (λ_=>Au (Au hR)))
theorem XG (Fn:As K "__init__" "Tier.__init__" LI f fd)  (zn:Ah P w K mg base 2 "check_tier" (Ot ⟨CK1,CK6,CK4,CK3,CK5,CK0⟩)) (jl:Fg P w K mg base "Hand" 5 "__init__" (Fl (λC=>C=CK1\/C=CK6\/C=CK4\/C=CK3\/C=CK5\/C=CK0))) (kc:Al P w K mg base CK1 7 "anew" (GQ CK1)) (kf:Al P w K mg base CK6 9 "anew" (DQ CK6 CK4 false)) (kg:Al P w K mg base CK4 9 "anew" (DQ CK6 CK4 true)) (kh:Al P w K mg base CK3 8 "anew" (GP CK3)) (ki:Al P w K mg base CK0 8 "anew" (GR CK0)):AM P w K mg base AQ 10 f fd ["self","hands","head"] (AN K (Kf ⟨CK1,CK6,CK4,CK3,CK5,CK0⟩)):=by
 refine Bc (k:=9) Fn UD (λds O R h=>?_) (λcdv A outer s H E ds O R hr h=>?_)
 ·obtain ⟨_,_,_,_,_,_,_,rfl,_⟩:=h; rfl
 ·obtain ⟨q,m,s,pv,hp,hd,O0,rfl,rfl,rfl,hP,hD,hm,hs,hl,hR⟩:=h
  have hz:pv.length<=sizeLine:=by rw [sizeLine_eq]; omega
  have hmI:(1:Int)<=(m:Nat)/\((m:Nat):Int)<=24:=⟨by omega,by omega⟩
  refine Ad (AX (Ac.ev (Ev.evp (Ck zn (hr.mono wE) (Ab (Aa 1) (Ab (Aa 2) Ae)) ⟨m,s,pv,hp,hd,rfl,hP.app,hD.app,hm,hs,hl,rfl,rfl⟩)) ?_))
  obtain ⟨x0,h0⟩:∃ x,pv[0]?=some x:=⟨_,List.getElem?_eq_getElem wF⟩
  have hx0:=hP.app (Y:=[some (MO.ins CK5 [])]) x0 (List.mem_of_getElem? h0)
  have hat:Be (pv.map λx=>D.ptr x.1) 0=some (.ptr x0.1):=DZ (j:=0) (by rw [List.getElem?_map,h0]; rfl)
  obtain ⟨n0,ok0⟩:=hx0.2
  refine Ad (AX (Ho jl (hr.mono wE) (Ab (Aa 0) (Ab (Gp T.c_Hand.cls T.c_Weigher.cls T.c_Shifter.cls T.c_Rounder.cls T.n_Hand_many T.n_Weigher_many T.n_Shifter_many T.n_Rounder_many T.c_Follower.cls T.n_Follower_many (B2 (Aa 1) Ai (hat)) hx0.1 ok0) (Ab (Go T.c_Hand.cls T.c_Weigher.cls T.c_Shifter.cls T.c_Rounder.cls T.n_Hand_scale T.n_Weigher_scale T.n_Shifter_scale T.n_Rounder_scale T.c_Follower.cls T.n_Follower_scale (B2 (Aa 1) Ai (hat)) hx0.1 ok0) Ae))) ⟨O0.length,(m:Nat),s,CK5,rfl,.inr (.inr (.inr (.inr (.inl rfl)))),A7,hmI,hs,?_⟩))
  rw [B5]
  have sub:∀ Z,Dq ⟨CK1,CK6,CK4,CK3,CK5,CK0⟩ (O0++[some (MO.ins CK5 (BL (m:Nat) s))]++Z) m s pv:=λZ=>hP.app.app
  have gd:∀ Z,Dq ⟨CK1,CK6,CK4,CK3,CK5,CK0⟩ (O0++[some (MO.ins CK5 (BL (m:Nat) s))]++Z) pv.length s [(hp,hd)]:=λZ=>hD.app.app
  refine Ad (NC (q:=O0.length) (C:=CK5) (fs:=BL (m:Nat) s) (Q0m T.b_tuple (Fe (Q0j (λi=>.ptr (O0.length+1+i)) (λi=>O0++[some (MO.ins CK5 (BL (m:Nat) s))]++(pv.take i).map λx=>some (Cs.o ⟨CK1,CK6,CK4,CK3,CK5,CK0⟩ (m:Nat) s (Bn m x.2))) (by rw [List.take_zero,List.map_nil,List.append_nil]) ["hand"] [] [] (Bz (Aa 1) wB) hz ?turn (BK.as Ae ⟨_,CD (Or.inl (Or.inl rfl)),(Aa 0),IN,?_⟩)))) T.c_Tier.cls T.n_Tier_hands (by show 2<1000; decide))
  case turn=>
   intro i x hx s2 H2 fp
   have hi:=(List.getElem?_eq_some_iff.mp hx).1
   obtain ⟨n1,ok1⟩:=(hP x (List.mem_of_getElem? hx)).2
   refine ⟨[some (.ptr x.1)],rfl,AC 0 (show List.Nodup (["hand"]:List Str) by decide +kernel),ML kc kf kg kh (hr.mono wE) (hr.mono wE) (hr.mono wE) ki (hr.mono wE) (Aa 0) (sub _ x (List.mem_of_getElem? hx)).1 ok1 hm hs ⟨?_,?_⟩⟩
   ·show D.ptr _=D.ptr _
    congr 1
    rw [List.length_append,List.length_append,List.length_map,List.length_take]
    show O0.length+1+_=_
    omega
   ·show _=O0++_++List.map _ (pv.take (i+1))
    rw [List.take_succ,hx,List.map_append,<- List.append_assoc]
    rfl
  rw [Mo,Vt,List.take_of_length_le (Nat.le_refl _)]
  generalize hZ:(pv.map λx=>some (Cs.o ⟨CK1,CK6,CK4,CK3,CK5,CK0⟩ (m:Nat) s (Bn m x.2)))=Z
  have hZl:Z.length=pv.length:=by rw [<- hZ,List.length_map]
  have hd0:=hD (hp,hd) (List.mem_singleton.mpr rfl)
  obtain ⟨n2,ok2⟩:=hd0.2
  have hq2:∀ (y:Option MO) (Y:Af),(O0++[y]++Y)[hp]?=some (some (Cs.o ⟨CK1,CK6,CK4,CK3,CK5,CK0⟩ (pv.length:Nat) s hd)):=λy Y=>De (De hd0.1)
  refine Ad (NC (q:=O0.length) (C:=CK5) (fs:=GL (m:Nat) s (.tup ((List.range pv.length).map λi=>.ptr (O0.length+1+i)))) (ML kc kf kg kh (hr.mono wE) (hr.mono wE) (hr.mono wE) ki (hr.mono wE) (Aa 2) (hq2 _ _) ok2 hl hs ⟨(Aa 0),?_,?_⟩) T.c_Tier.cls T.n_Tier_head (by show 3<1000; decide))
  ·exact De IN
  rw [List.append_assoc (O0++_) Z,Mo,Vs,show (O0++[some (MO.ins CK5 (GL (m:Nat) s (.tup ((List.range pv.length).map λi=>.ptr (O0.length+1+i)))))]++Z).length=O0.length+1+pv.length by rw [List.length_append,List.length_append,hZl]; rfl]
  refine Ad (Bw (Ak (Cr (Ab Ai Ae)) (AT T.b_len (Ab (Aa 1) Ae) (Dm (by first | exact Or.inr rfl | exact Or.inl (Or.inl rfl) | exact Or.inl (Or.inr (Or.inl rfl)) | exact Or.inl (Or.inr (Or.inr ⟨_,rfl,by first | assumption | rfl⟩))))) (Ft (by rw [List.length_map]; omega) (by rw [List.length_map]; omega) (by simp) (by rw [sizeLine_eq,List.length_map,Int.toNat_natCast]; show 1*_<=_; omega))) (Aa 0) IN T.c_Tier.cls T.n_Tier_charged (by show 4<1000; decide) ?_)
  rw [Mo,List.length_map,Int.toNat_natCast,JN,Vw]
  refine Au ?_
  have e:Du ⟨CK1,CK6,CK4,CK3,CK5,CK0⟩ m s O0.length (pv.map (·.2)) hd=[some (MO.ins CK5 (Cg (m:Nat) s O0.length pv.length (List.replicate pv.length 0)))]++(Z++[some (Cs.o ⟨CK1,CK6,CK4,CK3,CK5,CK0⟩ (pv.length:Nat) s (Bn pv.length hd))]):=by
   unfold Du
   rw [List.length_map,List.map_map,<- hZ]
   rfl
  rw [e,<- List.append_assoc] at hR
  exact hR
theorem XD (Fn:As K "hand_charges" "Tier.hand_charges" LE f fd)  : AM P w K mg base AQ 1 f fd ["self"] (AN K (OZ ⟨CK1,CK6,CK4,CK3,CK5,CK0⟩)):=by
 refine Bc (k:=0) Fn UA (λds O R h=>?_) (λcdv A outer s H E ds O R hr h=>?_)
 ·obtain ⟨_,_,_,_,_,_,rfl,_⟩:=h; rfl
 ·obtain ⟨q,m,s,hs,hd,ch,rfl,hT,hR⟩:=h
  exact Ad (AB (Ac.ev (Aq (Aa 0) hT.o T.c_Tier.cls T.n_Tier_charged (NS _ _ _ _ _)) hR))
theorem XE (Fn:As K "ask" "Tier.ask" LG f fd)  (jw:Al P w K mg base CK1 6 "say" (B0 CK1 CK6 CK4 CK3)) (jn:Al P w K mg base CK6 6 "say" (B0 CK1 CK6 CK4 CK3)) (jo:Al P w K mg base CK4 6 "say" (B0 CK1 CK6 CK4 CK3)) (jx:Al P w K mg base CK3 6 "say" (B0 CK1 CK6 CK4 CK3)) (jy:Al P w K mg base CK0 5 "say" (F4 CK0)):AM P w K mg base AQ 7 f fd ["self","said"] (AN K (Km ⟨CK1,CK6,CK4,CK3,CK5,CK0⟩)):=by
 refine Bc (k:=6) Fn UB (λds O R h=>?_) (λcdv A outer s H E ds O R hr h=>?_)
 ·obtain ⟨_,_,_,_,_,_,_,_,rfl,_⟩:=h; rfl
 ·obtain ⟨q0,n,m,s,hs,hd,ch,said,rfl,hT,hk,hm,hsd,hR⟩:=h
  have hz:(List.range hs.length).length<=sizeLine:=by rw [sizeLine_eq,List.length_range]; have:=hk.l2; omega
  have hv:∀ i∈List.range hs.length,O[q0+1+i]?=some (some (Cs.o ⟨CK1,CK6,CK4,CK3,CK5,CK0⟩ (m:Nat) s (hs.getD i .h)))/\Br n m s (hs.getD i .h):=λi hi=>by
   have hi:=List.mem_range.mp hi
   have e:hs[i]?=some (hs.getD i .h):=by rw [List.getD_eq_getElem?_getD,List.getElem?_eq_getElem hi]; rfl
   exact ⟨hT.h i _ e,hk.h _ (List.mem_of_getElem? e)⟩
  refine Ad (AB (Ac.ev (BO T.b_tuple (Ab (BN (λi:Nat=>.int (C7 m said (hs.getD i .h))) ["hand"] ["said"] [1] (Bz (Aq (Aa 0) hT.o T.c_Tier.cls T.n_Tier_hands (JY _ _ _ _ _)) wB) hz (by exact λq hq s H fp=>⟨[some _],rfl,(AC 0 (show List.Nodup (["hand","said"]:List Str) by decide +kernel)),⟨_,rfl,(MJ jw jn jo jx (hr.mono wE) jy (hr.mono wE) (Aa 0) (hv q hq).1 (hv q hq).2 hm hsd (Ab (Aa 1) Ae))⟩⟩)) Ae) (CD (by first | exact Or.inr rfl | exact Or.inl (Or.inl rfl) | exact Or.inl (Or.inr (Or.inl rfl)) | exact Or.inl (Or.inr (Or.inr ⟨_,rfl,by first | assumption | rfl⟩))))) ?_))
  have e:((List.range hs.length).map λi:Nat=>D.int (C7 m said (hs.getD i .h)))=(BA m said hs).map D.int:=by
   unfold BA
   rw [List.map_map]
   refine List.ext_getElem? λi=>?_
   rw [List.getElem?_map,List.getElem?_map]
   by_cases hi:i<hs.length
   ·rw [List.getElem?_range hi,List.getElem?_eq_getElem hi]
    show some (D.int (C7 m said (hs.getD i .h)))=some (D.int (C7 m said hs[i]))
    rw [List.getD_eq_getElem?_getD,List.getElem?_eq_getElem hi]
    rfl
   ·rw [List.getElem?_eq_none (by rw [List.length_range]; omega),List.getElem?_eq_none wF]
    rfl
  rw [e]
  exact hR
theorem XA (Fn:As K "say" "Tier.say" LC f fd)  (jk:Ah P w K mg base 4 "check_said" (Ao GO)) (ky:Al P w K mg base CK5 7 "ask" (Km ⟨CK1,CK6,CK4,CK3,CK5,CK0⟩)) (jw:Al P w K mg base CK1 6 "say" (B0 CK1 CK6 CK4 CK3)) (jn:Al P w K mg base CK6 6 "say" (B0 CK1 CK6 CK4 CK3)) (jo:Al P w K mg base CK4 6 "say" (B0 CK1 CK6 CK4 CK3)) (jx:Al P w K mg base CK3 6 "say" (B0 CK1 CK6 CK4 CK3)) (jy:Al P w K mg base CK0 5 "say" (F4 CK0)):AM P w K mg base AQ 9 f fd ["self","said"] (AN K (J8 ⟨CK1,CK6,CK4,CK3,CK5,CK0⟩)):=by
 refine Bc (k:=8) Fn Uz (λds O R h=>?_) (λcdv A outer s H E ds O R hr h=>?_)
 ·obtain ⟨_,_,_,_,_,_,_,_,rfl,_⟩:=h; rfl
 ·obtain ⟨q,n,m,s,hs,hd,ch,said,rfl,hT,hk,hm,h0,hsd,hR⟩:=h
  refine Ad (AX (Ac.ev (AA jk (hr.mono wE) (Ab (Aq (Aa 0) hT.o T.c_Tier.cls T.n_Tier_many (JW _ _ _ _ _)) (Ab (Aq (Aa 0) hT.o T.c_Tier.cls T.n_Tier_scale (JV _ _ _ _ _)) (Ab (Aa 1) Ae))) ⟨_,_,_,rfl,by assumption,rfl⟩) ?_))
  have hak:=Jw hk.h hk.l2 hsd h0
  refine Ad (AB (Ac.ev (MJ jw jn jo jx (hr.mono wE) jy (hr.mono wE) (Aq (Aa 0) hT.o T.c_Tier.cls T.n_Tier_head (JX _ _ _ _ _)) hT.d hk.d ⟨hk.l1,hk.l2⟩ hak (Ab (Ac.cast (Ev.evp (CN ky (hr.mono wE) (Aa 0) hT.o (F0 _ _ _ _ _ wD) (Ab (Aa 1) Ae) ⟨q,n,m,s,hs,hd,ch,said,rfl,hT,hk,hm,hsd,rfl,rfl⟩)) (congrArg D.tup (RQ _).symm)) Ae)) hR))
theorem XB (Fn:As K "hear" "Tier.hear" LD f fd)  (ja:Ah P w K mg base 5 "check_turn" (Ao EQ)) (jg:Ah P w K mg base 1 "charge" (Ao Fm)) (ky:Al P w K mg base CK5 7 "ask" (Km ⟨CK1,CK6,CK4,CK3,CK5,CK0⟩)) (jb:Al P w K mg base CK1 6 "hear" (Eo CK1)) (jc:Al P w K mg base CK6 8 "hear" (Cp CK6 CK4 false)) (jd:Al P w K mg base CK4 8 "hear" (Cp CK6 CK4 true)) (je:Al P w K mg base CK3 6 "hear" (En CK3)) (jf:Al P w K mg base CK0 6 "hear" (Ep CK0)):AM P w K mg base AQ 10 f fd ["self","said","so"] (AN K (Im ⟨CK1,CK6,CK4,CK3,CK5,CK0⟩)):=by
 refine Bc (k:=9) Fn Ku (λds O R h=>?_) (λcdv A outer s H E ds O R hr h=>?_)
 ·obtain ⟨_,_,_,_,_,_,_,_,_,rfl,_⟩:=h; rfl
 ·obtain ⟨q0,n,m,s,so,hs,hd,ch,said,rfl,hT,hk,hn,hm,hsd,hso,hR⟩:=h
  have h0:0<=s:=by omega
  have hak:=Jw hk.h hk.l2 hsd h0
  refine Ad (AX (Ac.ev (AA ja (hr.mono wE) (Ab (Aq (Aa 0) hT.o T.c_Tier.cls T.n_Tier_many (JW _ _ _ _ _)) (Ab (Aq (Aa 0) hT.o T.c_Tier.cls T.n_Tier_scale (JV _ _ _ _ _)) (Ab (Aa 1) (Ab (Aa 2) Ae)))) ⟨_,_,_,_,rfl,by assumption,by assumption,rfl⟩) ?_))
  refine Ad (AJ 3 (Ac.ev (Ev.evp (CN ky (hr.mono wE) (Aa 0) hT.o (F0 _ _ _ _ _ wD) (Ab (Aa 1) Ae) ⟨q0,n,m,s,hs,hd,ch,said,rfl,hT,hk,hm,hsd,rfl,rfl⟩)) ?_) Ku.nd)
  refine Ad (AX (Gq jb jc jd je (hr.mono wE) (hr.mono wE) (hr.mono wE) jf (hr.mono wE) (Aq (Aa 0) hT.o T.c_Tier.cls T.n_Tier_head (JX _ _ _ _ _)) hT.d hk.d hn ⟨hk.l1,hk.l2⟩ hak hso (Ab (Ac.cast (Aa 3) (congrArg D.tup (RQ _).symm)) (Ab (Aa 2) Ae)) ?_))
  have b1:EO q0 hs.length O (O.set (q0+1+hs.length) (some (Cs.o ⟨CK1,CK6,CK4,CK3,CK5,CK0⟩ (hs.length:Nat) s (BI (Bp (BA m said hs)) so hd)))):=(EO.refl _ _ _).set wF (Nat.le_refl _)
  have i1:(O.set (q0+1+hs.length) (some (Cs.o ⟨CK1,CK6,CK4,CK3,CK5,CK0⟩ (hs.length:Nat) s (BI (Bp (BA m said hs)) so hd))))[q0]?=some (some (.ins CK5 (Cg (m:Nat) s q0 hs.length ch))):=by rw [List.getElem?_set_ne wF]; exact hT.o
  have i2:(O.set (q0+1+hs.length) (some (Cs.o ⟨CK1,CK6,CK4,CK3,CK5,CK0⟩ (hs.length:Nat) s (BI (Bp (BA m said hs)) so hd))))[q0+1+hs.length]?=some (some (Cs.o ⟨CK1,CK6,CK4,CK3,CK5,CK0⟩ (hs.length:Nat) s (BI (Bp (BA m said hs)) so hd))):=BG hT.d
  have i3:∀ j v,hs[j]?=some v->(O.set (q0+1+hs.length) (some (Cs.o ⟨CK1,CK6,CK4,CK3,CK5,CK0⟩ (hs.length:Nat) s (BI (Bp (BA m said hs)) so hd))))[q0+1+j]?=some (some (Cs.o ⟨CK1,CK6,CK4,CK3,CK5,CK0⟩ (m:Nat) s v)):=λj v hv=>by
   have:=(List.getElem?_eq_some_iff.mp hv).1
   rw [List.getElem?_set_ne wF]; exact hT.h j v hv
  have hd':DV CK1 CK6 CK4 CK3 CK0 (hs.length:Nat) s (BI (Bp (BA m said hs)) so hd)=Cs.o ⟨CK1,CK6,CK4,CK3,CK5,CK0⟩ (hs.length:Nat) s (BI (Bp (BA m said hs)) so hd):=rfl
  rw [hd']
  generalize O.set (q0+1+hs.length) (some (Cs.o ⟨CK1,CK6,CK4,CK3,CK5,CK0⟩ (hs.length:Nat) s (BI (Bp (BA m said hs)) so hd)))=O1 at b1 i1 i2 i3
  have hasl:(BA m said hs).length=hs.length:=List.length_map ..
  refine Ad (C5 (Bz (Aq (Aa 0) i1 T.c_Tier.cls T.n_Tier_hands (JY _ _ _ _ _)) wB) (λi ρ O'=>(∃ v:Option D,ρ=[some (.ptr q0),some (.tup (said.map od)),some (.int so),some (.tup ((BA m said hs).map D.int)),v])/\EO q0 hs.length O O'/\O'[q0]?=some (some (.ins CK5 (Cg (m:Nat) s q0 hs.length ch)))/\O'[q0+1+hs.length]?=some (some (Cs.o ⟨CK1,CK6,CK4,CK3,CK5,CK0⟩ (hs.length:Nat) s (BI (Bp (BA m said hs)) so hd)))/\∀ j v,hs[j]?=some v->O'[q0+1+j]?=some (some (Cs.o ⟨CK1,CK6,CK4,CK3,CK5,CK0⟩ (m:Nat) s (if j<i then BI said so v else v)))) ⟨⟨_,rfl⟩,b1,i1,i2,λj v hv=>by rw [if_neg (Nat.not_lt_zero _)]; exact i3 j v hv⟩ ?_ ?_)
  ·clear i1 i2 i3 b1
   rintro i z ρ O' hz ⟨⟨v4,rfl⟩,bk,j1,j2,j3⟩
   rw [List.getElem?_map] at hz
   obtain ⟨i',hi',rfl⟩:=Option.map_eq_some_iff.mp hz
   have hil:i<hs.length:=by have:=(List.getElem?_eq_some_iff.mp hi').1; rw [List.length_range] at this; exact this
   rw [List.getElem?_range hil] at hi'
   cases hi'
   obtain ⟨v,hv⟩:∃ v,hs[i]?=some v:=⟨_,List.getElem?_eq_getElem hil⟩
   have jv:=j3 i v hv
   rw [if_neg (Nat.lt_irrefl _)] at jv
   refine ⟨_,AC 4 Ku.nd,?_⟩
   refine Ad (AX (Gq jb jc jd je (hr.mono wE) (hr.mono wE) (hr.mono wE) jf (hr.mono wE) (Aa 4) jv (hk.h v (List.mem_of_getElem? hv)) hn hm hsd hso (Ab (Aa 1) (Ab (Aa 2) Ae)) ?_))
   refine Au ⟨⟨_,rfl⟩,bk.set wF wF,by rw [List.getElem?_set_ne wF]; exact j1,by rw [List.getElem?_set_ne wF]; exact j2,λj w hw=>?_⟩
   by_cases hj:j=i
   ·subst hj
    rw [hv] at hw
    cases hw
    rw [if_pos (Nat.lt_succ_self _)]
    exact BG jv
   ·rw [List.getElem?_set_ne wF,j3 j w hw]
    by_cases hji:j<i
    ·rw [if_pos hji,if_pos wF]
    ·rw [if_neg hji,if_neg wF]
  ·clear i1 i2 i3 b1
   rintro ρ O' ⟨⟨v4,rfl⟩,bk,j1,j2,j3⟩
   rw [List.length_map,List.length_range] at j3
   have hzl:(ch.zip (BA m said hs)).length<=63:=by rw [List.length_zip,hasl]; have:=hk.l2; omega
   refine Ad (Bw (BO T.b_tuple (Ab (BN (λx:Int×Int=>.int (x.1+ab (x.2-so))) ["charged","saying"] ["so"] [2] (EG (FA (Aq (Aa 0) j1 T.c_Tier.cls T.n_Tier_charged (NS _ _ _ _ _)) (Aa 3) wB wB T.b_zip)) (by rw [sizeLine_eq]; omega) (by exact λq hq s H fp=>⟨[some _,some _],rfl,(BV (AU (AC 0 (show List.Nodup (["charged","saying","so"]:List Str) by decide +kernel)) (AU (AC 1 (show List.Nodup (["charged","saying","so"]:List Str) by decide +kernel)) BU))),⟨_,rfl,(Ak (Aa 0) (AA jg (hr.mono wE) (Ab (Aa 1) (Ab (Aa 2) Ae)) ⟨some q.2,so,rfl,rfl⟩) Bs)⟩⟩)) Ae) (CD (by first | exact Or.inr rfl | exact Or.inl (Or.inl rfl) | exact Or.inl (Or.inr (Or.inl rfl)) | exact Or.inl (Or.inr (Or.inr ⟨_,rfl,by first | assumption | rfl⟩))))) (Aa 0) j1 T.c_Tier.cls T.n_Tier_charged (by show 5<1000; decide) ?_)
   have e1:((ch.zip (BA m said hs)).map λx:Int×Int=>D.int (x.1+ab (x.2-so)))=(Ey m said so hs ch).map D.int:=by
    unfold Ey
    rw [List.map_map]
    rfl
   rw [e1,SO]
   refine Au (hR _ (bk.set (Nat.le_refl _) wF) ⟨?_,λi v hv=>?_,?_⟩)
   ·rw [List.length_map]; exact BG j1
   ·rw [List.getElem?_map] at hv
    obtain ⟨w,hw,rfl⟩:=Option.map_eq_some_iff.mp hv
    rw [List.getElem?_set_ne wF,j3 i w hw,if_pos (List.getElem?_eq_some_iff.mp hw).1]
   ·rw [List.length_map,List.getElem?_set_ne wF]; exact j2
theorem XF (Fn:As K "anew" "Tier.anew" LH f fd)  (kz:Cv P w K mg base CK5 10 "Tier" (Kf ⟨CK1,CK6,CK4,CK3,CK5,CK0⟩)):AM P w K mg base AQ 12 f fd ["self"] (AN K (Kn ⟨CK1,CK6,CK4,CK3,CK5,CK0⟩)):=by
 refine Bc (k:=11) Fn UC (λds O R h=>?_) (λcdv A outer s H E ds O R hr h=>?_)
 ·obtain ⟨_,_,_,_,_,_,_,rfl,_⟩:=h; rfl
 ·obtain ⟨q,n,m,s,hs,hd,ch,rfl,hT,hk,hm,hs1,hR⟩:=h
  have hpl:((List.range hs.length).map λi=>(q+1+i,hs.getD i Hv.h)).length=hs.length:=by rw [List.length_map,List.length_range]
  have hp2:((List.range hs.length).map λi=>(q+1+i,hs.getD i Hv.h)).map (·.2)=hs:=by rw [List.map_map]; exact PH hs .h
  have hp1:((List.range hs.length).map λi=>(q+1+i,hs.getD i Hv.h)).map (λx=>D.ptr x.1)=(List.range hs.length).map λi=>D.ptr (q+1+i):=by rw [List.map_map]; rfl
  have hPv:Dq ⟨CK1,CK6,CK4,CK3,CK5,CK0⟩ O m s ((List.range hs.length).map λi=>(q+1+i,hs.getD i Hv.h)):=λx hx=>by
   obtain ⟨i,hi,rfl⟩:=List.mem_map.mp hx
   have hi:=List.mem_range.mp hi
   have e:hs[i]?=some (hs.getD i .h):=by rw [List.getD_eq_getElem?_getD,List.getElem?_eq_getElem hi]; rfl
   exact ⟨hT.h i _ e,n,hk.h _ (List.mem_of_getElem? e)⟩
  generalize ((List.range hs.length).map λi=>(q+1+i,hs.getD i Hv.h))=pv at hpl hp2 hp1 hPv
  refine Ad (AB (Dc kz (hr.mono wE) (Ab (Aq (Aa 0) hT.o T.c_Tier.cls T.n_Tier_hands (JY _ _ _ _ _)) (Ab (Aq (Aa 0) hT.o T.c_Tier.cls T.n_Tier_head (JX _ _ _ _ _)) Ae)) ⟨O.length,m,s,pv,q+1+hs.length,hd,O,by rw [hp1],rfl,rfl,hPv,λx hx=>?_,hm,hs1,by rw [hpl]; exact ⟨hk.l1,hk.l2⟩,rfl,?_⟩))
  ·rw [List.mem_singleton.mp hx,hpl]; exact ⟨hT.d,n,hk.d⟩
  ·rw [hp2]; exact hR
theorem WD (Fn:As K "ran" "ran" KJ f fd) (hm:mg "ran" = some (.ref f)) (hb:Binds K fd ["hand","turns"] []) (zo:Ah P w K mg base 5 "check_turns" (Ao OY)) (kc:Al P w K mg base CK1 7 "anew" (GQ CK1)) (jw:Al P w K mg base CK1 6 "say" (B0 CK1 CK6 CK4 CK3)) (jb:Al P w K mg base CK1 6 "hear" (Eo CK1)) (kf:Al P w K mg base CK6 9 "anew" (DQ CK6 CK4 false)) (jn:Al P w K mg base CK6 6 "say" (B0 CK1 CK6 CK4 CK3)) (jc:Al P w K mg base CK6 8 "hear" (Cp CK6 CK4 false)) (kg:Al P w K mg base CK4 9 "anew" (DQ CK6 CK4 true)) (jo:Al P w K mg base CK4 6 "say" (B0 CK1 CK6 CK4 CK3)) (jd:Al P w K mg base CK4 8 "hear" (Cp CK6 CK4 true)) (kh:Al P w K mg base CK3 8 "anew" (GP CK3)) (jx:Al P w K mg base CK3 6 "say" (B0 CK1 CK6 CK4 CK3)) (je:Al P w K mg base CK3 6 "hear" (En CK3)) (zp:Al P w K mg base CK5 12 "anew" (Kn ⟨CK1,CK6,CK4,CK3,CK5,CK0⟩)) (zq:Al P w K mg base CK5 9 "say" (J8 ⟨CK1,CK6,CK4,CK3,CK5,CK0⟩)) (gc:Al P w K mg base CK5 10 "hear" (Im ⟨CK1,CK6,CK4,CK3,CK5,CK0⟩)) (ki:Al P w K mg base CK0 8 "anew" (GR CK0)) (jy:Al P w K mg base CK0 5 "say" (F4 CK0)) (jf:Al P w K mg base CK0 6 "hear" (Ep CK0)):Ah P w K mg base 13 "ran" (Ij ⟨CK1,CK6,CK4,CK3,CK5,CK0⟩):=by
 refine AO (k:=12) Fn GV hm hb (λds O R h=>?_) (λcdv A outer s H E ds O R hr h=>?_)
 ·obtain ⟨_,_,_,_,_,_,rfl,_⟩:=h; rfl
 ·obtain ⟨q0,n,m,s,x,ts,rfl,hW,hok,hm,hs,hts,htl,hR⟩:=h
  have hev:=FB hok hm.2 hts
  have hsz:=λi hi=>Kr (m:=m) (x:=x) (ts:=ts) i hi
  refine Fj ?_
  refine Ad (AX (Ac.ev (AA zo (hr.mono wE) (Ab (Q0d (C:=⟨CK1,CK6,CK4,CK3,CK5,CK0⟩) T.c_Hand.cls T.c_Weigher.cls T.c_Shifter.cls T.c_Rounder.cls T.n_Hand_many T.n_Weigher_many T.n_Shifter_many T.n_Rounder_many T.c_Follower.cls T.n_Follower_many T.c_Tier.cls T.n_Tier_many (Aa 0) hW hok) (Ab (Q0a (C:=⟨CK1,CK6,CK4,CK3,CK5,CK0⟩) T.c_Hand.cls T.c_Weigher.cls T.c_Shifter.cls T.c_Rounder.cls T.n_Hand_scale T.n_Weigher_scale T.n_Shifter_scale T.n_Rounder_scale T.c_Follower.cls T.n_Follower_scale T.c_Tier.cls T.n_Tier_scale (Aa 0) hW hok) (Ab (Aa 1) Ae))) ⟨m,s,ts,rfl,hm.2,hts,rfl⟩) ?_))
  refine Ad (AJ 2 (Q0n (C:=⟨CK1,CK6,CK4,CK3,CK5,CK0⟩) kc kf kg kh (hr.mono wE) (hr.mono wE) (hr.mono wE) ki (hr.mono wE) zp (hr.mono wE) (Aa 0) hW hok hm hs λB hB hA=>?_) GV.nd)
  refine Ad (AJ 3 (Jh Ae ?_) GV.nd)
  have hOB:(O++B).length=O.length+Cq x:=by rw [List.length_append,hB]
  refine Ad (C5 (Bz (Aa 1) wB) (λi ρ O'=>∃ (B:Af) (v1 v2:Option D),ρ=[some (.ptr q0),some (.tup (ts.map tD)),some (.ptr O.length),some (.ptr (O.length+Cq x)),v1,v2]/\B.length=Cq x/\O'=O++B++[some (MO.lst (((List.range i).map (B6 m x ts)).map D.int))]/\CG ⟨CK1,CK6,CK4,CK3,CK5,CK0⟩ O' O.length m s (C0 m x ts i)) ⟨B,_,_,by rw [hOB]; rfl,hB,rfl,hA _⟩ ?_ ?_)
  ·clear hA hB hOB B
   rintro i z ρ O' hx ⟨B,v1,v2,rfl,hB,rfl,hA⟩
   rw [List.getElem?_map] at hx
   obtain ⟨tn,hq,rfl⟩:=Option.map_eq_some_iff.mp hx
   have hi:=(List.getElem?_eq_some_iff.mp hq).1
   have hok1:=hts tn (List.mem_of_getElem? hq)
   have he:=hev i wF
   have hz:=hsz i wF
   have hsay:B6 m x ts i=F8 m tn.1 (C0 m x ts i):=by unfold B6; rw [Dh hq]
   rw [Hs hq,List.range_succ,List.map_append,List.map_append,List.map_cons,List.map_nil,hsay]
   generalize C0 m x ts i=y at he hA hz
   generalize hLg:(List.range i).map (B6 m x ts)=L at hA
   have hLl:L.length=i:=by rw [<- hLg,List.length_map,List.length_range]
   have hl0:(O++B).length=O.length+Cq x:=by rw [List.length_append,hB]
   have hq1:∀ l:List D,(O++B++[some (MO.lst l)])[O.length+Cq x]?=some (some (.lst l)):=λl=>by rw [<- hl0]; exact A7
   refine ⟨_,BV (AU (AC 4 GV.nd) (AU (AC 5 GV.nd) BU)),?_⟩
   refine Ad (HV (Aa 3) (hq1 _) (Q0b (C:=⟨CK1,CK6,CK4,CK3,CK5,CK0⟩) jw jn jo jx (hr.mono wE) jy (hr.mono wE) zq (hr.mono wE) (Aa 2) hA he hm wF (hok1.said hm.2) (Ab (Aa 4) Ae)) (by rw [sizeLine_eq,List.length_map]; omega) ?_)
   rw [<- hl0,B5,hl0]
   have hA2:CG ⟨CK1,CK6,CK4,CK3,CK5,CK0⟩ (O++B++[some (MO.lst (L.map D.int++[.int (F8 m tn.1 y)]))]) O.length m s y:=hA.in_ (B':=[]) (by rw [hz]; exact hB)
   refine Ad (AX (Ra (C:=⟨CK1,CK6,CK4,CK3,CK5,CK0⟩) jb jc jd je (hr.mono wE) (hr.mono wE) (hr.mono wE) jf (hr.mono wE) gc (hr.mono wE) (Aa 2) hA2 he wF hm (hok1.said hm.2) hok1.2.2 (Ab (Aa 4) (Ab (Aa 5) Ae)) λO' hb hA3=>?_))
   rw [hz] at hb
   obtain ⟨B',hB',rfl⟩:=hb.split rfl hB
   exact Au ⟨B',_,_,rfl,hB',by rw [show [D.int (F8 m tn.1 y)]=List.map D.int [F8 m tn.1 y] from rfl],hA3⟩
  ·rintro ρ O' ⟨B,v1,v2,rfl,hB,rfl,hA⟩
   rw [List.length_map]
   have hl0:(O++B).length=O.length+Cq x:=by rw [List.length_append,hB]
   generalize (List.range ts.length).map (B6 m x ts)=L at hR
   have q1:(O++B++[some (MO.lst (L.map D.int))])[O.length+Cq x]?=some (some (.lst (L.map D.int))):=by rw [<- hl0]; exact A7
   refine Ad (AB (Ac.ev (BO T.b_tuple (Ab (Aa 3) Ae) (CD (by first | exact Or.inr rfl | exact Or.inl (Or.inl rfl) | exact Or.inl (Or.inr (Or.inl rfl)) | exact Or.inl (Or.inr (Or.inr ⟨_,rfl,by first | assumption | rfl⟩))))) ?_))
   exact ⟨⟨_,List.append_assoc ..⟩,Yc _,hR⟩
theorem Wv (Fn:As K "word_of" "word_of" KA f fd) (hm:mg "word_of" = some (.ref f)) (hb:Binds K fd ["what"] []):Ah P w K mg base 1 "word_of" (Ao Oj):=by
 refine AO (k:=0) Fn TW hm hb (λds O R h=>?_) (λcdv A outer s H E ds O R hr h=>?_)
 ·obtain ⟨_,⟨_,rfl,_⟩,_⟩:=h; rfl
 ·obtain ⟨d,⟨w,rfl,hw,rfl⟩,hR⟩:=h
  cases w with
  | none=>
   refine Ad (AW (A1 (Aa 0) CY EI) (λ_=>?_) (λhk=>by cases hk))
   exact Ad (AB (Ac.ev (Gr T.g_ASLEEP.choose_spec) hR))
  | some i=>
   obtain ⟨h0,h1⟩:=hw i rfl
   refine Ad (AW (A1 (Aa 0) CY EI) (λhk=>by cases hk) (λ_=>Au ?_))
   exact Ad (AB (Ac.ev (BO T.b_str (Ab (Aa 0) Ae) (Hy ⟨by omega,by omega⟩)) hR))
theorem WA (Fn:As K "row_of" "row_of" KG f fd) (hm:mg "row_of" = some (.ref f)) (hb:Binds K fd ["said","so"] []) (zr:Ah P w K mg base 1 "word_of" (Ao Oj)):Ah P w K mg base 2 "row_of" (Ao OA):=by
 refine AO (k:=1) Fn T0 hm hb (λds O R h=>?_) (λcdv A outer s H E ds O R hr h=>?_)
 ·obtain ⟨_,⟨_,_,_,rfl,_⟩,_⟩:=h; rfl
 ·obtain ⟨d,⟨m,sc,t,rfl,hG,hm,hs,rfl⟩,hR⟩:=h
  have hl:=hG.len
  have h0:=hG.so0
  have h1:=hG.so1
  have hok:JoinOk " " (Bb t)=true:=by
   have h2:=Fk (g:=λw:Str=>w.length) (B:=2) (l:=Bb t) λw hw=>(G6 hG hs w hw).2
   have h3:=FS t
   have h4:((" " : Str)).length=1:=by decide +kernel
   refine DL.joinOk_of ?_
   rw [h4]
   omega
  have e:D.lst ((t.1.map λw=>D.str (Cw w))++[.str ":",.str (nS t.2)])=D.lst ((Bb t).map D.str):=by
   unfold Bb
   rw [List.map_append,List.map_map]
   rfl
  exact Ad (AB (Ac.ev (Jj (ys:=Bb t) CM (Ac.cast (Ak (BN (λw:Option Int=>.str (Cw w)) ["what"] [] [] (Bz (Aa 0) wB) (by rw [sizeLine_eq]; omega) (by exact λq hq s H fp=>⟨[some _],rfl,(AC 0 (show List.Nodup (["what"]:List Str) by decide +kernel)),⟨_,rfl,(AA zr (hr.mono wE) (Ab (Aa 0) Ae) ⟨q,rfl,λi hi=>by have:=hG.say q hq i hi; omega,rfl⟩)⟩⟩)) (Ji (Ab (Gr T.g_COLON.choose_spec) (Ab (BO T.b_str (Ab (Aa 1) Ae) (Hy ⟨by omega,by omega⟩)) Ae))) (Yb (by rw [List.length_map,sizeLine_eq]; show _+2<=_; omega))) e) (Or.inl rfl) hok) hR))
theorem Wu (Fn:As K "written" "written" Kz f fd) (hm:mg "written" = some (.ref f)) (hb:Binds K fd ["turns"] []) (zt:Ah P w K mg base 2 "row_of" (Ao OA)):Ah P w K mg base 3 "written" (Ao Oi):=by
 refine AO (k:=2) Fn TV hm hb (λds O R h=>?_) (λcdv A outer s H E ds O R hr h=>?_)
 ·obtain ⟨_,⟨_,_,_,rfl,_⟩,_⟩:=h; rfl
 ·obtain ⟨d,⟨m,sc,ts,rfl,hG,hm,hs,htl,rfl⟩,hR⟩:=h
  have hok:JoinOk "\n" (ts.map Ba)=true:=by
   have h2:=Fk (g:=λw:Str=>w.length) (B:=78) (l:=ts.map Ba) λw hw=>by obtain ⟨u,hu,rfl⟩:=List.mem_map.mp hw; exact G0 (hG u hu) hs hm
   have h4:(("\n" : Str)).length=1:=by decide +kernel
   rw [List.length_map] at h2
   refine DL.joinOk_of ?_
   rw [h4,List.length_map]
   omega
  have e:D.lst (ts.map λt=>D.str (Ba t))=D.lst ((ts.map Ba).map D.str):=by rw [List.map_map]; rfl
  exact Ad (AB (Ac.ev (Jj (ys:=ts.map Ba) CM (Ac.cast (BN (λt:Tn=>.str (Ba t)) ["said","so"] [] [] (Bz (Aa 0) wB) (by rw [sizeLine_eq]; omega) (by exact λq hq s H fp=>⟨[some _,some _],rfl,(BV (AU (AC 0 (show List.Nodup (["said","so"]:List Str) by decide +kernel)) (AU (AC 1 (show List.Nodup (["said","so"]:List Str) by decide +kernel)) BU))),⟨_,rfl,(AA zt (hr.mono wE) (Ab (Aa 0) (Ab (Aa 1) Ae)) ⟨m,sc,q,rfl,hG q hq,hm,hs,rfl⟩)⟩⟩)) e) (Or.inl rfl) hok) hR))
theorem Xa (Fn:As K "is_in_figures" "is_in_figures" Lb f fd) (hm:mg "is_in_figures" = some (.ref f)) (hb:Binds K fd ["most","word"] []):Ah P w K mg base 1 "is_in_figures" (Ao OW):=by
 refine AO (k:=0) Fn Ub hm hb (λds O R h=>?_) (λcdv A outer s H E ds O R hr h=>?_)
 ·obtain ⟨_,⟨_,_,rfl,_⟩,_⟩:=h; rfl
 ·obtain ⟨d,⟨most,x,rfl,hz,rfl⟩,hR⟩:=h
  have hn:=sizeLine_eq
  have hz':x.length<=sizeLine:=by omega
  unfold ED at hR
  refine Ad (AW (B9.t (Ea (A1 (AT T.b_len (Ab (Aa 1) Ae) (Ju hz')) Ai CC) (λhbb=>(D9 (A1 (AT T.b_len (Ab (Aa 1) Ae) (Ju hz')) (Aa 0) Gx))))) (λhk=>?_) (λhk=>Au ?_))
  ·rw [if_pos hk] at hR
   exact Ad (AB (Ac.ev Fd hR))
  rw [if_neg (by rw [hk]; exact Bool.false_ne_true)] at hR
  refine Ad (AW (Ct (Cb (AT T.b_all (Ab (BN (λc:Nat=>.bl (decide (c∈Fz))) ["sign"] [] [] (Q0C (Aa 1)) (by rw [Array.length_toList]; show x.length<=_; exact hz') (by exact λq hq s H fp=>⟨[some _],rfl,(AC 0 (show List.Nodup (["sign"]:List Str) by decide +kernel)),⟨_,rfl,(CA (Aa 0) (Gr T.g_FIGURES.choose_spec) Q1h)⟩⟩)) Ae) (HA (bs:=x.cps.toList.map λc=>decide (c∈Fz)) (Or.inl (Or.inl (by rw [List.map_map]; rfl))))))) (λhk2=>?_) (λhk2=>Au ?_))
  ·rw [if_pos hk2] at hR
   exact Ad (AB (Ac.ev Fd hR))
  rw [if_neg (by rw [hk2]; exact Bool.false_ne_true)] at hR
  have hp:0<x.cps.size:=by
   rw [Bool.or_eq_false_iff] at hk
   have:=of_decide_eq_false hk.1
   show 0<x.length
   omega
  have h0:x.cps[0]?=some ((x.cps[0]?).getD 0):=by rw [Array.getElem?_eq_getElem hp]; rfl
  generalize (x.cps[0]?).getD 0=c0 at hR h0
  exact Ad (AB (Ac.ev (Jg (CA (Q0f (i:=0) (Aa 1) Ai h0 hz') CM MR) (λ_=>Dl (CA (AT T.b_len (Ab (Aa 1) Ae) (Ju hz')) Ai CC))) hR))
theorem W9 (Fn:As K "is_number" "is_number" La f fd) (hm:mg "is_number" = some (.ref f)) (hb:Binds K fd ["scale","word"] []) (zu:Ah P w K mg base 1 "is_in_figures" (Ao OW)):Ah P w K mg base 2 "is_number" (Ao OH):=by
 refine AO (k:=1) Fn Ua hm hb (λds O R h=>?_) (λcdv A outer s H E ds O R hr h=>?_)
 ·obtain ⟨_,⟨_,_,rfl,_⟩,_⟩:=h; rfl
 ·obtain ⟨d,⟨s,x,rfl,hs,hz,rfl⟩,hR⟩:=h
  have hn:=sizeLine_eq
  have hl:=IM hs.1 hs.2
  exact Ad (AB (Ac.ev (DH (AA zu (hr.mono wE) (Ab (AT T.b_len (Ab (BO T.b_str (Ab (Aa 0) Ae) (Hy ⟨by omega,by omega⟩)) Ae) (Ju (by show (nS s).length<=_; omega))) (Ab (Aa 1) Ae)) ⟨_,x,rfl,hz,rfl⟩) (λhbb=>(Dl (CA (BO T.b_int (Ab (Aa 1) Ae) (MZ (Je (most:=((nS s).length:Nat)) hbb wF).1 (Je (most:=((nS s).length:Nat)) hbb wF).2)) (Aa 0) DX)))) hR))
theorem Xs (Fn:As K "are_words" "are_words" Lu f fd) (hm:mg "are_words" = some (.ref f)) (hb:Binds K fd ["many","scale","words"] []) (gh:Ah P w K mg base 2 "is_number" (Ao OH)):Ah P w K mg base 3 "are_words" (Ao O5):=by
 refine AO (k:=2) Fn Us hm hb (λds O R h=>?_) (λcdv A outer s H E ds O R hr h=>?_)
 ·obtain ⟨_,⟨_,_,_,rfl,_⟩,_⟩:=h; rfl
 ·obtain ⟨d,⟨m,sc,ws,rfl,hm,hs,hz,rfl⟩,hR⟩:=h
  have hn:=sizeLine_eq
  unfold Jv at hR
  have hlt:decide ((((ws.map D.str).length:Nat):Int)=(m:Nat)+2)=true->m+1<ws.length:=λh=>by
   have:=of_decide_eq_true h
   rw [List.length_map] at this
   omega
  have hb1:∀ {b:Bool},(!decide ((((ws.map D.str).length:Nat):Int)=(m:Nat)+2))=false->m+1<ws.length:=λh=>hlt (by
   cases e:decide ((((ws.map D.str).length:Nat):Int)=(m:Nat)+2) with
   | true=>rfl
   | false=>rw [e] at h; cases h)
  refine Ad (AW (Bk.cast (B9.t (Ea (A1 (AT T.b_len (Ab (Aa 2) Ae) (Dm (by first | exact Or.inr rfl | exact Or.inl (Or.inl rfl) | exact Or.inl (Or.inr (Or.inl rfl)) | exact Or.inl (Or.inr (Or.inr ⟨_,rfl,by first | assumption | rfl⟩))))) (Ak (Aa 0) Ai Bs) Gw) (λhbb=>(D9 (A1 (Fc (Aa 2) (by first | exact Or.inl rfl | exact Or.inr (Or.inl rfl) | exact Or.inr (Or.inr ⟨_,rfl,by first | assumption | rfl⟩)) (Aa 0) (JT (by have:=hb1 (b:=true) hbb; omega))) (Gr T.g_COLON.choose_spec) MR))))) (show (!decide ((((ws.map D.str).length:Nat):Int)=(m:Nat)+2)||!(ws.getD m "" == ":"))=(!decide ((ws.length:Int)=(m:Nat)+2)||!(ws.getD m "" == ":")) by rw [List.length_map])) (λhk=>?_) (λhk=>Au ?_))
  ·rw [if_pos hk] at hR
   exact Ad (AB (Ac.ev Fd hR))
  rw [if_neg (by rw [hk]; exact Bool.false_ne_true)] at hR
  have hwl:ws.length=m+2:=by
   rw [Bool.or_eq_false_iff] at hk
   have h1:decide ((ws.length:Int)=(m:Nat)+2)=true:=by
    cases e:decide ((ws.length:Int)=(m:Nat)+2) with
    | true=>rfl
    | false=>rw [e] at hk; cases hk.1
   have:=of_decide_eq_true h1
   omega
  have hct:Cc ws none (some ((m:Nat):Int))=ws.take m:=Rs ws m
  have htl:(Cc ws none (some ((m:Nat):Int))).length<=sizeLine:=by rw [hct,List.length_take]; omega
  have hin:∀ q,q∈Cc ws none (some ((m:Nat):Int))->q.length<=1000000:=λq hq=>hz q (Q0Q hq)
  refine Ad (AW (Ct (Cb (AT T.b_all (Ab (BN (λw:Str=>.bl ((w==("-" : Str))||Da sc w)) ["word"] ["scale"] [1] (Bz (MI (Aa 2) (by first | exact Or.inl rfl | exact Or.inr (Or.inl rfl) | exact Or.inr (Or.inr ⟨_,rfl,by first | assumption | rfl⟩)) Rh (Jl (Aa 0))) wB) htl (by exact λq hq s H fp=>⟨[some _],rfl,(AC 0 (show List.Nodup (["word","scale"]:List Str) by decide +kernel)),⟨_,rfl,(Jg (CA (Aa 0) (Gr T.g_ASLEEP.choose_spec) Jt) (λhbb=>(Dl (AA gh (hr.mono wE) (Ab (Aa 1) (Ab (Aa 0) Ae)) ⟨sc,q,rfl,hs,hin q hq,rfl⟩))))⟩⟩)) Ae) (HA (bs:=(Cc ws none (some ((m:Nat):Int))).map λw:Str=>(w==("-" : Str))||Da sc w) (Or.inl (Or.inl (by rw [List.map_map]; rfl))))))) (λhk2=>?_) (λhk2=>Au ?_))
  ·rw [hct] at hk2
   rw [if_pos hk2] at hR
   exact Ad (AB (Ac.ev Fd hR))
  rw [hct] at hk2
  rw [if_neg (by rw [hk2]; exact Bool.false_ne_true)] at hR
  have hat:Be (ws.map D.str) (((m:Nat):Int)+1)=some (.str (ws.getD (m+1) "")):=by
   rw [show ((m:Nat):Int)+1=((m+1:Nat):Int) by omega]
   exact JT wF
  have hw1:(ws.getD (m+1) "").length<=1000000:=by
   rw [List.getD_eq_getElem?_getD,List.getElem?_eq_getElem wF]
   exact hz _ (List.getElem_mem _)
  exact Ad (AB (Ac.ev (AA gh (hr.mono wE) (Ab (Aa 1) (Ab (Fc (Aa 2) (by first | exact Or.inl rfl | exact Or.inr (Or.inl rfl) | exact Or.inr (Or.inr ⟨_,rfl,by first | assumption | rfl⟩)) (Ak (Aa 0) Ai Bs) hat) Ae)) ⟨sc,_,rfl,hs,hw1,rfl⟩) hR))
theorem Ww (Fn:As K "what_of" "what_of" KB f fd) (hm:mg "what_of" = some (.ref f)) (hb:Binds K fd ["word"] []):Ah P w K mg base 1 "what_of" (Ao Ol):=by
 refine AO (k:=0) Fn TX hm hb (λds O R h=>?_) (λcdv A outer s H E ds O R hr h=>?_)
 ·obtain ⟨_,⟨_,_,rfl,_⟩,_⟩:=h; rfl
 ·obtain ⟨d,⟨s,x,rfl,hs,hs0,hx,rfl⟩,hR⟩:=h
  unfold Em at hR
  refine Ad (AW (A1 (Aa 0) (Gr T.g_ASLEEP.choose_spec) Jt) (λhk=>?_) (λhk=>Au ?_))
  ·rw [if_pos hk] at hR
   exact Ad (AB (Ac.ev CY hR))
  rw [if_neg (by rw [hk]; exact Bool.false_ne_true)] at hR
  rw [hk,Bool.false_or] at hx
  unfold Da at hx
  rw [Bool.and_eq_true] at hx
  have hl:=IM hs0 hs
  have hf:=Je hx.1 wF
  exact Ad (AB (Ac.ev (BO T.b_int (Ab (Aa 0) Ae) (MZ hf.1 hf.2)) hR))
theorem WB (Fn:As K "read_row" "read_row" KH f fd) (hm:mg "read_row" = some (.ref f)) (hb:Binds K fd ["many","scale","number","row"] []) (zv:Ah P w K mg base 3 "are_words" (Ao O5)) (zw:Ah P w K mg base 1 "what_of" (Ao Ol)):Ah P w K mg base 4 "read_row" (Ao OD):=by
 refine AO (k:=3) Fn Pd hm hb (λds O R h=>?_) (λcdv A outer s H E ds O R hr h=>?_)
 ·obtain ⟨_,⟨_,_,_,_,rfl,_⟩,_⟩:=h; rfl
 ·obtain ⟨d,⟨m,sc,k,t,rfl,hG,hm,hs,rfl⟩,hR⟩:=h
  have hn:=sizeLine_eq
  have hrl:=G0 hG hs.2 hm
  have hl:=hG.len
  refine Ad (AJ 4 (Ac.ev (Q6 (Aa 3) CM wD wF) ?_) Pd.nd)
  rw [Ps hG hs.2]
  have hfree:=G6 hG hs.2
  refine Ad (AW (Bk.cast (k':=false) (Ct (Cb (AA zv (hr.mono wE) (Ab (Aa 0) (Ab (Aa 1) (Ab (Aa 4) Ae))) ⟨m,sc,Bb t,rfl,hm,hs,λw hw=>by have:=(hfree w hw).2; omega,rfl⟩))) (by rw [Q1R hG hs.2]; rfl)) (λhk=>by cases hk) (λ_=>Au ?_))
  have hct:Cc (Bb t) none (some ((m:Nat):Int))=t.1.map Cw:=by
   rw [Rs]
   unfold Bb
   rw [List.take_append_of_le_length (by rw [List.length_map]; omega),List.take_of_length_le (by rw [List.length_map]; omega)]
  have hq2:∀ q,q∈Cc (Bb t) none (some ((m:Nat):Int))->((q == "-")||Da sc q)=true:=λq hq=>by
   rw [hct] at hq
   obtain ⟨w,hw,rfl⟩:=List.mem_map.mp hq
   exact (FV (hG.say w hw) hs.2).1
  have hat:Be ((Bb t).map D.str) (((m:Nat):Int)+1)=some (.str (nS t.2)):=by
   rw [show ((m:Nat):Int)+1=((m+1:Nat):Int) by omega,JT (by rw [FS]; omega)]
   unfold Bb
   rw [List.getD_eq_getElem?_getD,List.getElem?_append_right (by rw [List.length_map]; omega),List.length_map,hl,show m+1-m=1 by omega]
   rfl
  have hso:=hG.so1
  have hit:PySem.intText? (nS t.2)=some t.2/\(nS t.2).length<=640:=by
   have h0:=hG.so0
   obtain ⟨k,e⟩:=Int.eq_ofNat_of_zero_le h0
   have h1:=Mj h0 hso hs.2
   unfold Da at h1
   rw [Bool.and_eq_true] at h1
   have h2:=Je h1.1 (by have:=IM hs.1 hs.2; omega)
   refine ⟨?_,h2.2⟩
   rw [h2.1,e]
   exact congrArg some (IL k wF)
  refine Ad (AB (Ac.ev (Cr (Ab (BO T.b_tuple (Ab (BN (λw:Str=>od (Em w)) ["word"] [] [] (Bz (MI (Aa 4) (by first | exact Or.inl rfl | exact Or.inr (Or.inl rfl) | exact Or.inr (Or.inr ⟨_,rfl,by first | assumption | rfl⟩)) Rh (Jl (Aa 0))) wB) (by rw [hct,List.length_map]; omega) (by exact λq hq s H fp=>⟨[some _],rfl,(AC 0 (show List.Nodup (["word"]:List Str) by decide +kernel)),⟨_,rfl,(AA zw (hr.mono wE) (Ab (Aa 0) Ae) ⟨sc,q,rfl,hs.2,hs.1,hq2 q hq,rfl⟩)⟩⟩)) Ae) (CD (by first | exact Or.inr rfl | exact Or.inl (Or.inl rfl) | exact Or.inl (Or.inr (Or.inl rfl)) | exact Or.inl (Or.inr (Or.inr ⟨_,rfl,by first | assumption | rfl⟩))))) (Ab (BO T.b_int (Ab (Fc (Aa 4) (by first | exact Or.inl rfl | exact Or.inr (Or.inl rfl) | exact Or.inr (Or.inr ⟨_,rfl,by first | assumption | rfl⟩)) (Ak (Aa 0) Ai Bs) hat) Ae) (MZ hit.1 hit.2)) Ae))) ?_))
  have e:((Cc (Bb t) none (some ((m:Nat):Int))).map λw:Str=>od (Em w))=t.1.map od:=by
   rw [hct,List.map_map]
   exact List.map_congr_left λw hw=>congrArg od (FV (hG.say w hw) hs.2).2.1
  rw [e]
  exact hR
theorem WC (Fn:As K "read" "read" KI f fd) (hm:mg "read" = some (.ref f)) (hb:Binds K fd ["many","scale","text"] []) (zx:Ah P w K mg base 4 "read_row" (Ao OD)):Ah P w K mg base 5 "read" (Ao OE):=by
 refine AO (k:=4) Fn T1 hm hb (λds O R h=>?_) (λcdv A outer s H E ds O R hr h=>?_)
 ·obtain ⟨_,⟨_,_,_,rfl,_⟩,_⟩:=h; rfl
 ·obtain ⟨d,⟨m,sc,ts,rfl,hG,hm,hs,htl,rfl⟩,hR⟩:=h
  have hn:=sizeLine_eq
  by_cases hne:ts=[]
  ·subst hne
   refine Ad (AW (Bk.cast (k':=true) (A1 (Aa 2) CM Jt) wD) (λ_=>?_) (λhk=>by cases hk))
   exact Ad (AB (Ac.ev (Cr Ae) hR))
  refine Ad (AW (Bk.cast (k':=false) (A1 (Aa 2) CM Jt) (SB hG hs.2 hne)) (λhk=>by cases hk) (λ_=>Au ?_))
  have hl:=SC hG hs.2 hm htl
  have es:=Sz hG hs.2 hne
  have hql:∀ q,q∈(Txt.split (C6 ts) "\n").zipIdx->∃ t∈ts,q.1=Ba t:=λq hq=>by
   obtain ⟨_,h2,h3⟩:=List.mem_zipIdx hq
   have:q.1∈Txt.split (C6 ts) "\n" := by rw [h3]; exact List.getElem_mem _
   rw [es] at this
   obtain ⟨t,ht,e⟩:=List.mem_map.mp this
   exact ⟨t,ht,e.symm⟩
  have hrd:∀ q,q∈(Txt.split (C6 ts) "\n").zipIdx->q.1=Ba (Es m q.1)/\CU m sc (Es m q.1):=λq hq=>by
   obtain ⟨t,ht,e⟩:=hql q hq
   rw [e,Pz (hG t ht) hs.2]
   exact ⟨rfl,hG t ht⟩
  refine Ad (AB (Ac.ev (BO T.b_tuple (Ab (BN (λq:Str×Nat=>tD (Es m q.1)) ["number","row"] ["many","scale"] [0,1] (EG (MF (Q6 (Aa 2) CM wD wF) wB T.b_enumerate)) (by rw [List.length_zipIdx,es,List.length_map]; omega) (by exact λq hq s H fp=>⟨[some _,some _],rfl,(BV (AU (AC 0 (show List.Nodup (["number","row","many","scale"]:List Str) by decide +kernel)) (AU (AC 1 (show List.Nodup (["number","row","many","scale"]:List Str) by decide +kernel)) BU))),⟨_,rfl,(AA zx (hr.mono wE) (Ab (Aa 2) (Ab (Aa 3) (Ab (Aa 0) (Ab (Aa 1) Ae)))) ⟨m,sc,_,Es m q.1,by rw [<- (hrd q hq).1],(hrd q hq).2,hm,hs,rfl⟩)⟩⟩)) Ae) (CD (by first | exact Or.inr rfl | exact Or.inl (Or.inl rfl) | exact Or.inl (Or.inr (Or.inl rfl)) | exact Or.inl (Or.inr (Or.inr ⟨_,rfl,by first | assumption | rfl⟩))))) ?_))
  have e:((Txt.split (C6 ts) "\n").zipIdx.map λq:Str×Nat=>tD (Es m q.1))=ts.map tD:=by
   have e1:((Txt.split (C6 ts) "\n").zipIdx.map λq:Str×Nat=>tD (Es m q.1))=(((Txt.split (C6 ts) "\n").zipIdx.map Prod.fst).map λx=>tD (Es m x)):=by rw [List.map_map]; rfl
   rw [e1,List.zipIdx_map_fst,es,List.map_map]
   exact List.map_congr_left λt ht=>congrArg tD (Pz (hG t ht) hs.2)
  rw [e]
  exact hR
theorem WX (Fn:As K "_law_cell_at" "_law_cell_at" K5 f fd) (hm:mg "_law_cell_at" = some (.ref f)) (hb:Binds K fd ["_law_script","_law_k"] []):Ah P w K mg base 1 "_law_cell_at" (Ao Kk):=by
 refine AO (k:=0) Fn T5 hm hb (λds O R h=>?_) (λcdv A outer s H E ds O R hr h=>?_)
 ·obtain ⟨_,⟨_,_,rfl,_⟩,_⟩:=h; rfl
 ·obtain ⟨d,⟨ns,k,rfl,hk0,rfl⟩,hR⟩:=h
  refine Ad (AW (A1 (Aa 1) (AT T.b_len (Ab (Aa 0) Ae) (Dm (by first | exact Or.inr rfl | exact Or.inl (Or.inl rfl) | exact Or.inl (Or.inr (Or.inl rfl)) | exact Or.inl (Or.inr (Or.inr ⟨_,rfl,by first | assumption | rfl⟩))))) Rx) (λhk=>?_) (λhk=>?_))
  ·have hk:=of_decide_eq_true hk
   rw [List.length_map] at hk
   have hi:k.toNat<ns.length:=by omega
   have hz:Be (ns.map D.int) k=some (.int ns[k.toNat]):=Q1U hk0 (List.getElem?_eq_getElem hi)
   refine Ad (AB (Ac.ev (Fc (Aa 0) (by first | exact Or.inl rfl | exact Or.inr (Or.inl rfl) | exact Or.inr (Or.inr ⟨_,rfl,by first | assumption | rfl⟩)) (Aa 1) hz) ?_))
   unfold FI at hR
   rw [List.getElem?_eq_getElem hi] at hR
   exact hR
  ·have hk:=of_decide_eq_false hk
   rw [List.length_map] at hk
   refine Au ?_
   refine Ad (AB (Ac.ev Ai ?_))
   unfold FI at hR
   rw [List.getElem?_eq_none wF] at hR
   exact hR
theorem WW (Fn:As K "_law_draw" "_law_draw" K4 f fd) (hm:mg "_law_draw" = some (.ref f)) (hb:Binds K fd ["_law_cell","_law_j"] []):Ah P w K mg base 1 "_law_draw" (Ao Ip):=by
 refine AO (k:=0) Fn Ks hm hb (λds O R h=>?_) (λcdv A outer s H E ds O R hr h=>?_)
 ·obtain ⟨_,⟨_,_,rfl,_⟩,_⟩:=h; rfl
 ·obtain ⟨d,⟨c,j,rfl,hj,rfl⟩,hR⟩:=h
  refine Ad (AJ 2 (Ac.ev (Ak (Ak (Ak (Ak (Ak (Ak (Aa 0) Ai (Ca wC)) Ai (A8 (by first | assumption | exact AZ.ok (Or.inl ⟨by omega,by omega⟩) | exact AZ.ok (Or.inr ⟨by omega,by omega⟩)))) (Ak (Ak Ai (Aa 1) (A8 (by first | assumption | exact AZ.ok (Or.inl ⟨by omega,by omega⟩) | exact AZ.ok (Or.inr ⟨by omega,by omega⟩)))) (Aa 1) (A8 (by first | assumption | exact AZ.ok (Or.inl ⟨by omega,by omega⟩) | exact AZ.ok (Or.inr ⟨by omega,by omega⟩)))) Bs) (Ak Ai (Aa 1) (A8 (by first | assumption | exact AZ.ok (Or.inl ⟨by omega,by omega⟩) | exact AZ.ok (Or.inr ⟨by omega,by omega⟩)))) Bs) Ai Bs) Ai (Ca wC)) ?_) Ks.nd)
  refine Ad (AJ 2 (Ac.ev (Ak (Ak (Ak (Aa 2) Ai (A8 (by first | assumption | exact AZ.ok (Or.inl ⟨by omega,by omega⟩) | exact AZ.ok (Or.inr ⟨by omega,by omega⟩)))) (Ak Ai (Aa 1) (A8 (by first | assumption | exact AZ.ok (Or.inl ⟨by omega,by omega⟩) | exact AZ.ok (Or.inr ⟨by omega,by omega⟩)))) Bs) Ai (Ca wC)) ?_) Ks.nd)
  exact Ad (AB (Ac.ev (Ak (Aa 2) (Ak Ai (Ak (Ak (Aa 0) (Ak (Aa 1) Ai Bs) (DU ⟨wC,wC⟩)) (Ak Ai Ai (Qj ⟨wC,wC,by decide⟩)) (Ca wC)) (A8 (by first | assumption | exact AZ.ok (Or.inl ⟨by omega,by omega⟩) | exact AZ.ok (Or.inr ⟨by omega,by omega⟩)))) Bs) hR))
theorem WT (Fn:As K "_law_fraction" "_law_fraction" K1 f fd) (hm:mg "_law_fraction" = some (.ref f)) (hb:Binds K fd ["_law_cell"] []):Ah P w K mg base 1 "_law_fraction" (Gc P0 Px):=by
 refine AO (k:=0) Fn Pg hm hb (λds O R h=>?_) (λcdv A outer s H E ds O R hr h=>?_)
 ·obtain ⟨⟨_,rfl⟩,_⟩:=h; rfl
 ·obtain ⟨⟨c,rfl⟩,hR⟩:=h
  refine Ad (AJ 1 (Ac.ev (Q0h (Aa 0) (Aa 0)) ?_) Pg.nd)
  have hb:=ZV c
  generalize Fy c=b at *
  refine Ad (AB (Ac.ev (Cr (Ab (Ak (Ak (Aa 0) Ai (DU ⟨wC,wC⟩)) (Aa 1) (Ca wC)) (Ab (Aa 1) Ae))) (hR _ ⟨_,_,rfl,Int.emod_nonneg _ wF,Int.emod_lt_of_pos _ wF,hb.2⟩)))
theorem WS (Fn:As K "_law_hand" "_law_hand" K0 f fd) (hm:mg "_law_hand" = some (.ref f)) (hb:Binds K fd ["_law_cell"] []):Ah P w K mg base 1 "_law_hand" (Gc PZ Pw):=by
 refine AO (k:=0) Fn GX hm hb (λds O R h=>?_) (λcdv A outer s H E ds O R hr h=>?_)
 ·obtain ⟨⟨_,rfl⟩,_⟩:=h; rfl
 ·obtain ⟨⟨c,rfl⟩,hR⟩:=h
  have hnat:∀ i:Int,0<=i->∃ m:Nat,i=(m:Int):=λi h=>Int.eq_ofNat_of_zero_le h
  refine Ad (AJ 1 (Ac.ev (Ak Ai (Ak (Aa 0) Ai (Ca wC)) Bs) ?_) GX.nd)
  refine GI (λρ' O'=>(∃ m:Nat,ρ'=[some (.int c),some (.int (m:Nat)),none]/\1<=m/\m<=24)/\O'=O) (AW (A1 (Ak (Ak (Aa 0) Ai (DU ⟨wC,wC⟩)) Ai (Ca wC)) Ai CC) (λhk=>?_) (λhk=>?_)) ?_
  ·refine Ad (AJ 1 (Ac.ev (Ak Ai (Ak (Ak (Aa 0) Ai (DU ⟨wC,wC⟩)) Ai (Ca wC)) Bs) ?_) GX.nd)
   obtain ⟨m,hm⟩:=hnat (1+c/56%24) wF
   exact Au ⟨⟨m,by rw [hm]; rfl,by omega,by omega⟩,rfl⟩
  ·obtain ⟨m,hm⟩:=hnat (1+c%7) wF
   exact Au ⟨⟨m,by rw [hm]; rfl,by omega,by omega⟩,rfl⟩
  rintro _ O ⟨⟨m,rfl,hm1,hm2⟩,rfl⟩
  refine Ad (AJ 2 (Ac.ev Ai ?_) GX.nd)
  refine GI (λρ' O'=>(∃ s:Int,ρ'=[some (.int c),some (.int (m:Nat)),some (.int s)]/\1<=s/\s<=10)/\O'=O) (AW (A1 (Ak (Ak (Aa 0) Ai (DU ⟨wC,wC⟩)) Ai (Ca wC)) Ai CC) (λhk=>?_) (λhk=>Au ⟨⟨_,rfl,by decide,by decide⟩,rfl⟩)) ?_
  ·refine Ad (AJ 2 (Ac.ev (Ak Ai (Ak (Ak (Aa 0) Ai (DU ⟨wC,wC⟩)) Ai (Ca wC)) Bs) ?_) GX.nd)
   exact Au ⟨⟨_,rfl,by omega,by omega⟩,rfl⟩
  rintro _ O ⟨⟨s,rfl,hs1,hs2⟩,rfl⟩
  refine Ad (AB (Ac.ev (Cr (Ab (Aa 1) (Ab (Aa 2) Ae))) ?_))
  exact hR _ ⟨m,s,rfl,hm1,hm2,hs1,hs2⟩
theorem WN (Fn:As K "_law_turn" "_law_turn" KT f fd) (hm:mg "_law_turn" = some (.ref f)) (hb:Binds K fd ["_law_cell","_law_many","_law_scale","_law_sleeps"] []) (jq:Ah P w K mg base 1 "_law_draw" (Ao Ip)):Ah P w K mg base 2 "_law_turn" (Ao Oq):=by
 refine AO (k:=1) Fn ET hm hb (λds O R h=>?_) (λcdv A outer s H E ds O R hr h=>?_)
 ·obtain ⟨_,⟨_,_,_,_,rfl,_⟩,_⟩:=h; rfl
 ·obtain ⟨d,⟨c,m,s,sl,rfl,hm,hs,rfl⟩,hR⟩:=h
  refine Fj ?_
  refine Ad (AJ 4 (Ac.ev (Ak (AA jq (hr.mono wE) (Ab (Aa 0) (Ab Ai Ae)) ⟨_,_,rfl,by first | decide | omega,rfl⟩) (Ak (Aa 2) Ai Bs) (Ca wF)) ?_) ET.nd)
  refine Ad (AJ 5 (Jh Ae ?_) ET.nd)
  unfold D1 at hR
  generalize BX c 0%(s+1)=so at hR
  refine Ad (C5 (FF (Aa 1) T.b_range wC wC) (λi ρ O'=>∃ u v w:Option D,ρ=[some (.int c),some (.int (m:Nat)),some (.int s),some (.bl sl),some (.int so),some (.ptr O.length),u,v,w]/\O'=O++[some (.lst (((List.range i).map λk=>GK s sl so (BX c (0+(k:Nat)+1))).map od))]) ⟨_,_,_,rfl,rfl⟩ ?_ ?_)
  ·rintro i x ρ O' hx ⟨u,v,w,rfl,rfl⟩
   obtain ⟨hi,rfl⟩:=PK hx
   have hi:i<m:=by omega
   refine ⟨_,AC 6 ET.nd,?_⟩
   refine Ad (AJ 7 (Ac.ev (AA jq (hr.mono wE) (Ab (Aa 0) (Ab (Ak (Aa 6) Ai Bs) Ae)) ⟨_,_,rfl,by first | decide | omega,rfl⟩) ?_) ET.nd)
   rw [List.range_succ,List.map_append]
   generalize hLL:(List.range i).map (λk=>GK s sl so (BX c (0+(k:Nat)+1)))=L
   have hL:L.length=i:=by rw [<- hLL,List.length_map,List.length_range]
   generalize hn:BX c (0+(i:Nat)+1)=n
   refine Ad (AJ 8 (Ac.ev (Ak (Aa 7) (Ak (Aa 2) Ai Bs) (Ca wF)) ?_) ET.nd)
   refine GI (λρ' O2=>ρ'=[some (.int c),some (.int (m:Nat)),some (.int s),some (.bl sl),some (.int so),some (.ptr O.length),some (.int (0+(i:Nat))),some (.int n),some (.int (if n/11%3=0 then so else n%(s+1)))]/\O2=O++[some (.lst (L.map od))]) (AW (A1 (Ak (Ak (Aa 7) Ai (DU ⟨wC,wC⟩)) Ai (Ca wC)) Ai CC) (λhk=>?_) (λhk=>?_)) ?_
   ·have hk:=of_decide_eq_true hk
    refine Ad (AJ 8 (Ac.ev (Aa 4) ?_) ET.nd)
    exact Au ⟨by rw [if_pos hk]; rfl,rfl⟩
   ·have hk:=of_decide_eq_false hk
    exact Au ⟨by rw [if_neg hk]; rfl,rfl⟩
   rintro _ _ ⟨rfl,rfl⟩
   generalize hy:(if n/11%3=0 then so else n%(s+1))=y
   refine GI (λρ' O2=>ρ'=[some (.int c),some (.int (m:Nat)),some (.int s),some (.bl sl),some (.int so),some (.ptr O.length),some (.int (0+(i:Nat))),some (.int n),some (od (Hg sl n y))]/\O2=O++[some (.lst (L.map od))]) (AW (B9.t (Jf (Cb (Aa 3)) (λhbb=>(MG (A1 (Ak (Ak (Aa 7) Ai (DU ⟨wC,wC⟩)) Ai (Ca wC)) Ai CC))))) (λhk=>?_) (λhk=>?_)) ?_
   ·refine Ad (AJ 8 (Ac.ev CY ?_) ET.nd)
    exact Au ⟨by unfold Hg; rw [if_pos hk]; rfl,rfl⟩
   ·exact Au ⟨by unfold Hg; rw [if_neg (by rw [hk]; exact Bool.false_ne_true)]; rfl,rfl⟩
   rintro _ _ ⟨rfl,rfl⟩
   refine Ad (HV (Aa 5) A7 (Aa 8) (by rw [sizeLine_eq,List.length_map]; omega) ?_)
   rw [B5]
   exact Au ⟨_,_,_,rfl,by rw [List.map_append]; subst hn hy; rfl⟩
  ·rintro ρ O' ⟨u,v,w,rfl,rfl⟩
   rw [Gd,Int.toNat_natCast]
   generalize (List.range m).map (λk=>GK s sl so (BX c (0+(k:Nat)+1)))=L at hR
   have q0:(O++[some (MO.lst (L.map od))])[O.length]?=some (some (.lst (L.map od))):=A7
   refine Ad (AB (Ac.ev (Cr (Ab (BO T.b_tuple (Ab (Aa 5) Ae) (CD (by first | exact Or.inr rfl | exact Or.inl (Or.inl rfl) | exact Or.inl (Or.inr (Or.inl rfl)) | exact Or.inl (Or.inr (Or.inr ⟨_,rfl,by first | assumption | rfl⟩))))) (Ab (Aa 4) Ae))) ?_))
   exact ⟨⟨_,rfl⟩,Te (L,so),hR⟩
theorem WM (Fn:As K "_law_turns" "_law_turns" KS f fd) (hm:mg "_law_turns" = some (.ref f)) (hb:Binds K fd ["_law_script","_law_many","_law_scale","_law_sleeps"] []) (ka:Ah P w K mg base 1 "_law_cell_at" (Ao Kk)) (jq:Ah P w K mg base 1 "_law_draw" (Ao Ip)) (zy:Ah P w K mg base 2 "_law_turn" (Ao Oq)):Ah P w K mg base 3 "_law_turns" (Ao Op):=by
 refine AO (k:=2) Fn Iv hm hb (λds O R h=>?_) (λcdv A outer s H E ds O R hr h=>?_)
 ·obtain ⟨_,⟨_,_,_,_,rfl,_⟩,_⟩:=h; rfl
 ·obtain ⟨d,⟨ns,m,s,sl,rfl,hl,hm,hs,rfl⟩,hR⟩:=h
  refine Ad (AJ 4 (Ac.ev (AA ka (hr.mono wE) (Ab (Aa 0) (Ab Ai Ae)) ⟨_,_,rfl,by first | decide | omega,rfl⟩) ?_) Iv.nd)
  refine Ad (AJ 5 (Ac.ev (MI (Aa 0) (by first | exact Or.inl rfl | exact Or.inr (Or.inl rfl) | exact Or.inr (Or.inr ⟨_,rfl,by first | assumption | rfl⟩)) (Jl Ai) (Jl Ai)) ?_) Iv.nd)
  have hcl:=Q1n hl
  unfold Eb at hR hcl
  generalize FI ns 2=c at hR hcl
  refine GI (λρ' O'=>ρ'=[some (.scr (ns.map D.int)),some (.int (m:Nat)),some (.int s),some (.bl sl),some (.int c),some (.lst ((if c%8=5 then (List.range 60).map λk=>BX c (40+(0+(k:Nat))) else Cc ns (some 3) (some 63)).map D.int))]/\O'=O) (AW (A1 (Ak (Aa 4) Ai (Ca wC)) Ai CC) (λhk=>?_) (λhk=>?_)) ?_
  ·have hk:=of_decide_eq_true hk
   refine Ad (Sh 5 (λk:Nat=>.int (BX c (40+(0+(k:Nat))))) ["_law_k"] ["_law_cell"] [4] (FF Ai T.b_range wC wC) (by rw [sizeLine_eq,List.length_range]; decide) (by exact λq hq s H fp=>⟨[some _],rfl,(AC 0 (show List.Nodup (["_law_k","_law_cell"]:List Str) by decide +kernel)),⟨_,rfl,(AA jq (hr.mono wE) (Ab (Aa 1) (Ab (Ak Ai (Aa 0) Bs) Ae)) ⟨_,_,rfl,by have:=List.mem_range.mp hq; omega,rfl⟩)⟩⟩) ?_ Iv.nd)
   refine Au ⟨?_,rfl⟩
   rw [if_pos hk,List.map_map]
   rfl
  ·have hk:=of_decide_eq_false hk
   exact Au ⟨by rw [if_neg hk]; rfl,rfl⟩
  rintro _ _ ⟨rfl,rfl⟩
  generalize (if c%8=5 then (List.range 60).map λk=>BX c (40+(0+(k:Nat))) else Cc ns (some 3) (some 63))=cs at hR hcl
  refine Ad (AB (Ac.ev (BO T.b_tuple (Ab (BN (λq=>tD (D1 m s sl q)) ["_law_one"] ["_law_many","_law_scale","_law_sleeps"] [1,2,3] (Bz (Aa 5) wB) (by rw [sizeLine_eq]; omega) (by exact λq hq s H fp=>⟨[some _],rfl,(AC 0 (show List.Nodup (["_law_one","_law_many","_law_scale","_law_sleeps"]:List Str) by decide +kernel)),⟨_,rfl,(AA zy (hr.mono wE) (Ab (Aa 0) (Ab (Aa 1) (Ab (Aa 2) (Ab (Aa 3) Ae)))) ⟨_,_,_,_,rfl,by assumption,by assumption,rfl⟩)⟩⟩)) Ae) (CD (by first | exact Or.inr rfl | exact Or.inl (Or.inl rfl) | exact Or.inl (Or.inr (Or.inl rfl)) | exact Or.inl (Or.inr (Or.inr ⟨_,rfl,by first | assumption | rfl⟩))))) ?_))
  rw [List.map_map] at hR
  exact hR
theorem WV (Fn:As K "_law_erring" "_law_erring" K3 f fd) (hm:mg "_law_erring" = some (.ref f)) (hb:Binds K fd ["_law_sayings","_law_turns_here"] []):Ah P w K mg base 1 "_law_erring" (Ao Io):=by
 refine AO (k:=0) Fn T4 hm hb (λds O R h=>?_) (λcdv A outer s H E ds O R hr h=>?_)
 ·obtain ⟨_,⟨_,_,rfl,_⟩,_⟩:=h; rfl
 ·obtain ⟨d,⟨f0,ts,rfl,hl,rfl⟩,hR⟩:=h
  have hat1:∀ k:Nat,k<ts.length->Be (((List.range ts.length).map f0).map D.int) (0+(k:Int))=some (.int (f0 k)):=λk hk=>by rw [Int.zero_add]; exact DZ (by rw [List.getElem?_map,List.getElem?_map,List.getElem?_range hk]; rfl)
  have hat2:∀ k:Nat,k<ts.length->Be (ts.map tD) (0+(k:Int))=some (tD (Bi ts k)):=λk hk=>by rw [Int.zero_add]; exact DZ (by rw [List.getElem?_map,List.getElem?_eq_getElem hk,Dh (List.getElem?_eq_getElem hk)]; rfl)
  have hin:∀ k:Nat,k∈List.range (((ts.map tD).length:Nat):Int).toNat->k<ts.length:=λk hk=>by have:=List.mem_range.mp hk; rw [Int.toNat_natCast,List.length_map] at this; exact this
  refine Ad (AB (Ac.ev (Ac.cast (d':=.int (Co f0 ts)) (AT T.b_len (Ab (Gs (λk:Nat=>if (!decide (f0 k=(Bi ts k).2))=true then some (D.int (0+(k:Int))) else none) ["_law_k"] ["_law_sayings","_law_turns_here"] [0,1] (FF (AT T.b_len (Ab (Aa 1) Ae) (Dm (by first | exact Or.inr rfl | exact Or.inl (Or.inl rfl) | exact Or.inl (Or.inr (Or.inl rfl)) | exact Or.inl (Or.inr (Or.inr ⟨_,rfl,by first | assumption | rfl⟩))))) T.b_range wF (by rw [List.length_map]; omega)) (by rw [sizeLine_eq,List.length_range,Int.toNat_natCast,List.length_map]; omega) (by exact λq hq s H fp=>⟨[some _],rfl,(AC 0 (show List.Nodup (["_law_k","_law_sayings","_law_turns_here"]:List Str) by decide +kernel)),⟨_,(A1 (B2 (Aa 1) (Aa 0) (hat1 q (hin q hq))) (B2 (B2 (Aa 2) (Aa 0) (hat2 q (hin q hq))) Ai rfl) Gw),λhbb=>⟨_,if_pos hbb,(Aa 0)⟩,λhbb=>if_neg (λhcc=>Bool.false_ne_true (hbb.symm.trans hcc))⟩⟩)) Ae) (Dm (by first | exact Or.inr rfl | exact Or.inl (Or.inl rfl) | exact Or.inl (Or.inr (Or.inl rfl)) | exact Or.inl (Or.inr (Or.inr ⟨_,rfl,by first | assumption | rfl⟩))))) ?_) hR))
  rw [Int.toNat_natCast,List.length_map]
  exact congrArg D.int (cntK (List.range ts.length) f0 (λk=>(Bi ts k).2) λk=>D.int (0+(k:Int)))
theorem WL (Fn:As K "_law_weighed" "_law_weighed" KR f fd) (hm:mg "_law_weighed" = some (.ref f)) (hb:Binds K fd ["_law_hand_here","_law_turns_here"] []) (jb:Al P w K mg base CK1 6 "hear" (Eo CK1)) (jc:Al P w K mg base CK6 8 "hear" (Cp CK6 CK4 false)) (jd:Al P w K mg base CK4 8 "hear" (Cp CK6 CK4 true)) (je:Al P w K mg base CK3 6 "hear" (En CK3)) (jf:Al P w K mg base CK0 6 "hear" (Ep CK0)) (zz:Al P w K mg base CK6 1 "total" (J6 CK6 CK4)) (ya:Al P w K mg base CK4 1 "total" (J6 CK6 CK4)):Ah P w K mg base 13 "_law_weighed" (Oo ⟨CK1,CK6,CK4,CK3,CK5,CK0⟩):=by
 refine AO (k:=12) Fn GW hm hb (λds O R h=>?_) (λcdv A outer s H E ds O R hr h=>?_)
 ·obtain ⟨_,_,_,_,_,_,rfl,_⟩:=h; rfl
 ·obtain ⟨q,m,s,sf,p,ts,rfl,hq,hok,hm,hs,hts,htl,hR⟩:=h
  have hp:=hok.1
  have hpm:p.m=(m:Nat):=hok.2.1
  have hps:p.sc=s:=hok.2.2.1
  refine Ad (C5 (Bz (Aa 1) wB) (λi ρ O'=>∃ (v2 v3:Option D) (w1:List Int) (u1:Int),ρ=[some (.ptr q),some (.tup (ts.map tD)),v2,v3,none,none]/\Dg q 1 O O'/\O'[q]?=some (some (Cs.o ⟨CK1,CK6,CK4,CK3,CK5,CK0⟩ (m:Nat) s (.v sf p w1 u1)))/\Br i m s (.v sf p w1 u1)/\w1.sum<=u1*p.m) ⟨_,_,List.replicate m 1,1,rfl,⟨rfl,λ_ _=>rfl⟩,hq,hok,by rw [hpm,N4]; omega⟩ ?_ ?_)
  ·rintro i z ρ O' hx ⟨v2,v3,w1,u1,rfl,hb,hA,he,hsum⟩
   rw [List.getElem?_map] at hx
   obtain ⟨tn,hq2,rfl⟩:=Option.map_eq_some_iff.mp hx
   have hi:=(List.getElem?_eq_some_iff.mp hq2).1
   have hto:=hts tn (List.mem_of_getElem? hq2)
   have hsd:=hto.said hm.2
   have hso:=hto.2.2
   refine ⟨_,BV (AU (AC 2 GW.nd) (AU (AC 3 GW.nd) BU)),?_⟩
   refine Ad (AX (Gq jb jc jd je (hr.mono wE) (hr.mono wE) (hr.mono wE) jf (hr.mono wE) (Aa 0) hA he wF hm hsd hso (Ab (Aa 2) (Ab (Aa 3) Ae)) ?_))
   have hs2:=Tl (so:=tn.2) (said:=tn.1) hp (by rw [hpm,hps]; exact hsd) (by rw [hps]; exact hso) (λw hw=>(he.2.2.2.1.w w hw).1) (by rw [hto.1]; exact he.2.2.2.2) hsum
   exact Au ⟨_,_,_,_,rfl,⟨(List.length_set ..).trans hb.l,λj hj=>by rw [List.getElem?_set_ne wF]; exact hb.o j hj⟩,BG hA,he.hear hsd hso,hs2⟩
  ·rintro ρ O' ⟨v2,v3,w1,u1,rfl,hb,hA,he,hsum⟩
   have hV:Ef CK6 CK4 O' q sf p w1 u1:=hA
   have hwl:w1.length=m:=he.2.2.2.2
   refine Ad (HU (Ev.evp (CZ (mv zz ya sf) (hr.mono wE) (Aa 0) hV (FW _ _ _ _ wD wD) ⟨q,sf,p,u1,w1,rfl,hV,by omega,rfl,rfl⟩)) (BV (AU (AC 4 GW.nd) (AU (AC 5 GW.nd) BU))) ?_)
   exact Ad (AB (Ac.ev (Ac.cast (d':=.bl true) (CA (Aa 4) (Ak (Aa 5) (Gp T.c_Hand.cls T.c_Weigher.cls T.c_Shifter.cls T.c_Rounder.cls T.n_Hand_many T.n_Weigher_many T.n_Shifter_many T.n_Rounder_many T.c_Follower.cls T.n_Follower_many (Aa 0) hA he) (A8 (AZ.ok (Or.inr ⟨by omega,by omega⟩)))) DX) (congrArg D.bl (decide_eq_true (by rw [<- hpm]; exact hsum)))) (hR O' hb)))
theorem WG (Fn:As K "most_following" "most_following" KM f fd) (hm:mg "most_following" = some (.ref f)) (hb:Binds K fd ["push","least"] []):Ah P w K mg base 1 "most_following" (Ao OI):=by
 refine AO (k:=0) Fn Pe hm hb (λds O R h=>?_) (λcdv A outer s H E ds O R hr h=>?_)
 ·obtain ⟨_,⟨_,_,rfl,_⟩,_⟩:=h; rfl
 ·obtain ⟨d,⟨ps,l,rfl,hl,rfl⟩,hR⟩:=h
  refine Ad (AJ 2 (Ac.ev (AT T.b_sum (Ab (Gs (λp:Int=>if decide (p<=l)=true then some (D.int (l-p+1)) else none) ["one"] ["least"] [1] (Bz (Aa 0) wB) (by rw [sizeLine_eq]; omega) (by exact λq hq s H fp=>⟨[some _],rfl,(AC 0 (show List.Nodup (["one","least"]:List Str) by decide +kernel)),⟨_,(A1 (Aa 0) (Aa 1) DX),λhbb=>⟨_,if_pos hbb,(Ak (Ak (Aa 1) (Aa 0) CV) Ai Bs)⟩,λhbb=>if_neg (λhcc=>Bool.false_ne_true (hbb.symm.trans hcc))⟩⟩)) Ae) (DY (ns:=(ps.filter λp=>decide (p<=l)).map λp=>l-p+1) (Or.inl (Or.inl (congrArg D.lst (by rw [Q2 (λp:Int=>decide (p<=l)) (λp=>D.int (l-p+1)),List.map_map]; rfl)))))) ?_) Pe.nd)
  rw [Q0S]
  refine Ad (AB (Ac.ev (AT T.b_max (Ab (Ak (Aa 2) Ai CV) (Ab Ai Ae)) Q1E) ?_))
  rw [Q0G]
  exact hR
theorem X3 (Fn:As K "scores" "Follower.scores" L4 f fd)  : AM P w K mg base AQ 1 f fd ["self"] (AN K (Oy CK0)):=by
 refine Bc (k:=0) Fn US (λds O R h=>?_) (λcdv A outer s H E ds O R hr h=>?_)
 ·obtain ⟨_,_,_,_,_,rfl,_⟩:=h; rfl
 ·obtain ⟨q,m,s,ps,sc,rfl,hq,hR⟩:=h
  exact Ad (AB (Ac.ev (Aq (Aa 0) hq T.c_Follower.cls T.n_Follower_reached (MD m s ps sc)) hR))
theorem Xn (Fn:As K "check_none_sleeps" "check_none_sleeps" Lo f fd) (hm:mg "check_none_sleeps" = some (.ref f)) (hb:Binds K fd ["said"] []):Ah P w K mg base 1 "check_none_sleeps" (Ao Ka):=by
 refine AO (k:=0) Fn Um hm hb (λds O R h=>?_) (λcdv A outer s H E ds O R hr h=>?_)
 ·obtain ⟨_,⟨_,rfl,_⟩,_⟩:=h; rfl
 ·obtain ⟨d,⟨xs,rfl,rfl⟩,hR⟩:=h
  refine Ad (AW (A1 CY (Aa 0) (Q1i (said:=xs.map some) (Or.inr (congrArg D.tup (Hh xs).symm)))) (λhk=>?_) (λhk=>Au (Au hR)))
  rw [Yd] at hk
  cases hk
theorem XX (Fn:As K "__init__" "Meaner.__init__" LX f fd)  (ku:Ah P w K mg base 4 "check_making" (Ao Kb)) (kv:Ah P w K mg base 3 "check_fraction" (Ao Ki)):AM P w K mg base AQ 5 f fd ["self","many","scale","top","bottom"] (AN K (OP CK2)):=by
 refine Bc (k:=4) Fn UM (λds O R h=>?_) (λcdv A outer s H E ds O R hr h=>?_)
 ·obtain ⟨_,_,_,_,_,rfl,_⟩:=h; rfl
 ·obtain ⟨q,m,s,t,b,rfl,hq,hm,hs,hb,hR⟩:=h
  refine Ad (AX (Ac.ev (AA ku (hr.mono wE) (Ab (Aa 1) (Ab (Aa 2) Ae)) ⟨_,_,rfl,by assumption,by assumption,rfl⟩) ?_))
  refine Ad (AX (Ac.ev (AA kv (hr.mono wE) (Ab (Aa 3) (Ab (Aa 4) Ae)) ⟨_,_,rfl,by assumption,rfl⟩) ?_))
  refine Ad (Bw (Aa 1) (Aa 0) hq T.c_Meaner.cls T.n_Meaner_many wE ?_)
  refine Ad (Bw (Aa 2) (Aa 0) (BG hq) T.c_Meaner.cls T.n_Meaner_scale (by show 1<1000; decide) ?_)
  rw [List.set_set,PP]
  refine Ad (Bw (Aa 3) (Aa 0) (BG hq) T.c_Meaner.cls T.n_Meaner_top (by show 2<1000; decide) ?_)
  rw [List.set_set,PN]
  refine Ad (Bw (Aa 4) (Aa 0) (BG hq) T.c_Meaner.cls T.n_Meaner_bottom (by show 3<1000; decide) ?_)
  rw [List.set_set,PQ]
  refine Ad (Bw (Ak (Cr (Ab Ai Ae)) (Aa 1) (Ft hm.1 wF (by simp) (by rw [sizeLine_eq]; show 1*m.toNat<=_; omega))) (Aa 0) (BG hq) T.c_Meaner.cls T.n_Meaner_tops (by show 4<1000; decide) ?_)
  rw [List.set_set,PM,Mh]
  refine Ad (Bw Ai (Aa 0) (BG hq) T.c_Meaner.cls T.n_Meaner_under (by show 5<1000; decide) ?_)
  rw [List.set_set,PL]
  exact Au hR
theorem XU (Fn:As K "weights" "Meaner.weights" LS f fd)  : AM P w K mg base AQ 1 f fd ["self"] (AN K (Om CK2)):=by
 refine Bc (k:=0) Fn UL (λds O R h=>?_) (λcdv A outer s H E ds O R hr h=>?_)
 ·obtain ⟨_,_,_,_,_,_,_,rfl,_⟩:=h; rfl
 ·obtain ⟨q,m,s,t,b,u,ws,rfl,hq,hR⟩:=h
  exact Ad (AB (Ac.ev (Cr (Ab (Aq (Aa 0) hq T.c_Meaner.cls T.n_Meaner_tops (HW m s t b u ws)) (Ab (Aq (Aa 0) hq T.c_Meaner.cls T.n_Meaner_under (JR m s t b u ws)) Ae))) hR))
theorem XV (Fn:As K "mean" "Meaner.mean" LU f fd)  (jk:Ah P w K mg base 4 "check_said" (Ao GO)) (gf:Ah P w K mg base 1 "check_none_sleeps" (Ao Ka)) (kj:Ah P w K mg base 1 "counted" (Ao Kj)):AM P w K mg base AQ 6 f fd ["self","said"] (AN K (OM CK2)):=by
 refine Bc (k:=5) Fn Pk (λds O R h=>?_) (λcdv A outer s H E ds O R hr h=>?_)
 ·obtain ⟨_,_,_,_,_,_,_,_,_,rfl,_⟩:=h; rfl
 ·obtain ⟨jj,n,m,sc,t,b,u,ws,xs,rfl,hW,hf,hm,hn,hwo,hl,hx,hR⟩:=h
  have hs2:=hf.s2
  have hx1:=hx.1
  have hsd:=hx.said hm.2
  refine Ad (AX (Ac.ev (AA jk (hr.mono wE) (Ab (Aq (Aa 0) hW T.c_Meaner.cls T.n_Meaner_many (GJ m sc t b u ws)) (Ab (Aq (Aa 0) hW T.c_Meaner.cls T.n_Meaner_scale (FT m sc t b u ws)) (Ab (Aa 1) Ae))) ⟨m,sc,xs.map some,by rw [Hh],hsd,rfl⟩) ?_))
  refine Ad (AX (Ac.ev (AA gf (hr.mono wE) (Ab (Aa 1) Ae) ⟨_,rfl,rfl⟩) ?_))
  have hwl:ws.length<=63:=by omega
  refine Ad (AJ 2 (Ac.ev (AA kj (hr.mono wE) (Ab (Aq (Aa 0) hW T.c_Meaner.cls T.n_Meaner_tops (HW m sc t b u ws)) Ae) ⟨_,rfl,by assumption,rfl⟩) ?_) Pk.nd)
  have hc:=Q1d hwo
  have hcl:=Js ws
  unfold Fv at hR
  generalize AV ws=cs at hR hc hcl
  have hzl:(cs.zip xs).length<=63:=by rw [List.length_zip]; omega
  have hi:∀ p∈cs.zip xs,IntMulOk p.1 p.2:=λp hp=>by
   have h1:=hc _ (List.of_mem_zip hp).1
   have h2:=hx.2 _ (List.of_mem_zip hp).2
   exact D8 (n:=4) h1.1 h1.2 h2.1 wF wF
  refine Ad (AB (Ac.ev (Cr (Ab (AT T.b_sum (Ab (BN (λp:Int×Int=>.int (p.1*p.2)) ["share","what"] [] [] (EG (FA (Aa 2) (Aa 1) wB wB T.b_zip)) (by rw [sizeLine_eq]; omega) (by exact λq hq s H fp=>⟨[some _,some _],rfl,(BV (AU (AC 0 (show List.Nodup (["share","what"]:List Str) by decide +kernel)) (AU (AC 1 (show List.Nodup (["share","what"]:List Str) by decide +kernel)) BU))),⟨_,rfl,(Ak (Aa 0) (Aa 1) (A8 (hi q hq)))⟩⟩)) Ae) (DY (ns:=(cs.zip xs).map λp=>p.1*p.2) (Or.inl (Or.inl (congrArg D.lst (by rw [List.map_map]; rfl)))))) (Ab (AT T.b_sum (Ab (Aa 2) Ae) (DY (by first | exact Or.inr rfl | exact Or.inl (Or.inl rfl) | exact Or.inl (Or.inr (Or.inl rfl)) | exact Or.inl (Or.inr (Or.inr ⟨_,rfl,by first | assumption | rfl⟩))))) Ae))) ?_))
  rw [DR]
  exact hR
theorem XW (Fn:As K "hear" "Meaner.hear" LW f fd)  (ja:Ah P w K mg base 5 "check_turn" (Ao EQ)) (gf:Ah P w K mg base 1 "check_none_sleeps" (Ao Ka)) (jg:Ah P w K mg base 1 "charge" (Ao Fm)):AM P w K mg base AQ 6 f fd ["self","said","so"] (AN K (OS CK2)):=by
 refine Bc (k:=5) Fn Kw (λds O R h=>?_) (λcdv A outer s H E ds O R hr h=>?_)
 ·obtain ⟨_,_,_,_,_,_,_,_,_,_,rfl,_⟩:=h; rfl
 ·obtain ⟨jj,n,m,sc,t,b,u,so,ws,xs,rfl,hW,hf,hm,hn,hwo,hl,hx,hso,hR⟩:=h
  have s1:=hf.s1; have s2:=hf.s2; have t0:=hf.t0; have tb:=hf.tb; have b2:=hf.b2
  have hx1:=hx.1
  have hsd:=hx.said hm.2
  refine Ad (AX (Ac.ev (AA ja (hr.mono wE) (Ab (Aq (Aa 0) hW T.c_Meaner.cls T.n_Meaner_many (GJ m sc t b u ws)) (Ab (Aq (Aa 0) hW T.c_Meaner.cls T.n_Meaner_scale (FT m sc t b u ws)) (Ab (Aa 1) (Ab (Aa 2) Ae)))) ⟨m,sc,xs.map some,so,by rw [Hh],hsd,hso,rfl⟩) ?_))
  refine Ad (AX (Ac.ev (AA gf (hr.mono wE) (Ab (Aa 1) Ae) ⟨_,rfl,rfl⟩) ?_))
  have hsb:=Kx hf
  refine Ad (AJ 3 (Ac.ev (Ak (Aq (Aa 0) hW T.c_Meaner.cls T.n_Meaner_scale (FT m sc t b u ws)) (Aq (Aa 0) hW T.c_Meaner.cls T.n_Meaner_bottom (HX m sc t b u ws)) (A8 (D8 (m:=10) (n:=10) wF wF wF wF))) ?_) Kw.nd)
  refine Ad (AJ 4 (Ac.ev (Ak (Aq (Aa 0) hW T.c_Meaner.cls T.n_Meaner_bottom (HX m sc t b u ws)) (Aq (Aa 0) hW T.c_Meaner.cls T.n_Meaner_top (JS m sc t b u ws)) CV) ?_) Kw.nd)
  have hzl:(ws.zip xs).length<=63:=by rw [List.length_zip]; omega
  have hi1:∀ p∈ws.zip xs,IntMulOk (ab (p.2-so)) (b-t):=λp hp=>by
   have h2:=Ed (hx.2 _ (List.of_mem_zip hp).2) hso
   exact D8 (m:=10) (n:=10) h2.1 wF wF wF
  have hi2:∀ p∈ws.zip xs,IntMulOk p.1 (fM sc t b so p.2):=λp hp=>by
   have h1:=hwo.w _ (List.of_mem_zip hp).1
   have h2:=Q4 hf (hx.2 _ (List.of_mem_zip hp).2) hso
   have hu:=hwo.u2
   exact D8 (n:=10) h1.1 (Int.lt_of_le_of_lt h1.2 hu) h2.1 wF wF
  refine Ad (Bw (BO T.b_tuple (Ab (BN (λp:Int×Int=>.int (p.1*fM sc t b so p.2)) ["kept","what"] ["whole","so","less"] [3,2,4] (EG (FA (Aq (Aa 0) hW T.c_Meaner.cls T.n_Meaner_tops (HW m sc t b u ws)) (Aa 1) wB wB T.b_zip)) (by rw [sizeLine_eq]; omega) (by exact λq hq s H fp=>⟨[some _,some _],rfl,(BV (AU (AC 0 (show List.Nodup (["kept","what","whole","so","less"]:List Str) by decide +kernel)) (AU (AC 1 (show List.Nodup (["kept","what","whole","so","less"]:List Str) by decide +kernel)) BU))),⟨_,rfl,(Ak (Aa 0) (Ak (Aa 2) (Ak (AA jg (hr.mono wE) (Ab (Aa 1) (Ab (Aa 3) Ae)) ⟨some q.2,so,rfl,rfl⟩) (Aa 4) (A8 (hi1 q hq))) CV) (A8 (hi2 q hq)))⟩⟩)) Ae) (CD (by first | exact Or.inr rfl | exact Or.inl (Or.inl rfl) | exact Or.inl (Or.inr (Or.inl rfl)) | exact Or.inl (Or.inr (Or.inr ⟨_,rfl,by first | assumption | rfl⟩))))) (Aa 0) hW T.c_Meaner.cls T.n_Meaner_tops (by show 6<1000; decide) ?_)
  have e1:((ws.zip xs).map λp:Int×Int=>D.int (p.1*fM sc t b so p.2))=(DF sc t b so xs ws).map D.int:=by
   unfold DF
   rw [List.map_map]
   rfl
  rw [e1,NH]
  have hW2:(O.set jj (some (MO.ins CK2 (A0 m sc t b (DF sc t b so xs ws) u))))[jj]?=some (some (.ins CK2 (A0 m sc t b (DF sc t b so xs ws) u))):=BG hW
  have hu1:=hwo.u1
  refine Ad (Bw (Ak (Aq (Aa 0) hW2 T.c_Meaner.cls T.n_Meaner_under (JR m sc t b u _)) (Aa 3) (A8 (D8 (n:=10) wF hwo.u2 wF wF wF))) (Aa 0) hW2 T.c_Meaner.cls T.n_Meaner_under (by show 6<1000; decide) ?_)
  rw [List.set_set,NG]
  exact Au hR
theorem WU (Fn:As K "_law_followed" "_law_followed" K2 f fd) (hm:mg "_law_followed" = some (.ref f)) (hb:Binds K fd ["_law_many","_law_scale","_law_push","_law_turns_here"] []) (ju:Cv P w K mg base CK0 6 "Follower" (F6 CK0)) (jr:Ah P w K mg base 13 "ran" (Ij ⟨CK1,CK6,CK4,CK3,CK5,CK0⟩)) (jz:Ah P w K mg base 1 "_law_erring" (Ao Io)) (yb:Ah P w K mg base 1 "most_following" (Ao OI)) (yc:Al P w K mg base CK0 1 "scores" (Oy CK0)) (jb:Al P w K mg base CK1 6 "hear" (Eo CK1)) (jc:Al P w K mg base CK6 8 "hear" (Cp CK6 CK4 false)) (jd:Al P w K mg base CK4 8 "hear" (Cp CK6 CK4 true)) (je:Al P w K mg base CK3 6 "hear" (En CK3)) (jf:Al P w K mg base CK0 6 "hear" (Ep CK0)):Ah P w K mg base 15 "_law_followed" OU:=by
 refine AO (k:=14) Fn GY hm hb (λds O R h=>?_) (λcdv A outer s H E ds O R hr h=>?_)
 ·obtain ⟨_,_,_,_,rfl,_⟩:=h; rfl
 ·obtain ⟨m,s,ps,ts,rfl,hm,hs,hps,hts,haw,htl,hR⟩:=h
  have hmI:(1:Int)<=(m:Nat)/\((m:Nat):Int)<=24:=⟨by omega,by omega⟩
  refine Fj ?_
  have hok:Br 0 m s (.f ps ps):=⟨hps,by show ps.length=m; have:=hps.1; omega⟩
  refine Ad (AJ 4 (Dc ju (hr.mono wE) (Ab (Aa 0) (Ab (Aa 1) (Ab (Aa 2) Ae))) ⟨O.length,(m:Nat),s,some ps,rfl,A7,hmI,hs,hps,rfl,?_⟩) GY.nd)
  rw [B5]
  have hW:CG ⟨CK1,CK6,CK4,CK3,CK5,CK0⟩ (O++[some (Cs.o ⟨CK1,CK6,CK4,CK3,CK5,CK0⟩ (m:Nat) s (.f ps ps))]) O.length m s (.p (.f ps ps)):=A7
  refine Ad (AJ 5 (Ac.ev (AA jz (hr.mono wE) (Ab (Ev.evp (Ck jr (hr.mono wE) (Ab (Aa 4) (Ab (Aa 3) Ae)) ⟨O.length,0,m,s,.p (.f ps ps),ts,rfl,hW,hok,hm,hs,hts,htl,rfl,rfl⟩)) (Ab (Aa 3) Ae)) ⟨B6 m (.p (.f ps ps)) ts,ts,rfl,htl,rfl⟩) ?_) GY.nd)
  rw [JQ λk _=>Ky m (.f ps ps) ts k]
  refine Ad (C5 (Bz (Aa 3) wB) (λi ρ O'=>(∃ v6 v7:Option D,ρ=[some (.int (m:Nat)),some (.int s),some (.tup (ps.map D.int)),some (.tup (ts.map tD)),some (.ptr O.length),some (.int (Co (AK m (.f ps ps) ts) ts)),v6,v7])/\O'=O++[some (Cs.o ⟨CK1,CK6,CK4,CK3,CK5,CK0⟩ (m:Nat) s (Bd m (.f ps ps) ts i))]) ⟨⟨_,_,rfl⟩,rfl⟩ ?_ ?_)
  ·rintro i z ρ O' hz ⟨⟨v6,v7,rfl⟩,rfl⟩
   rw [List.getElem?_map] at hz
   obtain ⟨tn,hq,rfl⟩:=Option.map_eq_some_iff.mp hz
   have hi:=(List.getElem?_eq_some_iff.mp hq).1
   have hto:=hts tn (List.mem_of_getElem? hq)
   have he:Br i m s (Bd m (.f ps ps) ts i):=by
    have:=FB (n:=0) (x:=.p (.f ps ps)) hok hm.2 hts i wF
    rw [Hn] at this
    exact this
   rw [Gu hq]
   refine ⟨_,BV (AU (AC 6 GY.nd) (AU (AC 7 GY.nd) BU)),?_⟩
   refine Ad (AX (Gq jb jc jd je (hr.mono wE) (hr.mono wE) (hr.mono wE) jf (hr.mono wE) (Aa 4) A7 he wF hm (hto.said hm.2) hto.2.2 (Ab (Aa 6) (Ab (Aa 7) Ae)) ?_))
   rw [B5]
   exact Au ⟨⟨_,_,rfl⟩,rfl⟩
  ·rintro ρ O' ⟨⟨v6,v7,rfl⟩,rfl⟩
   obtain ⟨sc,hi,e,hK⟩:=Rb hps hm.1 hm.2 hts haw ts.length (Nat.le_refl _)
   rw [List.length_map,e]
   have hF:HP CK0 (O++[some (Cs.o ⟨CK1,CK6,CK4,CK3,CK5,CK0⟩ (m:Nat) s (.f ps sc))]) O.length (m:Nat) s ps sc:=A7
   have hln:=hK.ln
   have hne:sc≠[]:=λz=>by rw [z] at hln; have:(0:Nat)=m:=hln; omega
   have hd:Co (AK m (.f ps ps) ts) ts<=Gv ps (Gi sc):=ZZ hK (YL hne)
   have hpl:=hps.1
   exact Ad (AB (Ac.ev (Ac.cast (d':=.bl true) (CA (Aa 5) (AA yb (hr.mono wE) (Ab (Aa 2) (Ab (AT T.b_min (Ab (Ev.evp (CZ yc (hr.mono wE) (Aa 4) hF (Jc _ _ _ _ wD) ⟨O.length,(m:Nat),s,ps,sc,rfl,hF,rfl,rfl⟩)) Ae) (Q1D (ns:=sc) (Or.inr rfl) hne)) Ae)) ⟨ps,_,rfl,by omega,rfl⟩) DX) (congrArg D.bl (decide_eq_true hd))) ⟨⟨_,rfl⟩,rfl,hR⟩))
theorem WQ (Fn:As K "_law_rounds" "_law_rounds" KY f fd) (hm:mg "_law_rounds" = some (.ref f)) (hb:Binds K fd ["_law_many","_law_scale","_law_turns_here"] []) (jt:Cv P w K mg base CK3 6 "Rounder" (Il CK3)) (jr:Ah P w K mg base 13 "ran" (Ij ⟨CK1,CK6,CK4,CK3,CK5,CK0⟩)) (jz:Ah P w K mg base 1 "_law_erring" (Ao Io)) (gj:Al P w K mg base CK3 1 "rounds" (OC CK3)) (jb:Al P w K mg base CK1 6 "hear" (Eo CK1)) (jc:Al P w K mg base CK6 8 "hear" (Cp CK6 CK4 false)) (jd:Al P w K mg base CK4 8 "hear" (Cp CK6 CK4 true)) (je:Al P w K mg base CK3 6 "hear" (En CK3)) (jf:Al P w K mg base CK0 6 "hear" (Ep CK0)):Ah P w K mg base 15 "_law_rounds" OB:=by
 refine AO (k:=14) Fn Fq hm hb (λds O R h=>?_) (λcdv A outer s H E ds O R hr h=>?_)
 ·obtain ⟨_,_,_,rfl,_⟩:=h; rfl
 ·obtain ⟨m,s,ts,rfl,hm,hs,hts,haw,htl,hR⟩:=h
  have hmI:(1:Int)<=(m:Nat)/\((m:Nat):Int)<=24:=⟨by omega,by omega⟩
  refine Fj ?_
  have hok:Br 0 m s (.r (List.replicate m true) 0):=List.length_replicate
  refine Ad (AJ 3 (Dc jt (hr.mono wE) (Ab (Aa 0) (Ab (Aa 1) Ae)) ⟨O.length,(m:Nat),s,rfl,A7,hmI,hs,rfl,?_⟩) Fq.nd)
  rw [B5]
  have hW:CG ⟨CK1,CK6,CK4,CK3,CK5,CK0⟩ (O++[some (Cs.o ⟨CK1,CK6,CK4,CK3,CK5,CK0⟩ (m:Nat) s (.r (List.replicate m true) 0))]) O.length m s (.p (.r (List.replicate m true) 0)):=A7
  refine Ad (AJ 4 (Ac.ev (AA jz (hr.mono wE) (Ab (Ev.evp (Ck jr (hr.mono wE) (Ab (Aa 3) (Ab (Aa 2) Ae)) ⟨O.length,0,m,s,.p (.r (List.replicate m true) 0),ts,rfl,hW,hok,hm,hs,hts,htl,rfl,rfl⟩)) (Ab (Aa 2) Ae)) ⟨B6 m (.p (.r (List.replicate m true) 0)) ts,ts,rfl,htl,rfl⟩) ?_) Fq.nd)
  rw [JQ λk _=>Ky m (.r (List.replicate m true) 0) ts k]
  refine Ad (C5 (Bz (Aa 2) wB) (λi ρ O'=>(∃ v5 v6:Option D,ρ=[some (.int (m:Nat)),some (.int s),some (.tup (ts.map tD)),some (.ptr O.length),some (.int (Co (AK m (.r (List.replicate m true) 0) ts) ts)),v5,v6,none,none])/\O'=O++[some (Cs.o ⟨CK1,CK6,CK4,CK3,CK5,CK0⟩ (m:Nat) s (Bd m (.r (List.replicate m true) 0) ts i))]) ⟨⟨_,_,rfl⟩,rfl⟩ ?_ ?_)
  ·rintro i z ρ O' hz ⟨⟨v5,v6,rfl⟩,rfl⟩
   rw [List.getElem?_map] at hz
   obtain ⟨tn,hq,rfl⟩:=Option.map_eq_some_iff.mp hz
   have hi:=(List.getElem?_eq_some_iff.mp hq).1
   have hto:=hts tn (List.mem_of_getElem? hq)
   have he:Br i m s (Bd m (.r (List.replicate m true) 0) ts i):=by
    have:=FB (n:=0) (x:=.p (.r (List.replicate m true) 0)) hok hm.2 hts i wF
    rw [Hn] at this
    exact this
   rw [Gu hq]
   refine ⟨_,BV (AU (AC 5 Fq.nd) (AU (AC 6 Fq.nd) BU)),?_⟩
   refine Ad (AX (Gq jb jc jd je (hr.mono wE) (hr.mono wE) (hr.mono wE) jf (hr.mono wE) (Aa 3) A7 he wF hm (hto.said hm.2) hto.2.2 (Ab (Aa 5) (Ab (Aa 6) Ae)) ?_))
   rw [B5]
   exact Au ⟨⟨_,_,rfl⟩,rfl⟩
  ·rintro ρ O' ⟨⟨v5,v6,rfl⟩,rfl⟩
   obtain ⟨ins,ov,am,e,hK,ham⟩:=Q7 hm.1 hm.2 hts haw ts.length (Nat.le_refl _)
   rw [List.length_map,e]
   have hO:GA CK3 (O++[some (Cs.o ⟨CK1,CK6,CK4,CK3,CK5,CK0⟩ (m:Nat) s (.r ins ov))]) O.length (m:Nat) s ins ov:=A7
   have hat:∀ q:Nat,q∈List.range ((5:Int)-1).toNat->Be [D.int 2,.int 4,.int 8,.int 16] (1+(q:Int)-1)=some (.int (IZ q)):=λq hq=>by
    have hq:=List.mem_range.mp hq
    rw [show 1+(q:Int)-1=(q:Int) by omega]
    exact ZM q (by have:((5:Int)-1).toNat=4:=rfl; omega)
   refine Ad (AJ 7 (Ac.ev (Ac.cast (d':=.int (hv m:Nat)) (AT T.b_len (Ab (Gs (λk:Nat=>if decide (IZ k<=((m:Nat):Int))=true then some (D.int (1+(k:Int))) else none) ["_law_k"] ["_law_many"] [0] (Q0E Ai Ai T.b_range wF wF wF wF) (by rw [List.length_range,sizeLine_eq]; decide) (by exact λq hq s H fp=>⟨[some _],rfl,(AC 0 (show List.Nodup (["_law_k","_law_many"]:List Str) by decide +kernel)),⟨_,(A1 (Fc (Ji (Ab Ai (Ab Ai (Ab Ai (Ab Ai Ae))))) (by first | exact Or.inl rfl | exact Or.inr (Or.inl rfl) | exact Or.inr (Or.inr ⟨_,rfl,by first | assumption | rfl⟩)) (Ak (Aa 0) Ai CV) (hat q hq)) (Aa 1) DX),λhbb=>⟨_,if_pos hbb,(Aa 0)⟩,λhbb=>if_neg (λhcc=>Bool.false_ne_true (hbb.symm.trans hcc))⟩⟩)) Ae) (Dm (by first | exact Or.inr rfl | exact Or.inl (Or.inl rfl) | exact Or.inl (Or.inr (Or.inl rfl)) | exact Or.inl (Or.inr (Or.inr ⟨_,rfl,by first | assumption | rfl⟩))))) (congrArg (λk:Nat=>D.int (k:Nat)) (ZK m wF wF))) ?_) Fq.nd)
   have hoi:=hK.oi
   have ho0:=hK.o0
   have hpot:=hK.pot
   refine Ad (C5 (FF (Aa 0) T.b_range wC wC) (λi ρ O'=>(∃ v8:Option D,ρ=[some (.int (m:Nat)),some (.int s),some (.tup (ts.map tD)),some (.ptr O.length),some (.int (Co (AK m (.r (List.replicate m true) 0) ts) ts)),v5,v6,some (.int (hv m:Nat)),v8])/\O'=O++[some (Cs.o ⟨CK1,CK6,CK4,CK3,CK5,CK0⟩ (m:Nat) s (.r ins ov))]) ⟨⟨_,rfl⟩,rfl⟩ ?_ ?_)
   ·rintro i z ρ O' hz ⟨⟨v8,rfl⟩,rfl⟩
    obtain ⟨hi,rfl⟩:=PK hz
    have hi:i<m:=by omega
    refine ⟨_,AC 8 Fq.nd,?_⟩
    have hat:∀ q∈ts,Be (q.1.map od) (0+(i:Int))=some (od (Ax q.1 i)):=λq hq=>by
     rw [Int.zero_add]
     exact at2 (by have:=(hts q hq).1; omega)
    have hea:=hK.ea i hi
    rw [ham i hi] at hea
    have hle:ov<=EJ m ts i ts.length:=by
     have:(0:Int)<=if ins.getD i false=true then 0 else 1:=by split <;> decide
     omega
    refine Ad (AW (Bk.cast (k':=false) (A1 (Ev.evp (CZ gj (hr.mono wE) (Aa 3) hO (Gb _ _ _ _ wD) ⟨O.length,(m:Nat),s,ov,ins,rfl,hO,rfl,rfl⟩)) (Ac.cast (d':=.int (EJ m ts i ts.length)) (AT T.b_len (Ab (Gs (λt:Tn=>if (!decide (Ax t.1 i=some t.2))=true then some (tD t) else none) ["_law_turn_here"] ["_law_number"] [8] (Bz (Aa 2) wB) (by rw [sizeLine_eq]; omega) (by exact λq hq s H fp=>⟨[some _],rfl,(AC 0 (show List.Nodup (["_law_turn_here","_law_number"]:List Str) by decide +kernel)),⟨_,(A1 (B2 (B2 (Aa 0) Ai rfl) (Aa 1) (hat q hq)) (B2 (Aa 0) Ai rfl) (Q1g hr)),λhbb=>⟨_,if_pos hbb,(Aa 0)⟩,λhbb=>if_neg (λhcc=>Bool.false_ne_true (hbb.symm.trans hcc))⟩⟩)) Ae) (Dm (by first | exact Or.inr rfl | exact Or.inl (Or.inl rfl) | exact Or.inl (Or.inr (Or.inl rfl)) | exact Or.inl (Or.inr (Or.inr ⟨_,rfl,by first | assumption | rfl⟩))))) (congrArg D.int (Q1X m ts i))) Gx) (decide_eq_false (show ¬ ov>EJ m ts i ts.length by omega))) (λhk=>by cases hk) (λ_=>Au (Au ⟨⟨_,rfl⟩,rfl⟩)))
   ·rintro ρ O' ⟨⟨v8,rfl⟩,rfl⟩
    have hmul:IntMulOk (((hv m:Nat):Int)+1) ov:=AZ.ok (Or.inr ⟨by omega,by omega⟩)
    have hd:Co (AK m (.r (List.replicate m true) 0) ts) ts<=((hv m:Nat)+1)*ov+(hv m:Nat):=by
     have:Co (AK m (.r (List.replicate m true) 0) ts) ts=D0 (AK m (.r (List.replicate m true) 0) ts) ts ts.length:=rfl
     omega
    exact Ad (AB (Ac.ev (Ac.cast (d':=.bl true) (CA (Aa 4) (Ak (Ak (Ak (Aa 7) Ai Bs) (Ev.evp (CZ gj (hr.mono wE) (Aa 3) hO (Gb _ _ _ _ wD) ⟨O.length,(m:Nat),s,ov,ins,rfl,hO,rfl,rfl⟩)) (A8 hmul)) (Aa 7) Bs) DX) (congrArg D.bl (decide_eq_true hd))) ⟨⟨_,rfl⟩,rfl,hR⟩))
theorem Xc (Fn:As K "has_greatest" "has_greatest" Ld f fd) (hm:mg "has_greatest" = some (.ref f)) (hb:Binds K fd ["top","bottom","own"] []):Ah P w K mg base 1 "has_greatest" (Ao OT):=by
 refine AO (k:=0) Fn Ud hm hb (λds O R h=>?_) (λcdv A outer s H E ds O R hr h=>?_)
 ·obtain ⟨_,⟨_,_,_,rfl,_⟩,_⟩:=h; rfl
 ·obtain ⟨d,⟨t,b,o,rfl,rfl⟩,hR⟩:=h
  exact Ad (AB (Ac.ev (DH (CA (Aa 0) (Aa 1) Rx) (λhbb=>(Dl (Jg (CA (Aa 0) Ai Gx) (λhbb=>(Dl (CA (Aa 2) Ai CC))))))) hR))
theorem WH (Fn:As K "most_errors" "most_errors" KN f fd) (hm:mg "most_errors" = some (.ref f)) (hb:Binds K fd ["many","top","bottom","own"] []) (ji:Ah P w K mg base 1 "power" (Ao GM)) (yd:Ah P w K mg base 1 "has_greatest" (Ao OT)):Ah P w K mg base 2 "most_errors" (Gc P2 Py):=by
 refine AO (k:=1) Fn Fo hm hb (λds O R h=>?_) (λcdv A outer s H E ds O R hr h=>?_)
 ·obtain ⟨⟨_,_,_,_,rfl,_⟩,_⟩:=h; rfl
 ·obtain ⟨⟨m,t,b,o,rfl,ho,hk⟩,hR⟩:=h
  have m1:=hk.m1
  have m2:=hk.m2
  have t0:=hk.t0
  have tb:=hk.tb
  have b2:=hk.b2
  have o2:=hk.o2
  refine Ad (AW (Ct (Cb (AA yd (hr.mono wE) (Ab (Aa 1) (Ab (Aa 2) (Ab (Aa 3) Ae))) ⟨_,_,_,rfl,rfl⟩))) (λhc=>?_) (λhc=>Au ?_))
  ·have z:t=0/\0<o:=by
    simp only [Bool.not_eq_true',Bool.and_eq_false_iff,Bool.or_eq_false_iff,decide_eq_false_iff_not] at hc
    omega
   exact Ad (AB (Ac.ev CY (hR _ ⟨m,t,b,o,rfl,.inl ⟨z.1,z.2,rfl⟩⟩)))
  have z:¬ (t=0/\0<o):=by
   simp only [Bool.not_eq_false',Bool.and_eq_true,Bool.or_eq_true,decide_eq_true_eq] at hc
   omega
  have hp:1<=t ^ o.toNat:=by
   by_cases h0:t=0
   ·have:o=0:=by omega
    subst this
    simp
   ·exact Int.pow_pos wF
  refine Ad (AJ 4 (Ac.ev Ai ?_) Fo.nd)
  refine Ad (AJ 5 (Ac.ev (Ak (Ak (AA ji (hr.mono wE) (Ab (Aa 1) (Ab (Aa 3) Ae)) ⟨_,_,rfl,⟨by omega,by omega⟩,⟨by omega,by omega⟩,rfl⟩) Ai (A8 (by first | assumption | exact AZ.ok (Or.inl ⟨by omega,by omega⟩) | exact AZ.ok (Or.inr ⟨by omega,by omega⟩)))) (Aa 2) (A8 (by first | assumption | exact AZ.ok (Or.inl ⟨by omega,by omega⟩) | exact AZ.ok (Or.inr ⟨by omega,by omega⟩)))) ?_) Fo.nd)
  refine Ad (AJ 6 (Ac.ev (Ak (Ak (Aa 0) (AA ji (hr.mono wE) (Ab (Aa 2) (Ab (Aa 3) Ae)) ⟨_,_,rfl,⟨by omega,by omega⟩,⟨by omega,by omega⟩,rfl⟩) (A8 (by first | assumption | exact AZ.ok (Or.inl ⟨by omega,by omega⟩) | exact AZ.ok (Or.inr ⟨by omega,by omega⟩)))) (Ak (Aa 2) (Aa 1) Bs) (A8 (by first | assumption | exact AZ.ok (Or.inl ⟨by omega,by omega⟩) | exact AZ.ok (Or.inr ⟨by omega,by omega⟩)))) ?_) Fo.nd)
  refine Ad (Sg (λρ O'=>∃ e:Nat,ρ=[some (.int m),some (.int t),some (.int b),some (.int o),some (.int (e:Nat)),some (.int (t ^ o.toNat*(2*b) ^ (e+1))),some (.int (m*b ^ o.toNat*(b+t) ^ (e+1)))]/\O'=O/\CJ m t b o.toNat e) Yw ⟨0,?_,rfl,le0 hk⟩ ?_)
  ·rw [show t ^ o.toNat*2*b=t ^ o.toNat*(2*b) ^ (0+1) by rw [Int.pow_succ,Int.pow_zero,Int.one_mul,Int.mul_assoc],show m*b ^ o.toNat*(b+t)=m*b ^ o.toNat*(b+t) ^ (0+1) by rw [Int.pow_succ,Int.pow_zero,Int.one_mul]]
   rfl
  rintro ρ O' ⟨e,rfl,rfl,he⟩
  have hf:e<56000:=ME hk hp he
  have sw:m*b ^ o.toNat*(b+t) ^ (e+1)=m*(b+t) ^ (e+1)*b ^ o.toNat:=by rw [Int.mul_assoc,Int.mul_comm (b ^ o.toNat),<- Int.mul_assoc]
  refine ⟨_,(A1 (Aa 5) (Aa 6) DX),λhc=>?_,λhc=>?_⟩
  ·have hc:=of_decide_eq_true hc
   rw [sw] at hc
   refine Ad (AJ 4 (Ac.ev (Ak (Aa 4) Ai Bs) ?_) Fo.nd)
   refine Ad (AJ 5 (Ac.ev (Ak (Ak (Aa 5) Ai (A8 (by first | assumption | exact AZ.ok (Or.inl ⟨by omega,by omega⟩) | exact AZ.ok (Or.inr ⟨by omega,by omega⟩)))) (Aa 2) (A8 (by first | assumption | exact AZ.ok (Or.inl ⟨by omega,by omega⟩) | exact AZ.ok (Or.inr ⟨by omega,by omega⟩)))) ?_) Fo.nd)
   refine Ad (AJ 6 (Ac.ev (Ak (Aa 6) (Ak (Aa 2) (Aa 1) Bs) (A8 (by first | assumption | exact AZ.ok (Or.inl ⟨by omega,by omega⟩) | exact AZ.ok (Or.inr ⟨by omega,by omega⟩)))) ?_) Fo.nd)
   refine Au ⟨⟨e+1,?_,rfl,hc⟩,?_⟩
   ·rw [show t ^ o.toNat*(2*b) ^ (e+1)*2*b=t ^ o.toNat*(2*b) ^ (e+1+1) by rw [Int.pow_succ (2*b) (e+1),Int.mul_assoc,Int.mul_assoc],show m*b ^ o.toNat*(b+t) ^ (e+1)*(b+t)=m*b ^ o.toNat*(b+t) ^ (e+1+1) by rw [Int.pow_succ (b+t) (e+1),Int.mul_assoc,Int.mul_assoc]]
    rfl
   ·show 56001-((e:Int)+1).toNat<56001-(e:Int).toNat
    omega
  ·have hc:=of_decide_eq_false hc
   rw [sw] at hc
   exact Ad (AB (Ac.ev (Aa 4) (hR _ ⟨m,t,b,o,rfl,.inr ⟨z,e,hf,rfl,he,hc⟩⟩)))
theorem WO (Fn:As K "_law_tier" "_law_tier" KU f fd) (hm:mg "_law_tier" = some (.ref f)) (hb:Binds K fd ["_law_many","_law_scale","_law_rule","_law_push","_law_turns_here"] []) (ju:Cv P w K mg base CK0 6 "Follower" (F6 CK0)) (jt:Cv P w K mg base CK3 6 "Rounder" (Il CK3)) (jp:Cv P w K mg base CK6 6 "Weigher" (F5 CK6 CK4)) (kz:Cv P w K mg base CK5 10 "Tier" (Kf ⟨CK1,CK6,CK4,CK3,CK5,CK0⟩)) (jr:Ah P w K mg base 13 "ran" (Ij ⟨CK1,CK6,CK4,CK3,CK5,CK0⟩)) (jz:Ah P w K mg base 1 "_law_erring" (Ao Io)) (ye:Ah P w K mg base 2 "most_errors" (Gc P2 Py)) (yf:Al P w K mg base CK5 1 "hand_charges" (OZ ⟨CK1,CK6,CK4,CK3,CK5,CK0⟩)) (jb:Al P w K mg base CK1 6 "hear" (Eo CK1)) (jc:Al P w K mg base CK6 8 "hear" (Cp CK6 CK4 false)) (jd:Al P w K mg base CK4 8 "hear" (Cp CK6 CK4 true)) (je:Al P w K mg base CK3 6 "hear" (En CK3)) (gc:Al P w K mg base CK5 10 "hear" (Im ⟨CK1,CK6,CK4,CK3,CK5,CK0⟩)) (jf:Al P w K mg base CK0 6 "hear" (Ep CK0)):Ah P w K mg base 19 "_law_tier" Os:=by
 refine AO (k:=18) Fn DD hm hb (λds O R h=>?_) (λcdv A outer s H E ds O R hr h=>?_)
 ·obtain ⟨_,_,_,_,_,_,rfl,_⟩:=h; rfl
 ·obtain ⟨m,s,t,b,ps,ts,rfl,hm,hs,hf,hps,hts,htl0,hR⟩:=h
  have htl:ts.length<=63:=by omega
  have hm2:=hm.2
  have hmI:(1:Int)<=(m:Nat)/\((m:Nat):Int)<=24:=⟨by omega,by omega⟩
  refine Fj ?_
  refine Ad (HU (Aa 2) (BV (AU (AC 5 DD.nd) (AU (AC 6 DD.nd) BU))) ?_)
  obtain ⟨p,hpp⟩:∃ p:SP,p=⟨(m:Nat),s,t,b,1,2⟩:=⟨_,rfl⟩
  have hVp:Df false p:=by rw [hpp]; exact ⟨hf,hmI.1,hmI.2,λz=>by cases z⟩
  have hpm:p.m=(m:Nat):=by rw [hpp]
  have hpsc:p.sc=s:=by rw [hpp]
  refine Ad (AJ 7 (Z7 (Fe (Dc ju (hr.mono wE) (Ab (Aa 0) (Ab (Aa 1) (Ab (Aa 3) Ae))) ⟨O.length,(m:Nat),s,some ps,rfl,A7,hmI,hs,hps,rfl,?_⟩))) DD.nd)
  rw [B5]
  have hF0:(O++[some (Cs.o ⟨CK1,CK6,CK4,CK3,CK5,CK0⟩ (m:Nat) s (.f ps ps))])[O.length]?=some (some (Cs.o ⟨CK1,CK6,CK4,CK3,CK5,CK0⟩ (m:Nat) s (.f ps ps))):=A7
  show Ek _ _ (O++[some (Cs.o ⟨CK1,CK6,CK4,CK3,CK5,CK0⟩ (m:Nat) s (.f ps ps))]) _ _
  obtain ⟨Oa,hOa⟩:∃ Oa,Oa=O++[some (Cs.o ⟨CK1,CK6,CK4,CK3,CK5,CK0⟩ (m:Nat) s (.f ps ps))]:=⟨_,rfl⟩
  rw [<- hOa] at hF0 ⊢
  refine Fe (Dc jt (hr.mono wE) (Ab (Aa 0) (Ab (Aa 1) Ae)) ⟨Oa.length,(m:Nat),s,rfl,A7,hmI,hs,rfl,?_⟩)
  rw [B5]
  have hR0:(Oa++[some (Cs.o ⟨CK1,CK6,CK4,CK3,CK5,CK0⟩ (m:Nat) s (.r (List.replicate m true) 0))])[Oa.length]?=some (some (Cs.o ⟨CK1,CK6,CK4,CK3,CK5,CK0⟩ (m:Nat) s (.r (List.replicate m true) 0))):=A7
  show Ek _ _ (Oa++[some (Cs.o ⟨CK1,CK6,CK4,CK3,CK5,CK0⟩ (m:Nat) s (.r (List.replicate m true) 0))]) _ _
  obtain ⟨Ob,hOb⟩:∃ Ob,Ob=Oa++[some (Cs.o ⟨CK1,CK6,CK4,CK3,CK5,CK0⟩ (m:Nat) s (.r (List.replicate m true) 0))]:=⟨_,rfl⟩
  rw [<- hOb] at hR0 ⊢
  refine Fe (Dc jp (hr.mono wE) (Ab (Aa 0) (Ab (Aa 1) (Ab (Aa 5) (Ab (Aa 6) Ae)))) ⟨Ob.length,false,p,by rw [hpp],A7,hVp,rfl,?_⟩)
  rw [B5]
  have hW0:(Ob++[some (MO.ins (B4 CK6 CK4 false) (A0 p.m p.sc p.t p.b (List.replicate p.m.toNat 1) 1))])[Ob.length]?=some (some (Cs.o ⟨CK1,CK6,CK4,CK3,CK5,CK0⟩ (m:Nat) s (.v false p (List.replicate m 1) 1))):=by
   rw [A7,hpm,Int.toNat_natCast]
   show _=some (some (MO.ins CK6 (A0 p.m p.sc p.t p.b (List.replicate m 1) 1)))
   rw [hpm]; rfl
  obtain ⟨O1,hO1⟩:∃ O1,O1=Ob++[some (MO.ins (B4 CK6 CK4 false) (A0 p.m p.sc p.t p.b (List.replicate p.m.toNat 1) 1))]:=⟨_,rfl⟩
  rw [<- hO1] at hW0 ⊢
  refine BK.as Ae ⟨by rw [sizeLine_eq]; show 3<=_; omega,?_⟩
  obtain ⟨pv,hpv⟩:∃ pv:List (Nat×Hv),pv=[(O.length,.f ps ps),(Oa.length,.r (List.replicate m true) 0),(Ob.length,.v false p (List.replicate m 1) 1)]:=⟨_,rfl⟩
  have epv:(D.tup [.ptr O.length,.ptr Oa.length,.ptr Ob.length]:D)=.tup (pv.map λz=>D.ptr z.1):=by rw [hpv]; rfl
  rw [epv]
  have hup:∃ Y,O1=O++Y:=⟨_,by rw [hO1,hOb,hOa,List.append_assoc,List.append_assoc]⟩
  have hP:GB ⟨CK1,CK6,CK4,CK3,CK5,CK0⟩ O1 m s pv:=λz hz=>by
   rw [hpv] at hz
   rcases List.mem_cons.mp hz with rfl | hz
   ·exact ⟨by rw [hO1,hOb]; exact De (De hF0),⟨hps,by show ps.length=m; have:=hps.1; omega⟩⟩
   rcases List.mem_cons.mp hz with rfl | hz
   ·exact ⟨by rw [hO1]; exact De hR0,List.length_replicate⟩
   ·rw [List.mem_singleton.mp hz]
    exact ⟨hW0,⟨hVp,hpm,hpsc,HY m,List.length_replicate⟩⟩
  have hn3:pv.length=3:=by rw [hpv]; rfl
  clear hpv epv hW0 hR0 hF0 hO1 hOb hOa hVp hpp hpm hpsc
  obtain ⟨n,hn⟩:∃ n,n=pv.length:=⟨_,rfl⟩
  have e3:((n:Nat):Int)=3:=by omega
  have hnI:(1:Int)<=(n:Nat)/\((n:Nat):Int)<=24:=⟨by omega,by omega⟩
  obtain ⟨w,hww⟩:∃ w:SP,w=⟨(n:Nat),s,t,b,1,2⟩:=⟨_,rfl⟩
  have hVw:Df false w:=by rw [hww]; exact ⟨hf,hnI.1,hnI.2,λz=>by cases z⟩
  have hwm:w.m=(n:Nat):=by rw [hww]
  have hwt:w.t=t:=by rw [hww]
  have hwb:w.b=b:=by rw [hww]
  have hws:w.sc=s:=by rw [hww]
  have okd:Br 0 n s (.v false w (List.replicate n 1) 1):=⟨hVw,hwm,hws,HY n,List.length_replicate⟩
  refine Ad (AJ 8 (Q0e kz (hr.mono wE) (Fe (Ac.ev (Aa 7) (Fe (Dc jp (hr.mono wE) (Ab Ai (Ab (Aa 1) (Ab (Aa 5) (Ab (Aa 6) Ae)))) ⟨O1.length,false,w,by rw [hww]; show _=[_,D.int ((n:Nat):Int),_,_,_]; rw [e3],A7,hVw,rfl,?_⟩))))) DD.nd)
  rw [B5]
  have hw:(O1++[some (MO.ins (B4 CK6 CK4 false) (A0 w.m w.sc w.t w.b (List.replicate w.m.toNat 1) 1))])[O1.length]?=some (some (Cs.o ⟨CK1,CK6,CK4,CK3,CK5,CK0⟩ (n:Nat) s (.v false w (List.replicate n 1) 1))):=by
   rw [A7,hwm,Int.toNat_natCast]
   show _=some (some (MO.ins CK6 (A0 w.m w.sc w.t w.b (List.replicate n 1) 1)))
   rw [hwm]; rfl
  have hP2:=hP.app (Y:=[some (MO.ins (B4 CK6 CK4 false) (A0 w.m w.sc w.t w.b (List.replicate w.m.toNat 1) 1))])
  have hup2:=NO (Z:=[some (MO.ins (B4 CK6 CK4 false) (A0 w.m w.sc w.t w.b (List.replicate w.m.toNat 1) 1))]) hup
  have hlt:∀ z∈pv,z.1<O1.length:=λz hz=>(List.getElem?_eq_some_iff.mp (hP z hz).1).1
  have hO2l:(O1++[some (MO.ins (B4 CK6 CK4 false) (A0 w.m w.sc w.t w.b (List.replicate w.m.toNat 1) 1))]).length=O1.length+1:=by rw [List.length_append]; rfl
  generalize O1++[some (MO.ins (B4 CK6 CK4 false) (A0 w.m w.sc w.t w.b (List.replicate w.m.toNat 1) 1))]=O2 at hw hP2 hup2 hO2l
  refine BK.as Ae ⟨O2.length,m,s,pv,O1.length,.v false w (List.replicate n 1) 1,O2,rfl,rfl,rfl,Vn hP2,λz hz=>by rw [List.mem_singleton.mp hz,<- hn]; exact ⟨hw,0,okd⟩,hm,hs,by omega,rfl,?_⟩
  have hhl:(pv.map (·.2)).length=n:=by rw [List.length_map,hn]
  have hho:∀ v∈pv.map (·.2),Br 0 m s v:=λv hv=>by
   obtain ⟨z,hz,rfl⟩:=List.mem_map.mp hv
   exact (hP z hz).2
  have hT0:=Qs (C:=⟨CK1,CK6,CK4,CK3,CK5,CK0⟩) (O:=O2) (Y:=[]) (m:=m) (s:=s) (hs:=pv.map (·.2)) (hd:=.v false w (List.replicate n 1) 1)
  rw [List.append_nil] at hT0
  obtain ⟨xx,hxx⟩:∃ xx:Hx,xx=.t (pv.map (·.2)) (.v false w (List.replicate n 1) 1) (List.replicate n 0):=⟨_,rfl⟩
  have hxo:A3 0 m s xx:=by
   rw [hxx]
   exact show Dn 0 m s (pv.map (·.2)) (.v false w (List.replicate n 1) 1) (List.replicate n 0) from ⟨hho,by rw [hhl]; exact okd,by omega,by omega,by rw [List.length_replicate,hhl]⟩
  have hA:CG ⟨CK1,CK6,CK4,CK3,CK5,CK0⟩ (O2++Du ⟨CK1,CK6,CK4,CK3,CK5,CK0⟩ m s O2.length (pv.map (·.2)) (.v false w (List.replicate n 1) 1)) O2.length m s (DI m xx):=by rw [hxx]; exact hT0
  have hup3:=NO (Z:=Du ⟨CK1,CK6,CK4,CK3,CK5,CK0⟩ m s O2.length (pv.map (·.2)) (.v false w (List.replicate n 1) 1)) hup2
  have hP3:=hP2.app (Y:=Du ⟨CK1,CK6,CK4,CK3,CK5,CK0⟩ m s O2.length (pv.map (·.2)) (.v false w (List.replicate n 1) 1))
  generalize O2++Du ⟨CK1,CK6,CK4,CK3,CK5,CK0⟩ m s O2.length (pv.map (·.2)) (.v false w (List.replicate n 1) 1)=O3 at hA hup3 hP3
  obtain ⟨Q,hQ⟩:∃ Q,Q=O2.length:=⟨_,rfl⟩
  rw [<- hQ] at hA ⊢
  have hltQ:∀ z∈pv,z.1<Q:=λz hz=>by have:=hlt z hz; omega
  have hOQ:O.length<=Q:=by
   obtain ⟨Y,rfl⟩:=hup2
   rw [List.length_append] at hQ; omega
  have hbd:s=1->∀ (i:Nat) (z:Nat×Hv),pv[i]?=some z->∃ c e:Nat,Co (AK m z.2 ts) ts=(c:Nat)/\Co (B6 m xx ts) ts=(e:Nat)/\c<=60/\e<=60/\CJ (n:Nat) t b c e:=λh1 i z hz=>by
   subst h1
   obtain ⟨c,e,h1,h2,h3,h4,h5⟩:=ZC (p:=w) (ws:=List.replicate n 1) (u:=1) (i:=i) (v:=z.2) (by rw [hwt,hwb]; exact hf) hws hho wF wF hm2 hts (by rw [List.getElem?_map,hz]; rfl)
   rw [hhl] at h2 h5
   rw [hwt,hwb] at h5
   refine ⟨c,e,h1,?_,by omega,by omega,h5⟩
   rw [<- h2]
   exact JQ λk hk=>by rw [hxx,UX hk,hhl]
  have esay:((List.range ts.length).map (B6 m (DI m xx) ts))=(List.range ts.length).map (B6 m xx ts):=List.map_congr_left λk _=>UZ m xx ts k
  refine Ad (AJ 9 (Ac.ev (Ac.cast (Ev.evp (Ck jr (hr.mono wE) (Ab (Aa 8) (Ab (Aa 4) Ae)) ⟨Q,0,m,s,DI m xx,ts,rfl,hA,hxo.anew,hm,hs,hts,htl,rfl,rfl⟩)) (congrArg (λl:List Int=>D.tup (l.map D.int)) esay)) ?_) DD.nd)
  have hev:=FB hxo hm2 hts
  have hsz:=λi hi=>Kr (m:=m) (x:=xx) (ts:=ts) i hi
  refine Ad (C5 (Bz (Aa 4) wB) (λi ρ O'=>(∃ v10 v11:Option D,ρ=[some (.int (m:Nat)),some (.int s),some (.tup [.int t,.int b]),some (.tup (ps.map D.int)),some (.tup (ts.map tD)),some (.int t),some (.int b),some (.tup (pv.map λz=>D.ptr z.1)),some (.ptr Q),some (.tup (((List.range ts.length).map (B6 m xx ts)).map D.int)),v10,v11,none,none,none,none])/\Dg Q (Cq xx) O3 O'/\CG ⟨CK1,CK6,CK4,CK3,CK5,CK0⟩ O' Q m s (C0 m xx ts i)) ⟨⟨_,_,rfl⟩,Dg.refl _ _ _,hA⟩ ?_ ?_)
  ·rintro i z ρ O' hz ⟨⟨v10,v11,rfl⟩,hb,hA'⟩
   rw [List.getElem?_map] at hz
   obtain ⟨tn,hq,rfl⟩:=Option.map_eq_some_iff.mp hz
   have hi:=(List.getElem?_eq_some_iff.mp hq).1
   have hok1:=hts tn (List.mem_of_getElem? hq)
   have he:=hev i wF
   have hz1:=hsz i wF
   rw [Hs hq]
   refine ⟨_,BV (AU (AC 10 DD.nd) (AU (AC 11 DD.nd) BU)),?_⟩
   refine Ad (AX (Ra (C:=⟨CK1,CK6,CK4,CK3,CK5,CK0⟩) jb jc jd je (hr.mono wE) (hr.mono wE) (hr.mono wE) jf (hr.mono wE) gc (hr.mono wE) (Aa 8) hA' he wF hm (hok1.said hm2) hok1.2.2 (Ab (Aa 10) (Ab (Aa 11) Ae)) λO4 hb4 hA4=>?_))
   rw [hz1] at hb4
   exact Au ⟨⟨_,_,rfl⟩,hb.trans hb4,hA4⟩
  rintro ρ O4 ⟨⟨v10,v11,rfl⟩,hb4,hA4⟩
  rw [List.length_map] at hA4
  have hev4:C0 m xx ts ts.length=.t ((pv.map (·.2)).map λv=>Bd m v ts ts.length) (Bd (pv.map (·.2)).length (.v false w (List.replicate n 1) 1) (BZ m (pv.map (·.2)) ts) ts.length) ((pv.map (·.2)).map λv=>Bu m v ts ts.length):=by rw [hxx]; exact MH _ (Nat.le_refl _)
  rw [hev4] at hA4
  have hT4:Cu ⟨CK1,CK6,CK4,CK3,CK5,CK0⟩ O4 Q m s ((pv.map (·.2)).map λv=>Bd m v ts ts.length) (Bd (pv.map (·.2)).length (.v false w (List.replicate n 1) 1) (BZ m (pv.map (·.2)) ts) ts.length) ((pv.map (·.2)).map λv=>Bu m v ts ts.length):=hA4
  have hP4:GB ⟨CK1,CK6,CK4,CK3,CK5,CK0⟩ O4 m s pv:=λz hz=>⟨by rw [hb4.o z.1 (.inl (hltQ z hz))]; exact (hP3 z hz).1,(hP z hz).2⟩
  have hup4:∃ Y,O4=O++Y:=by
   obtain ⟨Y,rfl⟩:=hup3
   refine ⟨O4.drop O.length,?_⟩
   have hlen:=hb4.l
   rw [List.length_append] at hlen
   refine List.ext_getElem? λj=>?_
   by_cases hj:j<O.length
   ·rw [hb4.o j (.inl wF),List.getElem?_append_left hj,List.getElem?_append_left hj]
   ·rw [List.getElem?_append_right wF,List.getElem?_drop,show O.length+(j-O.length)=j by omega]
  clear hA hA4 hP3 hb4 hup3 hev hsz esay
  refine Ad (AJ 12 (Jh Ae ?_) DD.nd)
  refine Ad (C5 (Bz (Aa 7) wB) (λi ρ O'=>(∃ v13 v14 v15:Option D,ρ=[some (.int (m:Nat)),some (.int s),some (.tup [.int t,.int b]),some (.tup (ps.map D.int)),some (.tup (ts.map tD)),some (.int t),some (.int b),some (.tup (pv.map λz=>D.ptr z.1)),some (.ptr Q),some (.tup (((List.range ts.length).map (B6 m xx ts)).map D.int)),v10,v11,some (.ptr O4.length),v13,v14,v15])/\O'=O4++[some (MO.lst (((pv.take i).map λz=>Bu m z.2 ts ts.length).map D.int))]) ⟨⟨_,_,_,rfl⟩,rfl⟩ ?_ ?_)
  ·rintro i zd ρ O' hzd ⟨⟨v13,v14,v15,rfl⟩,rfl⟩
   rw [List.getElem?_map] at hzd
   obtain ⟨z,hz,rfl⟩:=Option.map_eq_some_iff.mp hzd
   have hzm:=List.mem_of_getElem? hz
   have hi:=(List.getElem?_eq_some_iff.mp hz).1
   have hxk:A3 0 m s (.p z.2):=(hP z hzm).2
   have etk:((pv.take (i+1)).map λz=>Bu m z.2 ts ts.length)=((pv.take i).map λz=>Bu m z.2 ts ts.length)++[Bu m z.2 ts ts.length]:=by rw [List.take_add_one,hz,List.map_append]; rfl
   have hLl:((pv.take i).map λz=>Bu m z.2 ts ts.length).length<=3:=by rw [List.length_map,List.length_take]; omega
   rw [etk]
   generalize ((pv.take i).map λz=>Bu m z.2 ts ts.length)=L at hLl
   have hxa:CG ⟨CK1,CK6,CK4,CK3,CK5,CK0⟩ (O4++[some (MO.lst (L.map D.int))]) z.1 m s (.p z.2):=De (hP4 z hzm).1
   refine ⟨_,AC 13 DD.nd,?_⟩
   have es2:((List.range ts.length).map (B6 m (.p z.2) ts))=(List.range ts.length).map (AK m z.2 ts):=List.map_congr_left λk _=>Ky m z.2 ts k
   refine Ad (AJ 14 (Ac.ev (Ac.cast (Ev.evp (Ck jr (hr.mono wE) (Ab (Aa 13) (Ab (Aa 4) Ae)) ⟨z.1,0,m,s,.p z.2,ts,rfl,hxa,hxk,hm,hs,hts,htl,rfl,rfl⟩)) (congrArg (λl:List Int=>D.tup (l.map D.int)) es2)) ?_) DD.nd)
   have hat1:∀ k:Nat,k<ts.length->Be (((List.range ts.length).map (AK m z.2 ts)).map D.int) (0+(k:Int))=some (.int (AK m z.2 ts k)):=λk hk=>by rw [Int.zero_add]; exact DZ (by rw [List.getElem?_map,List.getElem?_map,List.getElem?_range hk]; rfl)
   have hat2:∀ k:Nat,k<ts.length->Be (ts.map tD) (0+(k:Int))=some (tD (Bi ts k)):=λk hk=>by rw [Int.zero_add]; exact DZ (by rw [List.getElem?_map,List.getElem?_eq_getElem hk,Dh (List.getElem?_eq_getElem hk)]; rfl)
   have hin:∀ k:Nat,k∈List.range (((ts.map tD).length:Nat):Int).toNat->k<ts.length:=λk hk=>by have:=List.mem_range.mp hk; rw [Int.toNat_natCast,List.length_map] at this; exact this
   have esm:((List.range (((ts.map tD).length:Nat):Int).toNat).map λk:Nat=>D.int (ab (AK m z.2 ts k-(Bi ts k).2)))=((List.range ts.length).map λk=>ab (AK m z.2 ts k-(Bi ts k).2)).map D.int:=by rw [Int.toNat_natCast,List.length_map,List.map_map]; rfl
   refine Ad (HV (Aa 12) A7 (Ac.cast (d':=.int (Bu m z.2 ts ts.length)) (AT T.b_sum (Ab (BN (λk:Nat=>D.int (ab (AK m z.2 ts k-(Bi ts k).2))) ["_law_k"] ["_law_some","_law_turns_here"] [14,4] (FF (AT T.b_len (Ab (Aa 4) Ae) (Dm (by first | exact Or.inr rfl | exact Or.inl (Or.inl rfl) | exact Or.inl (Or.inr (Or.inl rfl)) | exact Or.inl (Or.inr (Or.inr ⟨_,rfl,by first | assumption | rfl⟩))))) T.b_range wF (by rw [List.length_map]; omega)) (by rw [sizeLine_eq,List.length_range,Int.toNat_natCast,List.length_map]; omega) (by exact λq hq s H fp=>⟨[some _],rfl,(AC 0 (show List.Nodup (["_law_k","_law_some","_law_turns_here"]:List Str) by decide +kernel)),⟨_,rfl,(AT T.b_abs (Ab (Ak (B2 (Aa 1) (Aa 0) (hat1 q (hin q hq))) (B2 (B2 (Aa 2) (Aa 0) (hat2 q (hin q hq))) Ai rfl) CV) Ae) M0)⟩⟩)) Ae) (DY (ns:=(List.range ts.length).map λk=>ab (AK m z.2 ts k-(Bi ts k).2)) (Or.inl (Or.inl (congrArg D.lst esm))))) rfl) (by rw [sizeLine_eq,List.length_map]; omega) ?_)
   rw [B5]
   have eL:L.map D.int++[D.int (Bu m z.2 ts ts.length)]=(L++[Bu m z.2 ts ts.length]).map D.int:=by rw [List.map_append]; rfl
   rw [eL]
   have hlast:Be ((L++[Bu m z.2 ts ts.length]).map D.int) (-1)=some (.int (Bu m z.2 ts ts.length)):=YZ (by rw [List.length_append,List.getElem?_append_right (by show L.length<=L.length+1-1; omega)]; show [_][L.length+1-1-L.length]?=_; rw [show L.length+1-1-L.length=0 by omega]; rfl)
   have hq0:(O4++[some (MO.lst ((L++[Bu m z.2 ts ts.length]).map D.int))])[O4.length]?=some (some (MO.lst ((L++[Bu m z.2 ts ts.length]).map D.int))):=A7
   by_cases h1:s=1
   ·refine Ad (AW (Bk.cast (k':=true) (A1 (Aa 1) Ai CC) (decide_eq_true h1)) (λ_=>?_) (λhk=>by cases hk))
    obtain ⟨c,e,hc,hW,hc63,he63,hle⟩:=hbd h1 i z hz
    have hpd:Bu m z.2 ts ts.length=(c:Nat):=by
     subst h1
     rw [V9 (hP z hzm).2 hm2 hts]; exact hc
    rw [hpd] at hlast hq0 ⊢
    have hf1:=hf
    have hOk:HI (n:Nat) t b c:=⟨hnI.1,hnI.2,hf.t0,hf.tb,hf.b2,by omega⟩
    refine Ad (JO (Ck ye (hr.mono wE) (Ab Ai (Ab (Aa 5) (Ab (Aa 6) (Ab (Fc (Aa 12) (Or.inr (Or.inr ⟨_,rfl,hq0⟩)) (Q0c Ai) hlast) Ae)))) ⟨⟨(n:Nat),t,b,(c:Nat),by rw [e3],by omega,by rw [Int.toNat_natCast]; exact hOk⟩,λd hd=>?_⟩))
    obtain ⟨m1,t1,b1,o1,hds,hcs⟩:=hd
    rw [<- e3] at hds
    injection hds with q1 hds; injection hds with q2 hds; injection hds with q3 hds; injection hds with q4 _
    injection q1 with q1; injection q2 with q2; injection q3 with q3; injection q4 with q4
    subst q1; subst q2; subst q3; subst q4
    refine ⟨_,AC 15 DD.nd,?_⟩
    rcases hcs with ⟨g1,g2,rfl⟩ | ⟨g1,e',g2,rfl,g3,g4⟩
    ·exact Ad (AW (Bk.cast (k':=false) (B9.t (Jf (l:=false) (A1 (Aa 15) CY MS) (λhbb=>absurd hbb wE))) (Bool.and_false _)) (λhk=>by cases hk) (λ_=>Au (Au (Au ⟨⟨_,_,_,rfl⟩,rfl⟩))))
    ·rw [Int.toNat_natCast] at g3 g4
     have hee:¬ ((e':Nat):Int)<((e:Nat):Int):=λhz2=>by
      have hlt:e'<e:=by omega
      have hz3:=QF (m:=(n:Nat)) (o:=c) hf.t0 hf.tb (e:=e'+1) (d:=e-(e'+1)) (by rw [show e'+1+(e-(e'+1))=e by omega]; exact hle)
      exact g4 hz3
     exact Ad (AW (Bk.cast (k':=false) (B9.t (Jf (A1 (Aa 15) CY MS) (λhbb=>(MG (A1 (AA jz (hr.mono wE) (Ab (Aa 9) (Ab (Aa 4) Ae)) ⟨B6 m xx ts,ts,rfl,htl,rfl⟩) (Aa 15) Gx))))) (by rw [hW,decide_eq_false (show ¬ ((e:Nat):Int)>((e':Nat):Int) from hee)]; rfl)) (λhk=>by cases hk) (λ_=>Au (Au (Au ⟨⟨_,_,_,rfl⟩,rfl⟩))))
   ·exact Ad (AW (Bk.cast (k':=false) (A1 (Aa 1) Ai CC) (decide_eq_false h1)) (λhk=>by cases hk) (λ_=>Au (Au ⟨⟨_,_,_,rfl⟩,rfl⟩)))
  ·rintro ρ O' ⟨⟨v13,v14,v15,rfl⟩,rfl⟩
   have etk:pv.take (pv.map λz=>D.ptr z.1).length=pv:=by rw [List.length_map,List.take_length]
   rw [etk]
   have hT5:Cu ⟨CK1,CK6,CK4,CK3,CK5,CK0⟩ (O4++[some (MO.lst ((pv.map λz=>Bu m z.2 ts ts.length).map D.int))]) Q m s ((pv.map (·.2)).map λv=>Bd m v ts ts.length) (Bd (pv.map (·.2)).length (.v false w (List.replicate n 1) 1) (BZ m (pv.map (·.2)) ts) ts.length) ((pv.map (·.2)).map λv=>Bu m v ts ts.length):=⟨De hT4.o,λi v hv=>De (hT4.h i v hv),De hT4.d⟩
   have hq1:(O4++[some (MO.lst ((pv.map λz=>Bu m z.2 ts ts.length).map D.int))])[O4.length]?=some (some (MO.lst ((pv.map λz=>Bu m z.2 ts ts.length).map D.int))):=A7
   have epd:((pv.map (·.2)).map λv=>Bu m v ts ts.length)=pv.map λz=>Bu m z.2 ts ts.length:=by rw [List.map_map]; rfl
   refine Ad (AB (Ac.ev (Ac.cast (d':=.bl true) (CA (Ev.evp (CZ yf (hr.mono wE) (Aa 8) hT5.o (F0 _ _ _ _ _ wD) ⟨Q,m,s,_,_,_,rfl,hT5,rfl,rfl⟩)) (BO T.b_tuple (Ab (Aa 12) Ae) (CD (Or.inl (Or.inr (Or.inr ⟨_,rfl,hq1⟩))))) (Q1k hr (Or.inl rfl) (Or.inl rfl) (plT _) (plT _) (Nat.le_trans (Nat.min_le_left _ _) (Q0H _)))) (by rw [epd,Q0t])) ?_))
   obtain ⟨Y,rfl⟩:=hup4
   rw [List.append_assoc]
   exact ⟨⟨_,rfl⟩,rfl,hR⟩
theorem WP (Fn:As K "_law_text" "_law_text" KW f fd) (hm:mg "_law_text" = some (.ref f)) (hb:Binds K fd ["_law_turns_here"] []):Ah P w K mg base 3 "_law_text" Ou:=by
 refine AO (k:=2) Fn Iw hm hb (λds O R h=>?_) (λcdv A outer s H E ds O R hr h=>?_)
 ·obtain ⟨_,_,_,rfl,_⟩:=h; rfl
 ·obtain ⟨m,s,ts,rfl,hG,haw,hm,hs,htl,hR⟩:=h
  refine Fj ?_
  refine Ad (AJ 1 (Jh Ae ?_) Iw.nd)
  refine Ad (C5 (Bz (Aa 0) wB) (λi ρ O'=>(∃ v2 v3:Option D,ρ=[some (.tup (ts.map tD)),some (.ptr O.length),v2,v3])/\O'=O++[some (MO.lst (((ts.take i).map Ba).map D.str))]) ⟨⟨_,_,rfl⟩,rfl⟩ ?_ ?_)
  ·rintro i z ρ O' hz ⟨⟨v2,v3,rfl⟩,rfl⟩
   rw [List.getElem?_map] at hz
   obtain ⟨tn,hq,rfl⟩:=Option.map_eq_some_iff.mp hz
   have hi:=(List.getElem?_eq_some_iff.mp hq).1
   have hg:=hG tn (List.mem_of_getElem? hq)
   obtain ⟨xs,hxs⟩:=Q1Q (haw tn (List.mem_of_getElem? hq))
   have etk:((ts.take (i+1)).map Ba)=(ts.take i).map Ba++[Ba tn]:=by rw [List.take_add_one,hq,List.map_append]; rfl
   have hLl:((ts.take i).map Ba).length<=63:=by rw [List.length_map,List.length_take]; omega
   rw [etk]
   generalize (ts.take i).map Ba=L at hLl
   clear hq etk
   obtain ⟨said,so⟩:=tn
   replace hxs:said=xs.map some:=hxs
   subst hxs
   have etd:tD (xs.map some,so)=.tup [.tup (xs.map D.int),.int so]:=by unfold tD; rw [Hh]
   rw [etd]
   have hb:∀ x∈xs,0<=x/\x<=s:=λx hx=>hg.say (some x) (List.mem_map.mpr ⟨x,hx,rfl⟩) x rfl
   have h0:0<=so:=hg.so0
   have h1:so<=s:=hg.so1
   have hxl:xs.length=m:=by have h:(xs.map some).length=m:=hg.len; rw [List.length_map] at h; exact h
   have hrl:=G0 hg hs hm.2
   have hn:=sizeLine_eq
   have hrow:Ba (xs.map some,so)=Str.join " " (xs.map nS) ++ " : " ++ nS so:=U7 so (λe=>by rw [e] at hxl; have h:(0:Nat)=m:=hxl; omega)
   rw [hrow,Str.length_append,Str.length_append] at hrl
   have hok:JoinOk " " (xs.map nS)=true:=by
    have h2:=Fk (g:=λw:Str=>w.length) (B:=2) (l:=xs.map nS) λw hw=>by
     obtain ⟨x,hx,rfl⟩:=List.mem_map.mp hw
     have:=hb x hx
     obtain ⟨k,rfl⟩:=Int.eq_ofNat_of_zero_le this.1
     have h:=Ml k wF
     show (nS (k:Nat)).length<=2
     rw [h]; split <;> omega
    have h4:((" " : Str)).length=1:=by decide +kernel
    rw [List.length_map] at h2
    refine DL.joinOk_of ?_
    rw [h4,List.length_map]
    omega
   have e:D.lst (xs.map λx=>D.str (nS x))=D.lst ((xs.map nS).map D.str):=by rw [List.map_map]; rfl
   refine ⟨_,BV (AU (AC 2 Iw.nd) (AU (AC 3 Iw.nd) BU)),?_⟩
   refine Ad (HV (Aa 1) A7 (Ac.cast (d':=.str (Ba (xs.map some,so))) (Ak (Ak (Jj (ys:=xs.map nS) CM (Ac.cast (BN (λx:Int=>.str (nS x)) ["_law_what"] [] [] (Bz (Aa 2) wB) (by rw [sizeLine_eq]; omega) (by exact λq hq s H fp=>⟨[some _],rfl,(AC 0 (show List.Nodup (["_law_what"]:List Str) by decide +kernel)),⟨_,rfl,(BO T.b_str (Ab (Aa 0) Ae) (Hy ⟨by have:=hb q hq; omega,by have:=hb q hq; omega⟩))⟩⟩)) e) (Or.inl rfl) hok) CM (Ql wF)) (BO T.b_str (Ab (Aa 3) Ae) (Hy ⟨by omega,by omega⟩)) (Ql (by rw [Str.length_append]; show _+(nS so).length<=_; omega))) (congrArg D.str hrow.symm)) (by rw [sizeLine_eq,List.length_map]; omega) ?_)
   rw [B5]
   refine Au ⟨⟨_,_,rfl⟩,?_⟩
   rw [List.map_append]; rfl
  ·rintro ρ O' ⟨⟨v2,v3,rfl⟩,rfl⟩
   rw [List.length_map,List.take_length]
   have hok:JoinOk "\n" (ts.map Ba)=true:=by
    have h2:=Fk (g:=λw:Str=>w.length) (B:=78) (l:=ts.map Ba) λw hw=>by obtain ⟨u,hu,rfl⟩:=List.mem_map.mp hw; exact G0 (hG u hu) hs hm.2
    have h4:(("\n" : Str)).length=1:=by decide +kernel
    rw [List.length_map] at h2
    refine DL.joinOk_of ?_
    rw [h4,List.length_map]
    omega
   exact Ad (AB (Ac.ev (Jj (ys:=ts.map Ba) CM (Aa 1) (Or.inr (Or.inr ⟨_,rfl,A7⟩)) hok) ⟨⟨_,rfl⟩,rfl,hR⟩))
theorem WR (Fn:As K "_law_means" "_law_means" KZ f fd) (hm:mg "_law_means" = some (.ref f)) (hb:Binds K fd ["_law_many","_law_scale","_law_rule","_law_turns_here"] []) (yg:Cv P w K mg base CK2 5 "Meaner" (OP CK2)) (gk:Al P w K mg base CK2 1 "weights" (Om CK2)) (yh:Al P w K mg base CK2 6 "mean" (OM CK2)) (yi:Al P w K mg base CK2 6 "hear" (OS CK2)):Ah P w K mg base 13 "_law_means" OL:=by
 refine AO (k:=12) Fn D2 hm hb (λds O R h=>?_) (λcdv A outer s H E ds O R hr h=>?_)
 ·obtain ⟨_,_,_,_,_,rfl,_⟩:=h; rfl
 ·obtain ⟨m,s,t,b,ts,rfl,hm,hs,hf,hts,haw,htl,hR⟩:=h
  have hmI:(1:Int)<=(m:Nat)/\((m:Nat):Int)<=24:=⟨by omega,by omega⟩
  have s1:=hf.s1; have s2:=hf.s2; have t0:=hf.t0; have tb:=hf.tb; have b2:=hf.b2
  have hsb:=Kx hf
  refine Fj ?_
  refine Ad (HU (Aa 2) (BV (AU (AC 4 D2.nd) (AU (AC 5 D2.nd) BU))) ?_)
  refine Ad (AJ 6 (Dc yg (hr.mono wE) (Ab (Aa 0) (Ab (Aa 1) (Ab (Aa 4) (Ab (Aa 5) Ae)))) ⟨O.length,(m:Nat),s,t,b,rfl,A7,hmI,hs,⟨t0,tb,b2⟩,rfl,?_⟩) D2.nd)
  rw [B5]
  refine Ad (C5 (Bz (Aa 3) wB) (λi ρ O'=>∃ (ws:List Int) (u:Int) (v1 v2 v3 v4 v5 v6:Option D),ρ=[some (.int (m:Nat)),some (.int s),some (.tup [.int t,.int b]),some (.tup (ts.map tD)),some (.int t),some (.int b),some (.ptr O.length),v1,v2,v3,v4,v5,v6]/\O'=O++[some (.ins CK2 (A0 (m:Nat) s t b ws u))]/\C4 i ws u/\ws.length=m) ⟨List.replicate ((m:Nat):Int).toNat 1,1,_,_,_,_,_,_,rfl,rfl,YJ _,by rw [List.length_replicate,Int.toNat_natCast]⟩ ?_ ?_)
  ·rintro i z ρ O' hz ⟨ws,u,v1,v2,v3,v4,v5,v6,rfl,rfl,hwo,hwl⟩
   rw [List.getElem?_map] at hz
   obtain ⟨tn,hq,rfl⟩:=Option.map_eq_some_iff.mp hz
   have hi:i<63:=by have:=(List.getElem?_eq_some_iff.mp hq).1; omega
   have hok:=hts tn (List.mem_of_getElem? hq)
   obtain ⟨xs,hxs,hx⟩:=awT hok (haw tn (List.mem_of_getElem? hq))
   have hso:0<=tn.2/\tn.2<=s:=hok.2.2
   clear hq hok
   obtain ⟨said,so⟩:=tn
   replace hxs:said=xs.map some:=hxs
   replace hso:0<=so/\so<=s:=hso
   subst hxs
   have etd:tD (xs.map some,so)=.tup [.tup (xs.map D.int),.int so]:=by unfold tD; rw [Hh]
   rw [etd]
   have hlen:(ws.length:Int)=(m:Nat):=by rw [hwl]
   have hx1:=hx.1
   have hlx:ws.length=xs.length:=by omega
   have hns:=Qn s t b so ws xs hlx
   have hmo:=Qv so ws xs hlx (λw hw=>(hwo.w w hw).1)
   have hW:JF CK2 (O++[some (.ins CK2 (A0 (m:Nat) s t b ws u))]) O.length (m:Nat) s t b ws u:=A7
   refine ⟨_,BV (AU (AC 7 D2.nd) (AU (AC 8 D2.nd) BU)),?_⟩
   refine Ad (HU (Ev.evp (CN yh (hr.mono wE) (Aa 6) hW (FU _ _ _ _ _ _ wD) (Ab (Aa 7) Ae) ⟨O.length,i,(m:Nat),s,t,b,u,ws,xs,rfl,hW,hf,hmI,by omega,hwo,hlen,hx,rfl,rfl⟩)) (BV (AU (AC 9 D2.nd) (AU (AC 10 D2.nd) BU))) ?_)
   refine Ad (AJ 11 (Ac.ev (B2 (Ev.evp (CZ gk (hr.mono wE) (Aa 6) hW (FU _ _ _ _ _ _ wD) ⟨O.length,(m:Nat),s,t,b,u,ws,rfl,hW,rfl,rfl⟩)) Ai rfl) ?_) D2.nd)
   refine Ad (AX (CN yi (hr.mono wE) (Aa 6) hW (FU _ _ _ _ _ _ wD) (Ab (Aa 7) (Ab (Aa 8) Ae)) ⟨O.length,i,(m:Nat),s,t,b,u,so,ws,xs,rfl,hW,hf,hmI,by omega,hwo,hlen,hx,hso,?_⟩))
   rw [B5]
   have hno:=Yl hf hx.2 hso hwo
   have hnl:=Ym (sc:=s) (t:=t) (b:=b) (so:=so) hlx
   generalize DF s t b so xs ws=ns at hno hnl hns
   have hW2:JF CK2 (O++[some (.ins CK2 (A0 (m:Nat) s t b ns (u*(s*b))))]) O.length (m:Nat) s t b ns (u*(s*b)):=A7
   refine Ad (AJ 12 (Ac.ev (Ac.cast (d':=.int ((b-t)*ab (Fv ws xs-so*(AV ws).sum))) (Ak (Ak (Aa 5) (Aa 4) CV) (AT T.b_abs (Ab (Ak (Aa 9) (Ak (Aa 8) (Aa 10) (A8 (AZ.ok (Or.inl ⟨by omega,by omega⟩)))) CV) Ae) M0) (A8 (AZ.ok (Or.inl ⟨by omega,by omega⟩)))) rfl) ?_) D2.nd)
   have hfin:(decide (ws.sum>0)&&decide (ns.sum>s*b*ws.sum-(b-t)*ab (Fv ws xs-so*(AV ws).sum)))=false:=by
    by_cases hp:ws.sum>0
    ·have hc:AV ws=ws:=by unfold AV; rw [if_neg wF]
     have hab:ab (Fv ws xs-so*(AV ws).sum)<=sm (gO so) (ws.zip xs):=by
      unfold Fv ab
      rw [hc]
      split <;> omega
     have:=Int.mul_le_mul_of_nonneg_left hab (show 0<=b-t by omega)
     rw [decide_eq_false (show ¬ ns.sum>s*b*ws.sum-(b-t)*ab (Fv ws xs-so*(AV ws).sum) by omega),Bool.and_false]
    ·rw [decide_eq_false hp]; rfl
   refine Ad (AW (Bk.cast (k':=false) (B9.t (Jf (A1 (AT T.b_sum (Ab (Aa 11) Ae) (DY (by first | exact Or.inr rfl | exact Or.inl (Or.inl rfl) | exact Or.inl (Or.inr (Or.inl rfl)) | exact Or.inl (Or.inr (Or.inr ⟨_,rfl,by first | assumption | rfl⟩))))) Ai Gx) (λhbb=>(MG (A1 (AT T.b_sum (Ab (B2 (Ev.evp (CZ gk (hr.mono wE) (Aa 6) hW2 (FU _ _ _ _ _ _ wD) ⟨O.length,(m:Nat),s,t,b,u*(s*b),ns,rfl,hW2,rfl,rfl⟩)) Ai rfl) Ae) (DY (by first | exact Or.inr rfl | exact Or.inl (Or.inl rfl) | exact Or.inl (Or.inr (Or.inl rfl)) | exact Or.inl (Or.inr (Or.inr ⟨_,rfl,by first | assumption | rfl⟩))))) (Ak (Ak (Ak (Aa 1) (Aa 5) (A8 (AZ.ok (Or.inl ⟨by omega,by omega⟩)))) (AT T.b_sum (Ab (Aa 11) Ae) (DY (by first | exact Or.inr rfl | exact Or.inl (Or.inl rfl) | exact Or.inl (Or.inr (Or.inl rfl)) | exact Or.inl (Or.inr (Or.inr ⟨_,rfl,by first | assumption | rfl⟩))))) (A8 (AZ.ok (Or.inl ⟨by omega,by omega⟩)))) (Aa 12) CV) Gx))))) hfin) (λhk=>by cases hk) (λ_=>Au ?_))
   exact Au ⟨ns,u*(s*b),_,_,_,_,_,_,rfl,rfl,hno,by rw [hnl,hwl]⟩
  ·rintro ρ O' ⟨ws,u,v1,v2,v3,v4,v5,v6,rfl,rfl,hwo,hwl⟩
   exact Ad (AB (Ac.ev Fd ⟨⟨_,rfl⟩,rfl,hR⟩))
theorem WK (Fn:As K "law" "law" F9 f fd)  (ka:Ah P w K mg base 1 "_law_cell_at" (Ao Kk)) (jq:Ah P w K mg base 1 "_law_draw" (Ao Ip)) (yj:Ah P w K mg base 1 "_law_hand" (Gc PZ Pw)) (yk:Ah P w K mg base 1 "_law_fraction" (Gc P0 Px)) (yl:Ah P w K mg base 3 "_law_turns" (Ao Op)) (ym:Ah P w K mg base 3 "_law_text" Ou) (yn:Ah P w K mg base 5 "read" (Ao OE)) (yo:Ah P w K mg base 3 "written" (Ao Oi)) (gl:Ah P w K mg base 13 "_law_weighed" (Oo ⟨CK1,CK6,CK4,CK3,CK5,CK0⟩)) (yp:Ah P w K mg base 15 "_law_followed" OU) (yq:Ah P w K mg base 15 "_law_rounds" OB) (yr:Ah P w K mg base 19 "_law_tier" Os) (yt:Ah P w K mg base 13 "_law_means" OL) (jp:Cv P w K mg base CK6 6 "Weigher" (F5 CK6 CK4)) (kx:Cv P w K mg base CK4 7 "Shifter" (Kg CK4)):AM P w K mg base AQ 41 f fd ["_law_script"] (AN K GN):=by
 refine Bc (k:=40) Fn DC (λds O R h=>?_) (λcdv A outer s H E ds O R hr h=>?_)
 ·obtain ⟨_,rfl,_⟩:=h; rfl
 ·obtain ⟨ns,rfl,hl,hR⟩:=h
  refine Ad (JO (Ck yj (hr.mono wE) (Ab (AA ka (hr.mono wE) (Ab (Aa 0) (Ab Ai Ae)) ⟨_,_,rfl,by first | decide | omega,rfl⟩) Ae) ⟨⟨_,rfl⟩,λd hd=>?_⟩))
  obtain ⟨m,s,rfl,hm1,hm2,hs1,hs2⟩:=hd
  refine ⟨_,BV (AU (AC 1 DC.nd) (AU (AC 2 DC.nd) BU)),?_⟩
  refine Ad (JO (Ck yk (hr.mono wE) (Ab (AA ka (hr.mono wE) (Ab (Aa 0) (Ab Ai Ae)) ⟨_,_,rfl,by first | decide | omega,rfl⟩) Ae) ⟨⟨_,rfl⟩,λd hd=>?_⟩))
  obtain ⟨t,b,rfl,ht0,htb,hb⟩:=hd
  refine ⟨_,BV (AU (AC 3 DC.nd) (AU (AC 4 DC.nd) BU)),?_⟩
  have hm:1<=m/\m<=24:=⟨hm1,hm2⟩
  have hs:1<=s/\s<=10:=⟨hs1,hs2⟩
  have hmI:(1:Int)<=(m:Nat)/\((m:Nat):Int)<=24:=⟨by omega,by omega⟩
  have hf:B8 s t b:=⟨hs1,hs2,ht0,htb,hb⟩
  refine Ad (AJ 5 (Ac.ev (AA ka (hr.mono wE) (Ab (Aa 0) (Ab Ai Ae)) ⟨_,_,rfl,by first | decide | omega,rfl⟩) ?_) DC.nd)
  refine Ad (AJ 6 (Ac.ev (AA yl (hr.mono wE) (Ab (Aa 0) (Ab (Aa 1) (Ab (Aa 2) (Ab Fd Ae)))) ⟨ns,m,s,false,rfl,hl,hm2,hs1,rfl⟩) ?_) DC.nd)
  generalize FI ns 2=c
  have hts:∀ t∈(Eb ns).map (D1 m s false),B3 m s t:=λt ht=>by
   obtain ⟨x,_,rfl⟩:=List.mem_map.mp ht
   exact SK hs1
  have haw:FR ((Eb ns).map (D1 m s false)):=λt ht=>by
   obtain ⟨x,_,rfl⟩:=List.mem_map.mp ht
   exact λw hw=>by
    obtain ⟨k,_,rfl⟩:=List.mem_map.mp hw
    exact ⟨_,rfl⟩
  have htl0:((Eb ns).map (D1 m s false)).length<=60:=by rw [List.length_map]; exact Q1o
  generalize (Eb ns).map (D1 m s false)=ts at hts haw htl0
  have htl:ts.length<=63:=by omega
  have hG:∀ t∈ts,CU m s t:=λt ht=>ZI (hts t ht)
  refine Ad (AJ 7 (Ac.ev (Ev.evp (Ck ym (hr.mono wE) (Ab (Aa 6) Ae) ⟨m,s,ts,rfl,hG,haw,hm,hs2,htl,rfl,rfl⟩)) ?_) DC.nd)
  refine Ad (AJ 8 (Ac.ev (AA yn (hr.mono wE) (Ab (Aa 1) (Ab (Aa 2) (Ab (Aa 7) Ae))) ⟨m,s,ts,rfl,hG,hm2,⟨by omega,hs2⟩,htl,rfl⟩) ?_) DC.nd)
  refine Ad (AW (Bk.cast (k':=false) (B9.t (Ea (A1 (Aa 8) (Aa 6) (Rw hr (Or.inl rfl) (Or.inl rfl) (P5 _) (P5 _) (Nat.le_trans (Nat.min_le_left _ _) (by have:=Rj ts; show CP _+1<=60; omega)))) (λhbb=>(D9 (A1 (AA yo (hr.mono wE) (Ab (Aa 8) Ae) ⟨m,s,ts,rfl,hG,hm2,hs2,htl,rfl⟩) (Aa 7) MR))))) (by rw [Q0r,beq_self_eq_true]; rfl)) (λhk=>by cases hk) (λ_=>Au ?_))
  refine Ad (AJ 9 (Ac.ev (Ak Ai (Ak (Ak (Aa 5) Ai (DU ⟨wC,wC⟩)) Ai (Ca wC)) Bs) ?_) DC.nd)
  have hpa:2<=2+c/8%99/\2+c/8%99<=100:=by omega
  generalize 2+c/8%99=pa at hpa
  refine Ad (AJ 10 (Ac.ev (Ak Ai (Ak (Ak (Aa 5) Ai (DU ⟨wC,wC⟩)) (Ak (Aa 9) Ai CV) (Ca wF)) Bs) ?_) DC.nd)
  have hs0:=Int.emod_nonneg (c/800) (show pa-1≠0 by omega)
  have hs9:=Int.emod_lt_of_pos (c/800) (show 0<pa-1 by omega)
  have hsh:1<=1+c/800%(pa-1)/\1+c/800%(pa-1)<pa:=by omega
  generalize 1+c/800%(pa-1)=sh at hsh
  clear hs0 hs9
  obtain ⟨M,hM,hM1,hM2⟩:=at3M c
  obtain ⟨ps,hpe⟩:∃ ps:List Int,ps=(List.range m).map λk:Nat=>BX c (70+(0+(k:Int)))%M:=⟨_,rfl⟩
  have hps:Eh (m:Nat) ps:=⟨by rw [hpe,List.length_map,List.length_range],λp hp=>by
   rw [hpe] at hp
   obtain ⟨k,_,rfl⟩:=List.mem_map.mp hp
   have h1:=Int.emod_nonneg (BX c (70+(0+(k:Int)))) (show M≠0 by omega)
   have h2:=Int.emod_lt_of_pos (BX c (70+(0+(k:Int)))) (show 0<M by omega)
   have h3:(10:Int) ^ (40:Int).toNat<=10 ^ (60:Int).toNat-1:=by decide +kernel
   exact ⟨h1,Int.le_trans (Int.le_of_lt h2) (Int.le_trans hM2 h3)⟩⟩
  have epe:D.tup ((List.range ((m:Nat):Int).toNat).map λk:Nat=>D.int (BX c (70+(0+(k:Int)))%M))=.tup (ps.map D.int):=by rw [hpe,Int.toNat_natCast,List.map_map]; rfl
  refine Ad (AJ 11 (Ac.ev (Ac.cast (BO T.b_tuple (Ab (BN (λk:Nat=>D.int (BX c (70+(0+(k:Int)))%M)) ["_law_k"] ["_law_cell"] [5] (FF (Aa 1) T.b_range wC wC) (by rw [sizeLine_eq,List.length_range,Int.toNat_natCast]; omega) (by exact λq hq s H fp=>⟨[some _],rfl,(AC 0 (show List.Nodup (["_law_k","_law_cell"]:List Str) by decide +kernel)),⟨_,rfl,(Ak (AA jq (hr.mono wE) (Ab (Aa 1) (Ab (Ak Ai (Aa 0) Bs) Ae)) ⟨_,_,rfl,⟨by omega,by have:=List.mem_range.mp hq; omega⟩,rfl⟩) (Fc (Ji (Ab Ai (Ab Ai (Ab (Ak Ai Ai (Qj ⟨wC,wC,by decide⟩)) Ae)))) (by first | exact Or.inl rfl | exact Or.inr (Or.inl rfl) | exact Or.inr (Or.inr ⟨_,rfl,by first | assumption | rfl⟩)) (Ak (Aa 1) Ai (Ca wC)) hM) (Ca wF))⟩⟩)) Ae) (CD (by first | exact Or.inr rfl | exact Or.inl (Or.inl rfl) | exact Or.inl (Or.inr (Or.inl rfl)) | exact Or.inl (Or.inr (Or.inr ⟨_,rfl,by first | assumption | rfl⟩))))) epe) ?_) DC.nd)
  clear hpe epe hM hM1 hM2
  have hV:∀ (sf:Bool),Df sf ⟨(m:Nat),s,t,b,sh,pa⟩:=λsf=>⟨hf,hmI.1,hmI.2,λ_=>⟨hsh.1,hsh.2,hpa.2⟩⟩
  have okV:∀ (sf:Bool),Br 0 m s (.v sf ⟨(m:Nat),s,t,b,sh,pa⟩ (List.replicate m 1) 1):=λsf=>⟨hV sf,rfl,rfl,HY m,List.length_replicate⟩
  refine Ad (NB (R:=λk O'=>k=false/\O'=O) (Re (Rf (R5 (MK gl (hr.mono wE) (Fe (Dc jp (hr.mono wE) (Ab (Aa 1) (Ab (Aa 2) (Ab (Aa 3) (Ab (Aa 4) Ae)))) ⟨O.length,false,⟨(m:Nat),s,t,b,sh,pa⟩,rfl,A7,hV false,rfl,by rw [B5]; exact BK.as (Ab (Aa 8) Ae) ⟨O.length,m,s,false,⟨(m:Nat),s,t,b,sh,pa⟩,ts,rfl,A7,okV false,hm,hs,hts,htl,λO' hb=>⟨hb.up,rfl,⟨true,rfl,rfl,rfl⟩⟩⟩⟩)))))) (λk O' h=>⟨λhk=>absurd (h.1.symm.trans hk) Bool.false_ne_true,λ_=>Au ?_⟩))
  obtain ⟨_,rfl⟩:=h
  refine Ad (NB (R:=λk O1=>k=false/\O1=O') (Re (Rf (R5 (MK gl (hr.mono wE) (Fe (Dc kx (hr.mono wE) (Ab (Aa 1) (Ab (Aa 2) (Ab (Aa 3) (Ab (Aa 4) (Ab (Aa 10) (Ab (Aa 9) Ae)))))) ⟨O'.length,⟨(m:Nat),s,t,b,sh,pa⟩,rfl,A7,(hV true).so,rfl,by rw [B5]; exact BK.as (Ab (Aa 8) Ae) ⟨O'.length,m,s,true,⟨(m:Nat),s,t,b,sh,pa⟩,ts,rfl,A7,okV true,hm,hs,hts,htl,λO2 hb=>⟨hb.up,rfl,⟨true,rfl,rfl,rfl⟩⟩⟩⟩)))))) (λk O1 h=>⟨λhk=>absurd (h.1.symm.trans hk) Bool.false_ne_true,λ_=>Au ?_⟩))
  obtain ⟨_,rfl⟩:=h
  refine Ad (AW (Bk.cast (k':=false) (B9.t (Ea (Ct (Cb (Ev.evp (Ck yp (hr.mono wE) (Ab (Aa 1) (Ab (Aa 2) (Ab (Aa 11) (Ab (Aa 8) Ae)))) ⟨m,s,ps,ts,rfl,hm,hs,hps,hts,haw,htl,rfl,rfl⟩)))) (λhbb=>(D9 (Ct (Cb (Ev.evp (Ck yq (hr.mono wE) (Ab (Aa 1) (Ab (Aa 2) (Ab (Aa 8) Ae))) ⟨m,s,ts,rfl,hm,hs,hts,haw,htl,rfl,rfl⟩)))))))) rfl) (λhk=>by cases hk) (λ_=>Au ?_))
  refine Ad (AB (Ac.ev (DH (Ev.evp (Ck yr (hr.mono wE) (Ab (Aa 1) (Ab (Aa 2) (Ab (Cr (Ab (Aa 3) (Ab (Aa 4) Ae))) (Ab (Aa 11) (Ab (Aa 8) Ae))))) ⟨m,s,t,b,ps,ts,rfl,hm,hs,hf,hps,hts,htl0,rfl,rfl⟩)) (λhbb=>(Dl (Ev.evp (Ck yt (hr.mono wE) (Ab (Aa 1) (Ab (Aa 2) (Ab (Cr (Ab (Aa 3) (Ab (Aa 4) Ae))) (Ab (Aa 8) Ae)))) ⟨m,s,t,b,ts,rfl,hm,hs,hf,hts,haw,htl,rfl,rfl⟩))))) ?_))
  exact hR
end
theorem YS {α:Type} {us:List α} (h:us.length=1):∃ x0,us=[x0]:=by
 match us,h with
 | [x0],_=>exact ⟨_,rfl⟩
theorem YR {α:Type} {us:List α} (h:us.length=2):∃ x0 x1,us=[x0,x1]:=by
 match us,h with
 | [x0,x1],_=>exact ⟨_,_,rfl⟩
theorem QD {α:Type} {us:List α} (h:us.length=3):∃ x0 x1 x2,us=[x0,x1,x2]:=by
 match us,h with
 | [x0,x1,x2],_=>exact ⟨_,_,_,rfl⟩
theorem QC {α:Type} {us:List α} (h:us.length=4):∃ x0 x1 x2 x3,us=[x0,x1,x2,x3]:=by
 match us,h with
 | [x0,x1,x2,x3],_=>exact ⟨_,_,_,_,rfl⟩
theorem QB {α:Type} {us:List α} (h:us.length=5):∃ x0 x1 x2 x3 x4,us=[x0,x1,x2,x3,x4]:=by
 match us,h with
 | [x0,x1,x2,x3,x4],_=>exact ⟨_,_,_,_,_,rfl⟩
theorem YQ {α:Type} {us:List α} (h:us.length=7):∃ x0 x1 x2 x3 x4 x5 x6,us=[x0,x1,x2,x3,x4,x5,x6]:=by
 match us,h with
 | [x0,x1,x2,x3,x4,x5,x6],_=>exact ⟨_,_,_,_,_,_,_,rfl⟩
def FD (K:PySem.W.Frag) (x:Str) (st:Stmt) (f:Addr):Prop:=PySem.W.nsIn K mainGlobals x=some (some (.ref f))/\∃ fd,As K x x st f fd
def FM (K:PySem.W.Frag) (C:Addr) (x q:Str) (st:Stmt) (f:Addr):Prop:=PySem.W.findIn K (.ref C) x=some (some (.ref f))/\PySem.W.isFn K (.ref f)=true/\∃ fd,As K x q st f fd
section
variable {K:PySem.W.Frag} {C:Addr} {x q:Str} {st:Stmt} {f:Addr} {oc:Value} {od an:Option Addr} {osl:Array (Option Value)} {kV doc pm cdv ct:Value}
theorem fd_mk (a:PySem.W.nsIn K mainGlobals x=some (some (.ref f))) (l:K.lookup f=some ⟨oc,od,.func (PySem.W.fnOf x x (Dw st) (CQ st) (An st) .none kV doc pm an cdv ct),osl⟩) (c:PySem.W.codeIn K cdv x=true) (k:PySem.W.keepIn K (.ref f)=true):FD K x st f:=⟨a,_,QW l c k⟩
theorem fm_mk (a:PySem.W.findIn K (.ref C) x=some (some (.ref f))) (i:PySem.W.isFn K (.ref f)=true) (l:K.lookup f=some ⟨oc,od,.func (PySem.W.fnOf x q (Dw st) (CQ st) (An st) .none kV doc pm an cdv ct),osl⟩) (c:PySem.W.codeIn K cdv q=true) (k:PySem.W.keepIn K (.ref f)=true):FM K C x q st f:=⟨a,i,_,QW l c k⟩
end
section
variable {P:Program} {w:World} {K:PySem.W.Frag} {mg:Str->Option Value} {base:Heap} {x q:Str} {st:Stmt} {f:Addr} {fd:FuncData} {ps:List Str} {k:Nat} {sp:AH}
theorem Ay (E:As K x q st f fd) (h:∀ (kV doc pm:Value) (an:Option Addr) (cdv ct:Value) (us:List Value),us.length=ps.length->bindArgs (PySem.W.fnOf x q (Dw st) (CQ st) (An st) .none kV doc pm an cdv ct) ⟨us,[]⟩=pure (ps.zip us):=by intro _ _ _ _ _ _ us hl; first | (obtain ⟨_,rfl⟩:=YS hl; rfl) | (obtain ⟨_,_,rfl⟩:=YR hl; rfl) | (obtain ⟨_,_,_,rfl⟩:=QD hl; rfl) | (obtain ⟨_,_,_,_,rfl⟩:=QC hl; rfl) | (obtain ⟨_,_,_,_,_,rfl⟩:=QB hl; rfl) | (obtain ⟨_,_,_,_,_,_,_,rfl⟩:=YQ hl; rfl)):L2.Binds K fd ps []:=E.binds h
theorem Bl {C:Addr} (W:AM P w K mg base AQ k f fd ps (AN K sp)) (a:PySem.W.findIn K (.ref C) x=some (some (.ref f))) (i:PySem.W.isFn K (.ref f)=true) (E:PySem.W.keepIn K (.ref f)=true) (b:L2.Binds K fd ps []) (c:A5 K C):Al P w K mg base C k x sp:=⟨⟨_,_,_,W,⟨a,i,E⟩,b⟩,c⟩
theorem Gh {C:Addr} (W:AM P w K mg base AQ k f fd ps (AN K sp)) (m:PySem.W.makesIn K C=true) (a:PySem.W.findIn K (.ref C) "__init__" = some (some (.ref f))) (i:PySem.W.isFn K (.ref f)=true) (E:PySem.W.keepIn K (.ref C)=true) (b:L2.Binds K fd ps []) (t:mg x=some (.ref C)):Cv P w K mg base C k x sp:=⟨⟨_,_,_,W,⟨m,a,i,E⟩,b⟩,t⟩
end
def NZ (K:PySem.W.Frag) (x:Str):Prop:=PySem.W.nsIn K mainGlobals x=some none
def CB (K:PySem.W.Frag) (C:Addr):Prop:=PySem.W.plainGet K C Str.empty=true/\PySem.W.hasDictIn K C=true/\PySem.W.plainOver K C=true/\PySem.W.findIn K (.ref C) "__setattr__" = some (some (.builtin "object.__setattr__"))/\PySem.W.findIn K (.ref C) "__class__" = some (some (.builtin "object.__class__"))/\PySem.W.mroIn K C (.type "object")=some true
theorem CB.ty {K:PySem.W.Frag} {C:Addr} (h:CB K C) (gn:PySem.W.specialIn K (.builtin "object.__class__") "__get__" = some (some (.builtin "getset_descriptor.__get__"))) (gt:PySem.W.takesIn K (.builtin "object.__class__")=some true):Dr K C:=⟨⟨h.1,h.2.1,h.2.2.1,h.2.2.2.1⟩,h.2.2.2.2.1,gn,gt,h.2.2.2.2.2⟩
theorem all_mk {l:PySem.W.OpenLaw} {w:World} {K:PySem.W.Frag} {h:Heap} {mg:Str->Option Value} {fa:Addr} (X:K.In h) (G:h.Ns mainGlobals mg) (hfa:mg "law" = some (.ref fa)) {f0 f1 f2 f3 f4 f5 f6 f7 f8 f9 f10 f11 f12 f13 f14 f15 f16 f17 f18 f19 f20 f21 f22 f23 f24 f25 f26 f27 f28 f29 f30 f31 f32 f33 f34 f35 f36 f37 f38 f39 f40 f41 f42 f43 f45 f46 f47 f48 f49 f50 f51 f52 f53 f54 f55 f56 f57 f58 f59 f60 f61 f62 f63 f64 f65 f66 f67 f68 f69 f70 f71 f72 f73 f74 f75 f76 f77 f78 f79 f80 f81 f82 f83 f84 f85 f86 f87 f88 f89:Addr} {f44:Addr} {od44 an44:Option Addr} {sl44:Array (Option Value)} {oc44 kV44 dc44 pm44 cd44 ct44:Value} {CK1 CK6 CK4 CK3 CK0 CK5 CK2:Addr} {tk0:Tok} {tk1:Tok} {tk2:Tok} {tk3:Tok} {tk4:Tok} {tk5:Tok} {tk6:Tok} {tk7:Tok} {T44:Addr} {cT44:Value} {dT44:Option Addr} {nT44:Nat} {sT44:Array (Option Value)}
  (aC0:PySem.W.nsIn K mainGlobals "Hand" = some (some (.ref CK1)))
  (aC1:PySem.W.nsIn K mainGlobals "Weigher" = some (some (.ref CK6)))
  (aC2:PySem.W.nsIn K mainGlobals "Shifter" = some (some (.ref CK4)))
  (aC3:PySem.W.nsIn K mainGlobals "Rounder" = some (some (.ref CK3)))
  (aC4:PySem.W.nsIn K mainGlobals "Follower" = some (some (.ref CK0)))
  (aC5:PySem.W.nsIn K mainGlobals "Tier" = some (some (.ref CK5)))
  (aC6:PySem.W.nsIn K mainGlobals "Meaner" = some (some (.ref CK2)))
  (d0:FD K "is_whole" K6 f0)
  (d1:FD K "counted" Lf f1)
  (d2:FD K "middle" KP f2)
  (d3:FD K "check_within" Lg f3)
  (d4:FD K "check_scale" Ll f4)
  (d5:FD K "check_making" Lp f5)
  (d6:FD K "check_fraction" Lq f6)
  (d7:FD K "check_share" Lk f7)
  (d8:FD K "is_on_scale" K9 f8)
  (d9:FD K "is_said" K8 f9)
  (d10:FD K "check_said" Lm f10)
  (d11:FD K "power" KL f11)
  (d12:FD K "charge" Lr f12)
  (d13:FD K "is_turn" K7 f13)
  (d14:FD K "check_turn" Li f14)
  (d15:FD K "awake_in" Ls f15)
  (d16:FD K "middle_awake" KO f16)
  (d17:FD K "times_awake" KC f17)
  (d18:FD K "times_asleep" KD f18)
  (d19:FD K "times" KF f19)
  (d20:FD K "check_turns" Lh f20)
  (d21:FD K "check_push" Ln f21)
  (d22:FD K "push_of" KK f22)
  (d23:FD K "first_least" Le f23)
  (d24:FM K CK1 "__init__" "Hand.__init__" L3 f24)
  (d25:FM K CK1 "heeded" "Hand.heeded" LZ f25)
  (d26:FM K CK6 "heeded" "Weigher.heeded" Ly f26)
  (d27:FM K CK3 "heeded" "Rounder.heeded" LO f27)
  (d28:FM K CK1 "say" "Hand.say" LY f28)
  (d29:FM K CK1 "hear" "Hand.hear" L0 f29)
  (d30:FM K CK1 "anew" "Hand.anew" L1 f30)
  (d31:FM K CK3 "__init__" "Rounder.__init__" LR f31)
  (d32:FM K CK3 "rounds" "Rounder.rounds" LN f32)
  (d33:FM K CK3 "hear" "Rounder.hear" LP f33)
  (d34:FM K CK3 "anew" "Rounder.anew" LQ f34)
  (d35:FM K CK6 "__init__" "Weigher.__init__" LB f35)
  (d36:FM K CK4 "__init__" "Shifter.__init__" LM f36)
  (d37:FM K CK6 "total" "Weigher.total" Lx f37)
  (d38:FM K CK6 "weigh" "Weigher.weigh" Lw f38)
  (d39:FM K CK4 "deal" "Shifter.deal" LK f39)
  (d40:FM K CK6 "hear" "Weigher.hear" Lz f40)
  (d41:FM K CK4 "hear" "Shifter.hear" LJ f41)
  (d42:FM K CK6 "anew" "Weigher.anew" LA f42)
  (d43:FM K CK4 "anew" "Shifter.anew" LL f43)
  (a44:PySem.W.findIn K (.ref CK0) "__init__" = some (some (.ref f44)))
  (i44:PySem.W.isFn K (.ref f44)=true)
  (l44:K.lookup f44=some ⟨oc44,od44,.func (PySem.W.fnOf "__init__" "Follower.__init__" (Dw Ga) (CQ Ga) (An Ga) (.ref T44) kV44 dc44 pm44 an44 cd44 ct44),sl44⟩)
  (t44:K.lookup T44=some ⟨cT44,dT44,.seq #[.none] nT44,sT44⟩)
  (c44:PySem.W.codeIn K cd44 "Follower.__init__" = true)
  (k44:PySem.W.keepIn K (.ref f44)=true)
  (d45:FM K CK0 "say" "Follower.say" L5 f45)
  (d46:FM K CK0 "hear" "Follower.hear" L6 f46)
  (d47:FM K CK0 "anew" "Follower.anew" L7 f47)
  (d48:FD K "are_alike" Lv f48)
  (d49:FD K "is_head" Lc f49)
  (d50:FD K "check_tier" Lj f50)
  (d51:FM K CK5 "__init__" "Tier.__init__" LI f51)
  (d52:FM K CK5 "hand_charges" "Tier.hand_charges" LE f52)
  (d53:FM K CK5 "ask" "Tier.ask" LG f53)
  (d54:FM K CK5 "say" "Tier.say" LC f54)
  (d55:FM K CK5 "hear" "Tier.hear" LD f55)
  (d56:FM K CK5 "anew" "Tier.anew" LH f56)
  (d57:FD K "ran" KJ f57)
  (d58:FD K "word_of" KA f58)
  (d59:FD K "row_of" KG f59)
  (d60:FD K "written" Kz f60)
  (d61:FD K "is_in_figures" Lb f61)
  (d62:FD K "is_number" La f62)
  (d63:FD K "are_words" Lu f63)
  (d64:FD K "what_of" KB f64)
  (d65:FD K "read_row" KH f65)
  (d66:FD K "read" KI f66)
  (d67:FD K "_law_cell_at" K5 f67)
  (d68:FD K "_law_draw" K4 f68)
  (d69:FD K "_law_fraction" K1 f69)
  (d70:FD K "_law_hand" K0 f70)
  (d71:FD K "_law_turn" KT f71)
  (d72:FD K "_law_turns" KS f72)
  (d73:FD K "_law_erring" K3 f73)
  (d74:FD K "_law_weighed" KR f74)
  (d75:FD K "most_following" KM f75)
  (d76:FM K CK0 "scores" "Follower.scores" L4 f76)
  (d77:FD K "check_none_sleeps" Lo f77)
  (d78:FM K CK2 "__init__" "Meaner.__init__" LX f78)
  (d79:FM K CK2 "weights" "Meaner.weights" LS f79)
  (d80:FM K CK2 "mean" "Meaner.mean" LU f80)
  (d81:FM K CK2 "hear" "Meaner.hear" LW f81)
  (d82:FD K "_law_followed" K2 f82)
  (d83:FD K "_law_rounds" KY f83)
  (d84:FD K "has_greatest" Ld f84)
  (d85:FD K "most_errors" KN f85)
  (d86:FD K "_law_tier" KU f86)
  (d87:FD K "_law_text" KW f87)
  (d88:FD K "_law_means" KZ f88)
  (d89:FD K "law" F9 f89)
  (cb0:CB K CK1)
  (n0_many:Ap K CK1 "many")
  (n0_scale:Ap K CK1 "scale")
  (q0_Hand:PySem.W.kitOne K (.ref CK1) (.ref CK1)=some true)
  (mk0:PySem.W.makesIn K CK1=true)
  (kc0:PySem.W.keepIn K (.ref CK1)=true)
  (so0___init__:PySem.W.specialIn K (.ref CK1) "__getattribute__" = some (some (.builtin "type.__getattribute__")))
  (rd0___init__:PySem.W.readsIn K CK1 (.type "type")=true)
  (fc0___init__:PySem.W.findCls K (.ref CK1) (.type "type") "__init__" = some (.val (.ref f24)))
  (cb1:CB K CK6)
  (n1_many:Ap K CK6 "many")
  (n1_scale:Ap K CK6 "scale")
  (n1_top:Ap K CK6 "top")
  (n1_bottom:Ap K CK6 "bottom")
  (n1_tops:Ap K CK6 "tops")
  (n1_under:Ap K CK6 "under")
  (q1_Hand:PySem.W.kitOne K (.ref CK6) (.ref CK1)=some true)
  (mk1:PySem.W.makesIn K CK6=true)
  (kc1:PySem.W.keepIn K (.ref CK6)=true)
  (e1_say:PySem.W.findIn K (.ref CK6) "say" = some (some (.ref f28)))
  (so1___init__:PySem.W.specialIn K (.ref CK6) "__getattribute__" = some (some (.builtin "type.__getattribute__")))
  (rd1___init__:PySem.W.readsIn K CK6 (.type "type")=true)
  (fc1___init__:PySem.W.findCls K (.ref CK6) (.type "type") "__init__" = some (.val (.ref f35)))
  (cb2:CB K CK4)
  (n2_many:Ap K CK4 "many")
  (n2_scale:Ap K CK4 "scale")
  (n2_top:Ap K CK4 "top")
  (n2_bottom:Ap K CK4 "bottom")
  (n2_tops:Ap K CK4 "tops")
  (n2_under:Ap K CK4 "under")
  (n2_share:Ap K CK4 "share")
  (n2_parts:Ap K CK4 "parts")
  (q2_Hand:PySem.W.kitOne K (.ref CK4) (.ref CK1)=some true)
  (mk2:PySem.W.makesIn K CK4=true)
  (kc2:PySem.W.keepIn K (.ref CK4)=true)
  (e2_heeded:PySem.W.findIn K (.ref CK4) "heeded" = some (some (.ref f26)))
  (e2_say:PySem.W.findIn K (.ref CK4) "say" = some (some (.ref f28)))
  (e2_total:PySem.W.findIn K (.ref CK4) "total" = some (some (.ref f37)))
  (e2_weigh:PySem.W.findIn K (.ref CK4) "weigh" = some (some (.ref f38)))
  (cb3:CB K CK3)
  (n3_many:Ap K CK3 "many")
  (n3_scale:Ap K CK3 "scale")
  (n3_inside:Ap K CK3 "inside")
  (n3_over:Ap K CK3 "over")
  (q3_Hand:PySem.W.kitOne K (.ref CK3) (.ref CK1)=some true)
  (mk3:PySem.W.makesIn K CK3=true)
  (kc3:PySem.W.keepIn K (.ref CK3)=true)
  (e3_say:PySem.W.findIn K (.ref CK3) "say" = some (some (.ref f28)))
  (cb4:CB K CK0)
  (n4_many:Ap K CK0 "many")
  (n4_scale:Ap K CK0 "scale")
  (n4_push:Ap K CK0 "push")
  (n4_reached:Ap K CK0 "reached")
  (q4_Hand:PySem.W.kitOne K (.ref CK0) (.ref CK1)=some true)
  (mk4:PySem.W.makesIn K CK0=true)
  (kc4:PySem.W.keepIn K (.ref CK0)=true)
  (cb5:CB K CK5)
  (n5_many:Ap K CK5 "many")
  (n5_scale:Ap K CK5 "scale")
  (n5_hands:Ap K CK5 "hands")
  (n5_head:Ap K CK5 "head")
  (n5_charged:Ap K CK5 "charged")
  (q5_Hand:PySem.W.kitOne K (.ref CK5) (.ref CK1)=some true)
  (mk5:PySem.W.makesIn K CK5=true)
  (kc5:PySem.W.keepIn K (.ref CK5)=true)
  (cb6:CB K CK2)
  (n6_many:Ap K CK2 "many")
  (n6_scale:Ap K CK2 "scale")
  (n6_top:Ap K CK2 "top")
  (n6_bottom:Ap K CK2 "bottom")
  (n6_tops:Ap K CK2 "tops")
  (n6_under:Ap K CK2 "under")
  (mk6:PySem.W.makesIn K CK2=true)
  (kc6:PySem.W.keepIn K (.ref CK2)=true)
  (gn:PySem.W.specialIn K (.builtin "object.__class__") "__get__" = some (some (.builtin "getset_descriptor.__get__")))
  (gt:PySem.W.takesIn K (.builtin "object.__class__")=some true)
  (z0:NZ K "len")
  (z1:NZ K "tuple")
  (z2:NZ K "list")
  (z3:NZ K "sum")
  (z4:NZ K "zip")
  (z5:NZ K "sorted")
  (z6:NZ K "range")
  (z7:NZ K "isinstance")
  (z8:NZ K "int")
  (z9:NZ K "bool")
  (z10:NZ K "all")
  (z11:NZ K "any")
  (z12:NZ K "enumerate")
  (z13:NZ K "abs")
  (z14:NZ K "min")
  (z15:NZ K "max")
  (z16:NZ K "str")
  (y0:PySem.W.nsIn K mainGlobals "MOST_ADVISERS" = some (some (.int 24 tk0)))
  (y1:PySem.W.nsIn K mainGlobals "MOST_SCALE" = some (some (.int 10 tk1)))
  (y2:PySem.W.nsIn K mainGlobals "MOST_BOTTOM" = some (some (.int 100 tk2)))
  (y3:PySem.W.nsIn K mainGlobals "MOST_PARTS" = some (some (.int 100 tk3)))
  (y4:PySem.W.nsIn K mainGlobals "MOST_FIGURES" = some (some (.int 60 tk4)))
  (y5:PySem.W.nsIn K mainGlobals "FIGURES" = some (some (.str "0123456789" tk5)))
  (y6:PySem.W.nsIn K mainGlobals "ASLEEP" = some (some (.str "-" tk6)))
  (y7:PySem.W.nsIn K mainGlobals "COLON" = some (some (.str ":" tk7))) :
  ∃ fd:FuncData,(∀ (s:Shared) (v:Value),BindsTo s fd ⟨[v],[]⟩ [("_law_script",v)])/\∀ base:Heap,K.In base->base.Ns mainGlobals mg->AM l.prog w K mg base AQ 41 fa fd ["_law_script"] (AN K GN):=by
 obtain ⟨a89,_,E89⟩:=d89
 have e:=hfa.symm.trans (PySem.W.mg_of X G a89)
 cases e
 have T:BJ K mg CK1 CK6 CK4 CK3 CK0 CK5 CK2:=⟨PySem.W.mg_none_of X G z0,PySem.W.mg_none_of X G z1,PySem.W.mg_none_of X G z2,PySem.W.mg_none_of X G z3,PySem.W.mg_none_of X G z4,PySem.W.mg_none_of X G z5,PySem.W.mg_none_of X G z6,PySem.W.mg_none_of X G z7,PySem.W.mg_none_of X G z8,PySem.W.mg_none_of X G z9,PySem.W.mg_none_of X G z10,PySem.W.mg_none_of X G z11,PySem.W.mg_none_of X G z12,PySem.W.mg_none_of X G z13,PySem.W.mg_none_of X G z14,PySem.W.mg_none_of X G z15,PySem.W.mg_none_of X G z16,⟨_,PySem.W.mg_of X G y0⟩,⟨_,PySem.W.mg_of X G y1⟩,⟨_,PySem.W.mg_of X G y2⟩,⟨_,PySem.W.mg_of X G y3⟩,⟨_,PySem.W.mg_of X G y4⟩,⟨_,PySem.W.mg_of X G y5⟩,⟨_,PySem.W.mg_of X G y6⟩,⟨_,PySem.W.mg_of X G y7⟩,cb0.ty gn gt,PySem.W.mg_of X G aC0,n0_many,n0_scale,q0_Hand,cb1.ty gn gt,PySem.W.mg_of X G aC1,n1_many,n1_scale,n1_top,n1_bottom,n1_tops,n1_under,q1_Hand,cb2.ty gn gt,PySem.W.mg_of X G aC2,n2_many,n2_scale,n2_top,n2_bottom,n2_tops,n2_under,n2_share,n2_parts,q2_Hand,cb3.ty gn gt,PySem.W.mg_of X G aC3,n3_many,n3_scale,n3_inside,n3_over,q3_Hand,cb4.ty gn gt,PySem.W.mg_of X G aC4,n4_many,n4_scale,n4_push,n4_reached,q4_Hand,cb5.ty gn gt,PySem.W.mg_of X G aC5,n5_many,n5_scale,n5_hands,n5_head,n5_charged,q5_Hand,cb6.ty gn gt,PySem.W.mg_of X G aC6,n6_many,n6_scale,n6_top,n6_bottom,n6_tops,n6_under⟩
 obtain ⟨a0,_,E0⟩:=d0
 obtain ⟨a1,_,E1⟩:=d1
 obtain ⟨a2,_,E2⟩:=d2
 obtain ⟨a3,_,E3⟩:=d3
 obtain ⟨a4,_,E4⟩:=d4
 obtain ⟨a5,_,E5⟩:=d5
 obtain ⟨a6,_,E6⟩:=d6
 obtain ⟨a7,_,E7⟩:=d7
 obtain ⟨a8,_,E8⟩:=d8
 obtain ⟨a9,_,E9⟩:=d9
 obtain ⟨a10,_,E10⟩:=d10
 obtain ⟨a11,_,E11⟩:=d11
 obtain ⟨a12,_,E12⟩:=d12
 obtain ⟨a13,_,E13⟩:=d13
 obtain ⟨a14,_,E14⟩:=d14
 obtain ⟨a15,_,E15⟩:=d15
 obtain ⟨a16,_,E16⟩:=d16
 obtain ⟨a17,_,E17⟩:=d17
 obtain ⟨a18,_,E18⟩:=d18
 obtain ⟨a19,_,E19⟩:=d19
 obtain ⟨a20,_,E20⟩:=d20
 obtain ⟨a21,_,E21⟩:=d21
 obtain ⟨a22,_,E22⟩:=d22
 obtain ⟨a23,_,E23⟩:=d23
 obtain ⟨a24,i24,_,E24⟩:=d24
 have b24:=E24.binds (ps:=["self","many","scale"]) λ_ _ _ _ _ _ us hl=>by obtain ⟨_,_,_,rfl⟩:=QD hl; rfl
 obtain ⟨a25,i25,_,E25⟩:=d25
 obtain ⟨a26,i26,_,E26⟩:=d26
 obtain ⟨a27,i27,_,E27⟩:=d27
 obtain ⟨a28,i28,_,E28⟩:=d28
 obtain ⟨a29,i29,_,E29⟩:=d29
 obtain ⟨a30,i30,_,E30⟩:=d30
 obtain ⟨a31,i31,_,E31⟩:=d31
 obtain ⟨a32,i32,_,E32⟩:=d32
 obtain ⟨a33,i33,_,E33⟩:=d33
 obtain ⟨a34,i34,_,E34⟩:=d34
 obtain ⟨a35,i35,_,E35⟩:=d35
 have b35:=E35.binds (ps:=["self","many","scale","top","bottom"]) λ_ _ _ _ _ _ us hl=>by obtain ⟨_,_,_,_,_,rfl⟩:=QB hl; rfl
 obtain ⟨a36,i36,_,E36⟩:=d36
 obtain ⟨a37,i37,_,E37⟩:=d37
 obtain ⟨a38,i38,_,E38⟩:=d38
 obtain ⟨a39,i39,_,E39⟩:=d39
 obtain ⟨a40,i40,_,E40⟩:=d40
 obtain ⟨a41,i41,_,E41⟩:=d41
 obtain ⟨a42,i42,_,E42⟩:=d42
 obtain ⟨a43,i43,_,E43⟩:=d43
 have E44:=ZU (st:=Ga) (dv:=[.none]) l44 t44 c44 k44
 have b44:=E44.binds (rest:=[]) (ps:=["self","many","scale","push"]) λ_ _ _ _ _ _ _ us hl=>by rw [List.append_nil] at hl; obtain ⟨_,_,_,_,rfl⟩:=QC hl; exact ⟨_,rfl,rfl⟩
 obtain ⟨a45,i45,_,E45⟩:=d45
 obtain ⟨a46,i46,_,E46⟩:=d46
 obtain ⟨a47,i47,_,E47⟩:=d47
 obtain ⟨a48,_,E48⟩:=d48
 obtain ⟨a49,_,E49⟩:=d49
 obtain ⟨a50,_,E50⟩:=d50
 obtain ⟨a51,i51,_,E51⟩:=d51
 obtain ⟨a52,i52,_,E52⟩:=d52
 obtain ⟨a53,i53,_,E53⟩:=d53
 obtain ⟨a54,i54,_,E54⟩:=d54
 obtain ⟨a55,i55,_,E55⟩:=d55
 obtain ⟨a56,i56,_,E56⟩:=d56
 obtain ⟨a57,_,E57⟩:=d57
 obtain ⟨a58,_,E58⟩:=d58
 obtain ⟨a59,_,E59⟩:=d59
 obtain ⟨a60,_,E60⟩:=d60
 obtain ⟨a61,_,E61⟩:=d61
 obtain ⟨a62,_,E62⟩:=d62
 obtain ⟨a63,_,E63⟩:=d63
 obtain ⟨a64,_,E64⟩:=d64
 obtain ⟨a65,_,E65⟩:=d65
 obtain ⟨a66,_,E66⟩:=d66
 obtain ⟨a67,_,E67⟩:=d67
 obtain ⟨a68,_,E68⟩:=d68
 obtain ⟨a69,_,E69⟩:=d69
 obtain ⟨a70,_,E70⟩:=d70
 obtain ⟨a71,_,E71⟩:=d71
 obtain ⟨a72,_,E72⟩:=d72
 obtain ⟨a73,_,E73⟩:=d73
 obtain ⟨a74,_,E74⟩:=d74
 obtain ⟨a75,_,E75⟩:=d75
 obtain ⟨a76,i76,_,E76⟩:=d76
 obtain ⟨a77,_,E77⟩:=d77
 obtain ⟨a78,i78,_,E78⟩:=d78
 obtain ⟨a79,i79,_,E79⟩:=d79
 obtain ⟨a80,i80,_,E80⟩:=d80
 obtain ⟨a81,i81,_,E81⟩:=d81
 obtain ⟨a82,_,E82⟩:=d82
 obtain ⟨a83,_,E83⟩:=d83
 obtain ⟨a84,_,E84⟩:=d84
 obtain ⟨a85,_,E85⟩:=d85
 obtain ⟨a86,_,E86⟩:=d86
 obtain ⟨a87,_,E87⟩:=d87
 obtain ⟨a88,_,E88⟩:=d88
 obtain ⟨_,_,kV,dc,pm,an,cd,ct,_,rfl,_,_⟩:=E89.ex
 refine ⟨PySem.W.fnOf "law" "law" (Dw F9) (CQ F9) (An F9) .none kV dc pm an cd ct,λs v=>.of_eq rfl,λbase _ _=>?_⟩
 have kb:=WY (P:=l.prog) (w:=w) (base:=base) T E0 (PySem.W.mg_of X G a0) (Ay E0)
 have kj:=Xe (P:=l.prog) (w:=w) (base:=base) T E1 (PySem.W.mg_of X G a1) (Ay E1)
 have gq:=WJ T E2 (PySem.W.mg_of X G a2) (Ay E2) kj
 have jh:=Xf T E3 (PySem.W.mg_of X G a3) (Ay E3) kb
 have gp:=Xk T E4 (PySem.W.mg_of X G a4) (Ay E4) jh
 have ku:=Xo T E5 (PySem.W.mg_of X G a5) (Ay E5) jh gp
 have kv:=Xp T E6 (PySem.W.mg_of X G a6) (Ay E6) jh
 have za:=Xj T E7 (PySem.W.mg_of X G a7) (Ay E7) jh
 have kl:=W8 T E8 (PySem.W.mg_of X G a8) (Ay E8) kb
 have km:=W0 T E9 (PySem.W.mg_of X G a9) (Ay E9) kl
 have jk:=Xl T E10 (PySem.W.mg_of X G a10) (Ay E10) km
 have ji:=WF (P:=l.prog) (w:=w) (base:=base) T E11 (PySem.W.mg_of X G a11) (Ay E11)
 have jg:=Xq (P:=l.prog) (w:=w) (base:=base) T E12 (PySem.W.mg_of X G a12) (Ay E12)
 have kn:=WZ T E13 (PySem.W.mg_of X G a13) (Ay E13) km kl
 have ja:=Xh T E14 (PySem.W.mg_of X G a14) (Ay E14) kn
 have ko:=Xr (P:=l.prog) (w:=w) (base:=base) T E15 (PySem.W.mg_of X G a15) (Ay E15)
 have gg:=WI T E16 (PySem.W.mg_of X G a16) (Ay E16) gq ko
 have gr:=Wx T E17 (PySem.W.mg_of X G a17) (Ay E17) ji
 have kt:=Wy T E18 (PySem.W.mg_of X G a18) (Ay E18) ji
 have zc:=Wz T E19 (PySem.W.mg_of X G a19) (Ay E19) jg kt gr
 have zo:=Xg T E20 (PySem.W.mg_of X G a20) (Ay E20) kn
 have gu:=Xm T E21 (PySem.W.mg_of X G a21) (Ay E21) jh ji
 have zi:=WE T E22 (PySem.W.mg_of X G a22) (Ay E22) gu
 have zj:=Xd (P:=l.prog) (w:=w) (base:=base) T E23 (PySem.W.mg_of X G a23) (Ay E23)
 have yu:=X2 T E24 ku
 have yz:=XZ (P:=l.prog) (w:=w) (base:=base) T E25
 have yv:=Xw (P:=l.prog) (w:=w) (base:=base) T E26
 have vc:=XO (P:=l.prog) (w:=w) (base:=base) T E27
 have gv:=Bl yz a25 i25 E25.kp (Ay E25) T.c_Hand.cls
 have gw:=Bl yv a26 i26 E26.kp (Ay E26) T.c_Weigher.cls
 have gx:=Bl yv e2_heeded i26 E26.kp (Ay E26) T.c_Shifter.cls
 have gy:=Bl vc a27 i27 E27.kp (Ay E27) T.c_Rounder.cls
 have gm:=XY T E28 jk gg gv gw gx gy
 have vd:=X0 T E29 ja
 have gz:=Gh yu mk0 a24 i24 kc0 (Ay E24) T.m_Hand
 have ve:=X1 T E30 gz
 have jl:Fg l.prog w K mg base "Hand" 5 "__init__" (Fl (λC=>C=CK1\/C=CK6\/C=CK4\/C=CK3\/C=CK5\/C=CK0)):=⟨_,_,_,_,_,T.m_Hand,so0___init__,rd0___init__,fc0___init__,rfl,yu,E24.kp,b24⟩
 have vf:=XT T E31 jl
 have vg:=XM (P:=l.prog) (w:=w) (base:=base) T E32
 have vh:=XQ T E33 ja jg
 have jt:=Gh vf mk3 a31 i31 kc3 (Ay E31) T.m_Rounder
 have vk:=XS T E34 jt
 have yw:=Xz T E35 kv jl
 have zb:Fg l.prog w K mg base "Weigher" 6 "__init__" (F5 CK6 CK4):=⟨_,_,_,_,_,T.m_Weigher,so1___init__,rd1___init__,fc1___init__,rfl,yw,E35.kp,b35⟩
 have vm:=XL T E36 za zb
 have yx:=Xv (P:=l.prog) (w:=w) (base:=base) T E37
 have jn:=Bl gm e1_say i28 E28.kp (Ay E28) T.c_Weigher.cls
 have jo:=Bl gm e2_say i28 E28.kp (Ay E28) T.c_Shifter.cls
 have yy:=Xu T E38 jg jn jo zc kt
 have vn:=XI (P:=l.prog) (w:=w) (base:=base) T E39
 have ze:=Bl yy a38 i38 E38.kp (Ay E38) T.c_Weigher.cls
 have vo:=Xx T E40 ja ze
 have zg:=Bl yy e2_weigh i38 E38.kp (Ay E38) T.c_Shifter.cls
 have zh:=Bl vn a39 i39 E39.kp (Ay E39) T.c_Shifter.cls
 have vp:=XH T E41 ja zg zh
 have jp:=Gh yw mk1 a35 i35 kc1 (Ay E35) T.m_Weigher
 have vq:=Xy T E42 jp
 have kx:=Gh vm mk2 a36 i36 kc2 (Ay E36) T.m_Shifter
 have vt:=XJ T E43 kx
 have vv:AM l.prog w K mg base AQ 6 f44 _ ["self","many","scale","push"] (AN K (F6 CK0)):=X7 T E44 zi jl
 have vw:=X4 T E45 jk ko zj
 have vx:=X5 T E46 ja jg
 have ju:Cv l.prog w K mg base CK0 6 "Follower" (F6 CK0):=⟨⟨_,_,_,vv,⟨mk4,a44,i44,kc4⟩,b44⟩,T.m_Follower⟩
 have vz:=X6 T E47 ju
 have zk:=Xt (P:=l.prog) (w:=w) (base:=base) T E48 (PySem.W.mg_of X G a48) (Ay E48)
 have zm:=Xb (P:=l.prog) (w:=w) (base:=base) T E49 (PySem.W.mg_of X G a49) (Ay E49)
 have zn:=Xi T E50 (PySem.W.mg_of X G a50) (Ay E50) zk zm
 have kc:=Bl ve a30 i30 E30.kp (Ay E30) T.c_Hand.cls
 have kf:=Bl vq a42 i42 E42.kp (Ay E42) T.c_Weigher.cls
 have kg:=Bl vt a43 i43 E43.kp (Ay E43) T.c_Shifter.cls
 have kh:=Bl vk a34 i34 E34.kp (Ay E34) T.c_Rounder.cls
 have ki:=Bl vz a47 i47 E47.kp (Ay E47) T.c_Follower.cls
 have xc:=XG T E51 zn jl kc kf kg kh ki
 have xf:=XD (P:=l.prog) (w:=w) (base:=base) T E52
 have jw:=Bl gm a28 i28 E28.kp (Ay E28) T.c_Hand.cls
 have jx:=Bl gm e3_say i28 E28.kp (Ay E28) T.c_Rounder.cls
 have jy:=Bl vw a45 i45 E45.kp (Ay E45) T.c_Follower.cls
 have xg:=XE T E53 jw jn jo jx jy
 have ky:=Bl xg a53 i53 E53.kp (Ay E53) T.c_Tier.cls
 have xh:=XA T E54 jk ky jw jn jo jx jy
 have jb:=Bl vd a29 i29 E29.kp (Ay E29) T.c_Hand.cls
 have jc:=Bl vo a40 i40 E40.kp (Ay E40) T.c_Weigher.cls
 have jd:=Bl vp a41 i41 E41.kp (Ay E41) T.c_Shifter.cls
 have je:=Bl vh a33 i33 E33.kp (Ay E33) T.c_Rounder.cls
 have jf:=Bl vx a46 i46 E46.kp (Ay E46) T.c_Follower.cls
 have xi:=XB T E55 ja jg ky jb jc jd je jf
 have kz:=Gh xc mk5 a51 i51 kc5 (Ay E51) T.m_Tier
 have xj:=XF T E56 kz
 have zp:=Bl xj a56 i56 E56.kp (Ay E56) T.c_Tier.cls
 have zq:=Bl xh a54 i54 E54.kp (Ay E54) T.c_Tier.cls
 have gc:=Bl xi a55 i55 E55.kp (Ay E55) T.c_Tier.cls
 have jr:=WD T E57 (PySem.W.mg_of X G a57) (Ay E57) zo kc jw jb kf jn jc kg jo jd kh jx je zp zq gc ki jy jf
 have zr:=Wv (P:=l.prog) (w:=w) (base:=base) T E58 (PySem.W.mg_of X G a58) (Ay E58)
 have zt:=WA T E59 (PySem.W.mg_of X G a59) (Ay E59) zr
 have yo:=Wu T E60 (PySem.W.mg_of X G a60) (Ay E60) zt
 have zu:=Xa (P:=l.prog) (w:=w) (base:=base) T E61 (PySem.W.mg_of X G a61) (Ay E61)
 have gh:=W9 T E62 (PySem.W.mg_of X G a62) (Ay E62) zu
 have zv:=Xs T E63 (PySem.W.mg_of X G a63) (Ay E63) gh
 have zw:=Ww (P:=l.prog) (w:=w) (base:=base) T E64 (PySem.W.mg_of X G a64) (Ay E64)
 have zx:=WB T E65 (PySem.W.mg_of X G a65) (Ay E65) zv zw
 have yn:=WC T E66 (PySem.W.mg_of X G a66) (Ay E66) zx
 have ka:=WX (P:=l.prog) (w:=w) (base:=base) T E67 (PySem.W.mg_of X G a67) (Ay E67)
 have jq:=WW (P:=l.prog) (w:=w) (base:=base) T E68 (PySem.W.mg_of X G a68) (Ay E68)
 have yk:=WT (P:=l.prog) (w:=w) (base:=base) T E69 (PySem.W.mg_of X G a69) (Ay E69)
 have yj:=WS (P:=l.prog) (w:=w) (base:=base) T E70 (PySem.W.mg_of X G a70) (Ay E70)
 have zy:=WN T E71 (PySem.W.mg_of X G a71) (Ay E71) jq
 have yl:=WM T E72 (PySem.W.mg_of X G a72) (Ay E72) ka jq zy
 have jz:=WV (P:=l.prog) (w:=w) (base:=base) T E73 (PySem.W.mg_of X G a73) (Ay E73)
 have zz:=Bl yx a37 i37 E37.kp (Ay E37) T.c_Weigher.cls
 have ya:=Bl yx e2_total i37 E37.kp (Ay E37) T.c_Shifter.cls
 have gl:=WL T E74 (PySem.W.mg_of X G a74) (Ay E74) jb jc jd je jf zz ya
 have yb:=WG (P:=l.prog) (w:=w) (base:=base) T E75 (PySem.W.mg_of X G a75) (Ay E75)
 have xk:=X3 (P:=l.prog) (w:=w) (base:=base) T E76
 have gf:=Xn (P:=l.prog) (w:=w) (base:=base) T E77 (PySem.W.mg_of X G a77) (Ay E77)
 have xl:=XX T E78 ku kv
 have xm:=XU (P:=l.prog) (w:=w) (base:=base) T E79
 have xn:=XV T E80 jk gf kj
 have xo:=XW T E81 ja gf jg
 have yc:=Bl xk a76 i76 E76.kp (Ay E76) T.c_Follower.cls
 have yp:=WU T E82 (PySem.W.mg_of X G a82) (Ay E82) ju jr jz yb yc jb jc jd je jf
 have gj:=Bl vg a32 i32 E32.kp (Ay E32) T.c_Rounder.cls
 have yq:=WQ T E83 (PySem.W.mg_of X G a83) (Ay E83) jt jr jz gj jb jc jd je jf
 have yd:=Xc (P:=l.prog) (w:=w) (base:=base) T E84 (PySem.W.mg_of X G a84) (Ay E84)
 have ye:=WH T E85 (PySem.W.mg_of X G a85) (Ay E85) ji yd
 have yf:=Bl xf a52 i52 E52.kp (Ay E52) T.c_Tier.cls
 have yr:=WO T E86 (PySem.W.mg_of X G a86) (Ay E86) ju jt jp kz jr jz ye yf jb jc jd je gc jf
 have ym:=WP (P:=l.prog) (w:=w) (base:=base) T E87 (PySem.W.mg_of X G a87) (Ay E87)
 have yg:=Gh xl mk6 a78 i78 kc6 (Ay E78) T.m_Meaner
 have gk:=Bl xm a79 i79 E79.kp (Ay E79) T.c_Meaner.cls
 have yh:=Bl xn a80 i80 E80.kp (Ay E80) T.c_Meaner.cls
 have yi:=Bl xo a81 i81 E81.kp (Ay E81) T.c_Meaner.cls
 have yt:=WR T E88 (PySem.W.mg_of X G a88) (Ay E88) yg gk yh yi
 exact WK T E89 ka jq yj yk yl ym yn yo gl yp yq yr yt jp kx
theorem walk {l:PySem.W.OpenLaw} {q:Program} {loose:List Str} {XP:(Str->Option Value)->Heap->Prop} {YP:World->Heap->Prop} {d:DefRec} {K:Params->PySem.W.Frag} (hn:l.most=some 63) (hdf:d.params.defaults=[])
  (hY:∀ (w:World) (h:Heap),YP w h->(K w.params).In h)
  (F:∀ (w:World) (mg:Str->Option Value) (fa:Addr) (h:Heap),(K w.params).In h->h.Ns mainGlobals mg->mg d.name=some (.ref fa)->
   ∃ fd:FuncData,(∀ (s:Shared) (u:Value),BindsTo s fd ⟨[u],[]⟩ [("_law_script",u)])/\∀ base:Heap,(K w.params).In base->base.Ns mainGlobals mg->AM l.prog w (K w.params) mg base AQ 41 fa fd ["_law_script"] (AN (K w.params) GN)) :
  PySem.W.WalkO q loose XP YP l.row.toRowW d [] (λf vs=>PySem.call f vs):=
 L2.walk_of (n:=63) (k:=41) (x := "_law_script") (CX:=λ_=>AQ) (sp:=λw=>AN (K w.params) GN) hn wE hdf ⟨rfl,by decide,by decide⟩ hY F (λ_ _ a ns hl _ hS=>YX hl hS) λ_ _ _ _ _ z=>z
end My
open PySem PySem.W PyProof.Rows
theorem My.walkZ {q:Program} {loose:List Str} {XP:(Str->Option Value)->Heap->Prop} {K:Params->PySem.W.Frag} {as:List Addr} {n t:Nat} {r:RowW} {d:DefRec} {kwd:List (Str×Expr)} {run:Value->List Value->Sem Value} (e:∀ P,as=(K P).map (·.1))
  (h:WalkO q loose XP (λw h=>(K w.params).In h) r d kwd run):WalkX q loose XP (X.obsZ as) (X.valZ K n t) r d kwd run:=λw s₀ s₁ mg mb G y a o pm cd doc dV kV ho hd hcd hD hmg hg args vals as' L hpre hlay hrd hwl hlo=>
 h w s₀ s₁ mg mb G (λb o' e'=>L.keeps _ _ ((X.z_facts e y).2.1 b o' e')) a o pm cd doc dV kV ho hd hcd hD hmg hg args vals as' hpre hlay hrd hwl hlo
def PySem.W.Fast.tw13400903586381318229 : Nat := 0
def PySem.W.Fast.tw7740665659304002729 : Nat := 0
def PySem.W.Fast.tw7944106011028493949 : Nat := 0
def PySem.W.Fast.tw7228206222370319174 : Nat := 0
def PySem.W.Fast.tw2488187312413363257 : Nat := 0
def PySem.W.Fast.tw8298865868656508088 : Nat := 0
def PySem.W.Fast.tw8264064235694974539 : Nat := 0
def PySem.W.Fast.tw9430797155780410668 : Nat := 0
def PySem.W.Fast.tw13898055028658616475 : Nat := 0
def PySem.W.Fast.tw15119339737521650499 : Nat := 0
def PySem.W.Fast.tw17373600997670548598 : Nat := 0
def PySem.W.Fast.tw9139777477587702367 : Nat := 0
def PySem.W.Fast.tw16759867740434651701 : Nat := 0
def PySem.W.Fast.tw12445394498427774379 : Nat := 0
def PySem.W.Fast.tw14758270999005099587 : Nat := 0
def PySem.W.Fast.tw8186561451561722052 : Nat := 0
def PySem.W.Fast.tw3008474472338051375 : Nat := 0
def PySem.W.Fast.tw14874213893737108529 : Nat := 0
def PySem.W.Fast.tw7958081569577532819 : Nat := 0
def PySem.W.Fast.tw4544643913020479518 : Nat := 0
def PySem.W.Fast.tw2302577401653424867 : Nat := 0
def PySem.W.Fast.tw16812895746267743519 : Nat := 0
def PySem.W.Fast.tw5554237457855361989 : Nat := 0
def PySem.W.Fast.tw9222074776773241305 : Nat := 0
def PySem.W.Fast.tw12438367763104462199 : Nat := 0
def PySem.W.Fast.tw14421052130773617987 : Nat := 0
def PySem.W.Fast.tw12091326051319311370 : Nat := 0
def PySem.W.Fast.tw9417064988530171342 : Nat := 0
def PySem.W.Fast.tw11536764615303362709 : Nat := 0
def PySem.W.Fast.tw15884584492114702174 : Nat := 0
def PySem.W.Fast.tw15996052683482474608 : Nat := 0
def PySem.W.Fast.tw3236309107985431377 : Nat := 0
def PySem.W.Fast.tw5931848815370659614 : Nat := 0
def PySem.W.Fast.tw2052069669420078974 : Nat := 0
def PySem.W.Fast.tw6994846397096786532 : Nat := 0
def PySem.W.Fast.tw1982810370080317672 : Nat := 0
def PySem.W.Fast.tw11397024879463303343 : Nat := 0
def PySem.W.Fast.tw12561933349027315374 : Nat := 0
def PySem.W.Fast.tw16008081124051843003 : Nat := 0
def PySem.W.Fast.tw15886463869103138182 : Nat := 0
def PySem.W.Fast.tw5843987050603081862 : Nat := 0
def PySem.W.Fast.tw9119771762122963086 : Nat := 0
def PySem.W.Fast.tw10574576868745482971 : Nat := 0
def PySem.W.Fast.tw2827953189786662704 : Nat := 0
def PySem.W.Fast.tw16559983779774360210 : Nat := 0
def PySem.W.Fast.tw16996713204378617518 : Nat := 0
def PySem.W.Fast.tw3962195739475406026 : Nat := 0
def PySem.W.Fast.tw13839195608826727644 : Nat := 0
def PySem.W.Fast.tw3395841904315471980 : Nat := 0
def PySem.W.Fast.tw7960269135279992045 : Nat := 0
def PySem.W.Fast.tw18004415614151899572 : Nat := 0
def PySem.W.Fast.tw10489714283443778350 : Nat := 0
def PySem.W.Fast.tw11984675217065045202 : Nat := 0
def PySem.W.Fast.tw5720570342917586646 : Nat := 0
def PySem.W.Fast.tw12839729659019081745 : Nat := 0
def PySem.W.Fast.tw5048410390512031794 : Nat := 0
def PySem.W.Fast.tw7177542903345652950 : Nat := 0
def PySem.W.Fast.tw17286224243921826060 : Nat := 0
def PySem.W.Fast.tw12492353847275150260 : Nat := 0
def PySem.W.Fast.tw3334902092591609385 : Nat := 0
def PySem.W.Fast.tw17996076446552400581 : Nat := 0
def PySem.W.Fast.tw3496803099688826337 : Nat := 0
def PySem.W.Fast.tw6070603696682492175 : Nat := 0
def PySem.W.Fast.tw12289301848410683976 : Nat := 0
def PySem.W.Fast.tw3089841430622279349 : Nat := 0
def PySem.W.Fast.tw17718295290544227876 : Nat := 0
def PySem.W.Fast.tw18107469900614522109 : Nat := 0
def PySem.W.Fast.tw10929445872558823424 : Nat := 0
def PySem.W.Fast.tw1151517746239299366 : Nat := 0
def PySem.W.Fast.tw11631327688505189031 : Nat := 0
def PySem.W.Fast.tw17104264620727375777 : Nat := 0
def PySem.W.Fast.tw7872918859611779470 : Nat := 0
def PySem.W.Fast.tw8118792183168242499 : Nat := 0
def PySem.W.Fast.tw12861905148753434073 : Nat := 0
def PySem.W.Fast.tw1510729610128725995 : Nat := 0
def PySem.W.Fast.tw17895068289367916661 : Nat := 0
def PySem.W.Fast.tw352286031262044902 : Nat := 0
def PySem.W.Fast.tw15180138883078364125 : Nat := 0
def PySem.W.Fast.tw11454413213047008833 : Nat := 0
def PySem.W.Fast.tw5442357656413739048 : Nat := 0
def PySem.W.Fast.tw6859449186544385169 : Nat := 0
def PySem.W.Fast.tw233264387465953144 : Nat := 0
def PySem.W.Fast.tw15419226835822829663 : Nat := 0
def PySem.W.Fast.tw8883748418352117878 : Nat := 0
def PySem.W.Fast.tw15967122602603164232 : Nat := 0
def PySem.W.Fast.tw5303113450695814515 : Nat := 0
def PySem.W.Fast.tw11991287505748788401 : Nat := 0
def PySem.W.Fast.tw7429182605791706400 : Nat := 0
def PySem.W.Fast.tw13581217476411968241 : Nat := 0
def PySem.W.Fast.tw13390265329688915017 : Nat := 0
def PySem.W.Fast.tw15221516651480183117 : Nat := 0
def PySem.W.Fast.tw4370823783240992710 : Nat := 0
def PySem.W.Fast.tw5987594326283748254 : Nat := 0
def PySem.W.Fast.tw11682933380521728710 : Nat := 0
def PySem.W.Fast.tw2620720359683733709 : Nat := 0
def PySem.W.Fast.tw12768631626056350953 : Nat := 0
def PySem.W.Fast.tw5149788523350544531 : Nat := 0
def PySem.W.Fast.tw17083237262776728302 : Nat := 0
def PySem.W.Fast.tw1046582139907139605 : Nat := 0
def PySem.W.Fast.tw372081743963550021 : Nat := 0
def PySem.W.Fast.tw2691293865514792328 : Nat := 0
def PySem.W.Fast.tw12583587503854835569 : Nat := 0
def PySem.W.Fast.tw10201189108198905569 : Nat := 0
def PySem.W.Fast.tw17459053614137349585 : Nat := 0
def PySem.W.Fast.tw8651845584654013926 : Nat := 0
def PySem.W.Fast.tw3238960112472189671 : Nat := 0
def PySem.W.Fast.tw13468595704229478304 : Nat := 0
def PySem.W.Fast.tw1600176931492888162 : Nat := 0
def PySem.W.Fast.tw16956253927653838441 : Nat := 0
def PySem.W.Fast.tw15582423977343038561 : Nat := 0
def PySem.W.Fast.tw13968386776868637337 : Nat := 0
def PySem.W.Fast.tw11465549645663576763 : Nat := 0
def PySem.W.Fast.tw5710454956154805899 : Nat := 0
def PySem.W.Fast.tw15334651103876112258 : Nat := 0
def PySem.W.Fast.tw14440306460632669947 : Nat := 0
def PySem.W.Fast.tw11585997034080635214 : Nat := 0
def PySem.W.Fast.tw17916964235413709851 : Nat := 0
def PySem.W.Fast.tw33132040960741773 : Nat := 0
def PySem.W.Fast.tw5019273652458989441 : Nat := 0
def PySem.W.Fast.tw2459337711829551807 : Nat := 0
def PySem.W.Fast.tw465099293870880760 : Nat := 0
def PySem.W.Fast.tw10994382775861905080 : Nat := 0
def PySem.W.Fast.tw6745591913041160070 : Nat := 0
def PySem.W.Fast.tw9118191471418849429 : Nat := 0
def PySem.W.Fast.tw2313002929166655193 : Nat := 0
def PySem.W.Fast.tw15192084696002772321 : Nat := 0
def PySem.W.Fast.tw3377823576375935447 : Nat := 0
def PySem.W.Fast.tw13295483076209894917 : Nat := 0
def PySem.W.Fast.tw2931607409463644350 : Nat := 0
def PySem.W.Fast.tw12614520684846593903 : Nat := 0
def PySem.W.Fast.tw12957597251278181312 : Nat := 0
def PySem.W.Fast.tw11873340712211958863 : Nat := 0
def PySem.W.Fast.tw11301973532505946861 : Nat := 0
def PySem.W.Fast.tw13308211092542319195 : Nat := 0
def PySem.W.Fast.tw834579917583451447 : Nat := 0
def PySem.W.Fast.tw7768029046704673056 : Nat := 0
def PySem.W.Fast.tw15365004994259642062 : Nat := 0
def PySem.W.Fast.tw3862832270130677085 : Nat := 0
def PySem.W.Fast.tw18418243029339813425 : Nat := 0
def PySem.W.Fast.tw6335243720683387282 : Nat := 0
def PySem.W.Fast.tw4895813492482054032 : Nat := 0
def PySem.W.Fast.tw5692623277766962330 : Nat := 0
def PySem.W.Fast.tw5999203685262154743 : Nat := 0
def PySem.W.Fast.tw9633478754872707363 : Nat := 0
def PySem.W.Fast.tw5957056751789431296 : Nat := 0
def PySem.W.Fast.tw13820810709896929609 : Nat := 0
def PySem.W.Fast.tw13715197756172552028 : Nat := 0
def PySem.W.Fast.tw8905946899701608640 : Nat := 0
def PySem.W.Fast.tw14686496652748745285 : Nat := 0
def PySem.W.Fast.tw7843818493926448291 : Nat := 0
def PySem.W.Fast.tw8568023717648984322 : Nat := 0
def PySem.W.Fast.tw875038568648712471 : Nat := 0
def PySem.W.Fast.tw5751693750219147907 : Nat := 0
def PySem.W.Fast.tw11809316933236211644 : Nat := 0
def PySem.W.Fast.tw17988418479100180138 : Nat := 0
def PySem.W.Fast.tw12113574342450606624 : Nat := 0
def PySem.W.Fast.tw9714660510755641289 : Nat := 0
def PySem.W.Fast.tw7946580447239651694 : Nat := 0
def PySem.W.Fast.tw11291287917847910788 : Nat := 0
def PySem.W.Fast.tw14789503661894994693 : Nat := 0
def PySem.W.Fast.tw6957307219803913035 : Nat := 0
def PySem.W.Fast.tw15453205358707746703 : Nat := 0
def PySem.W.Fast.tw6416108493033941732 : Nat := 0
def PySem.W.Fast.tw6031137882957451200 : Nat := 0
def PySem.W.Fast.tw10658905016705886342 : Nat := 0
def PySem.W.Fast.tw14224407571278214164 : Nat := 0
def PySem.W.Fast.tw13617882366622302733 : Nat := 0
def PySem.W.Fast.tw13594160154829989649 : Nat := 0
def PySem.W.Fast.tw4893689580955177367 : Nat := 0
def PySem.W.Fast.tw17547504824172658685 : Nat := 0
def PySem.W.Fast.tw3027032746515862572 : Nat := 0
def PySem.W.Fast.tw14000400567018573217 : Nat := 0
def PySem.W.Fast.tw8838420193798308661 : Nat := 0
def PySem.W.Fast.tw8550505988760815715 : Nat := 0
def PySem.W.Fast.tw3915794471145318218 : Nat := 0
def PySem.W.Fast.tw8846147189156625366 : Nat := 0
def PySem.W.Fast.tw12908291164274946955 : Nat := 0
def PySem.W.Fast.tw12756085169298791599 : Nat := 0
def PySem.W.Fast.tw12302066443040779882 : Nat := 0
def PySem.W.Fast.tw11404317335875341264 : Nat := 0
def PySem.W.Fast.tw7597021297120764052 : Nat := 0
def PySem.W.Fast.tw15107158317157941365 : Nat := 0
def PySem.W.Fast.tw12869414192053897502 : Nat := 0
def PySem.W.Fast.tw16144652450230897687 : Nat := 0
def PySem.W.Fast.tw16977092008837761105 : Nat := 0
def PySem.W.Fast.tw11478123653423984435 : Nat := 0
def PySem.W.Fast.tw5252487799230941688 : Nat := 0
def PySem.W.Fast.tw5184687670799558144 : Nat := 0
def PySem.W.Fast.tw14384093523479119867 : Nat := 0
def PySem.W.Fast.tw6033117350921012533 : Nat := 0
def PySem.W.Fast.tw10570626759061010386 : Nat := 0
def PySem.W.Fast.tw14069843313584567477 : Nat := 0
def PySem.W.Fast.tw660374781667624584 : Nat := 0
def PySem.W.Fast.tw1635897838706717054 : Nat := 0
def PySem.W.Fast.tw16118234527087009845 : Nat := 0
def PySem.W.Fast.tw323638482782256889 : Nat := 0
def PySem.W.Fast.tw13746695351515713433 : Nat := 0
def PySem.W.Fast.tw4487563871115808646 : Nat := 0
def PySem.W.Fast.tw15287982627205001949 : Nat := 0
def PySem.W.Fast.tw9251137876275654577 : Nat := 0
def PySem.W.Fast.tw14878446395810225391 : Nat := 0
def PySem.W.Fast.tw9943701683805706575 : Nat := 0
open PySem PySem.W PyProof.Rows
set_option maxRecDepth 100000 in
set_option maxHeartbeats 0 in
theorem PySem.Challenge.cw_heedwise_k90_whole_from_a_text_holds : PySem.Challenge.rw_heedwise_k90_whole_from_a_text.Holds := by
 w_on; o_law; z_head; (case hw=>w_witness2)
 k_fill
 refine My.walkZ (λP=>rfl) ?_
 refine My.walk (l:=PySem.Challenge.rw_heedwise_k90_whole_from_a_text) rfl rfl (λw h Y=>Y) ?F
 case F=>
  intro w mg fa h KX G hmg
  refine' My.all_mk KX G hmg ?aC0 ?aC1 ?aC2 ?aC3 ?aC4 ?aC5 ?aC6 ?d0 ?d1 ?d2 ?d3 ?d4 ?d5 ?d6 ?d7 ?d8 ?d9 ?d10 ?d11 ?d12 ?d13 ?d14 ?d15 ?d16 ?d17 ?d18 ?d19 ?d20 ?d21 ?d22 ?d23 ?d24 ?d25 ?d26 ?d27 ?d28 ?d29 ?d30 ?d31 ?d32 ?d33 ?d34 ?d35 ?d36 ?d37 ?d38 ?d39 ?d40 ?d41 ?d42 ?d43 ?a44 ?i44 ?l44 ?t44 ?c44 ?k44 ?d45 ?d46 ?d47 ?d48 ?d49 ?d50 ?d51 ?d52 ?d53 ?d54 ?d55 ?d56 ?d57 ?d58 ?d59 ?d60 ?d61 ?d62 ?d63 ?d64 ?d65 ?d66 ?d67 ?d68 ?d69 ?d70 ?d71 ?d72 ?d73 ?d74 ?d75 ?d76 ?d77 ?d78 ?d79 ?d80 ?d81 ?d82 ?d83 ?d84 ?d85 ?d86 ?d87 ?d88 ?d89 ?cb0 ?n0_many ?n0_scale ?q0_Hand ?mk0 ?kc0 ?so0___init__ ?rd0___init__ ?fc0___init__ ?cb1 ?n1_many ?n1_scale ?n1_top ?n1_bottom ?n1_tops ?n1_under ?q1_Hand ?mk1 ?kc1 ?e1_say ?so1___init__ ?rd1___init__ ?fc1___init__ ?cb2 ?n2_many ?n2_scale ?n2_top ?n2_bottom ?n2_tops ?n2_under ?n2_share ?n2_parts ?q2_Hand ?mk2 ?kc2 ?e2_heeded ?e2_say ?e2_total ?e2_weigh ?cb3 ?n3_many ?n3_scale ?n3_inside ?n3_over ?q3_Hand ?mk3 ?kc3 ?e3_say ?cb4 ?n4_many ?n4_scale ?n4_push ?n4_reached ?q4_Hand ?mk4 ?kc4 ?cb5 ?n5_many ?n5_scale ?n5_hands ?n5_head ?n5_charged ?q5_Hand ?mk5 ?kc5 ?cb6 ?n6_many ?n6_scale ?n6_top ?n6_bottom ?n6_tops ?n6_under ?mk6 ?kc6 ?gn ?gt ?z0 ?z1 ?z2 ?z3 ?z4 ?z5 ?z6 ?z7 ?z8 ?z9 ?z10 ?z11 ?z12 ?z13 ?z14 ?z15 ?z16 ?y0 ?y1 ?y2 ?y3 ?y4 ?y5 ?y6 ?y7
  case aC0|aC1|aC2|aC3|aC4|aC5|aC6=>
   k_is
  case d0|d1|d2|d3|d4|d5|d6|d7|d8|d9|d10|d11|d12|d13|d14|d15|d16|d17|d18|d19|d20|d21|d22|d23|d48|d49|d50|d57|d58|d59|d60|d61|d62|d63|d64|d65|d66|d67|d68|d69|d70|d71|d72|d73|d74|d75|d77|d82|d83|d84|d85|d86|d87|d88|d89=>
   refine' My.fd_mk ?a ?l ?c ?k
   case a|l|c|k=>k_is
  case d24|d25|d26|d27|d28|d29|d30|d31|d32|d33|d34|d35|d36|d37|d38|d39|d40|d41|d42|d43|d45|d46|d47|d51|d52|d53|d54|d55|d56|d76|d78|d79|d80|d81=>
   refine' My.fm_mk ?a ?i ?l ?c ?k
   case a|i|l|c|k=>k_is
  case cb0|cb1|cb2|cb3|cb4|cb5|cb6=>
   refine ⟨?_,?_,?_,?_,?_,?_⟩ <;> k_is
  case a44|i44|l44|t44|c44|k44|mk0|kc0|so0___init__|rd0___init__|fc0___init__|mk1|kc1|e1_say|so1___init__|rd1___init__|fc1___init__|mk2|kc2|e2_heeded|e2_say|e2_total|e2_weigh|mk3|kc3|e3_say|mk4|kc4|mk5|kc5|mk6|kc6|gn|gt|y0|y1|y2|y3|y4|y5|y6|y7=>
   k_is
  case n0_many|n0_scale|n1_many|n1_scale|n1_top|n1_bottom|n1_tops|n1_under|n2_many|n2_scale|n2_top|n2_bottom|n2_tops|n2_under|n2_share|n2_parts|n3_many|n3_scale|n3_inside|n3_over|n4_many|n4_scale|n4_push|n4_reached|n5_many|n5_scale|n5_hands|n5_head|n5_charged|n6_many|n6_scale|n6_top|n6_bottom|n6_tops|n6_under|z0|z1|z2|z3|z4|z5|z6|z7|z8|z9|z10|z11|z12|z13|z14|z15|z16=>
   (show _=_; k_is)
  case q0_Hand|q1_Hand|q2_Hand|q3_Hand|q4_Hand|q5_Hand=>
   kit_is
