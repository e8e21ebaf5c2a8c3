import PyProof.Rows.All
import Wide.All
import OpenK.AllK
import Wide.FinOn
import Lean
import PyProof.EqAt
import PyProof.EqKinds
import PyProof.TupleCall
import PyProof.NeData
import PyProof.WalkInts
import PyProof.ListRange
import KE.KIntText
import PyProof.DictWalks
import PyProof.DictItems
import KE.KDictList
import PyProof.Rows.SortKeyStr
import PyProof.NeKinds
import PySem.Challenge.RW_heedwise_k71_no_tier
theorem wB {p : Prop} (h : p := by first | exact Or.inl rfl | exact Or.inr (Or.inl rfl) | exact Or.inr (Or.inr rfl) | assumption) : p := h
theorem wC {p : Prop} (h : p := by first | decide | omega) : p := h
theorem wD {p : Prop} (h : p := by decide +kernel) : p := h
theorem wE {p : Prop} (h : p := by decide) : p := h
theorem wF {p : Prop} (h : p := by omega) : p := h
set_option Elab.async false
set_option linter.all false
set_option maxRecDepth 100000
namespace L2
open PySem PySem.Spec PyProof.Rows
abbrev AS:=Sum Int Str
def O8:AS->Value->Bool
 | .inl k,v=>Value.isInt k v
 | .inr x,v=>Value.isStrOf x v
def Xz (w:World):AS->Int
 | .inl k=>hashInt k
 | .inr x=>hashStr w x
theorem Eh:∀ {k:AS} {v:Value},O8 k v=true->(∃ i t,k=Sum.inl i/\v=Value.int i t)\/(∃ x t,k=Sum.inr x/\v=Value.str x t)
 | .inl i,v,h=>by
  obtain ⟨t,e⟩:=Value.isInt_shape (k:=i) (v:=v) h
  exact .inl ⟨i,t,rfl,e⟩
 | .inr x,v,h=>by
  obtain ⟨t,e⟩:=Value.isStrOf_shape (x:=x) (v:=v) h
  exact .inr ⟨x,t,rfl,e⟩
theorem Xy (a b:Int):decide ((Sum.inl a:AS)=Sum.inl b)=(a==b):=by
 by_cases e:a=b
 ·subst e; simp
 ·have h:¬ (Sum.inl a:AS)=Sum.inl b:=λq=>e (Sum.inl.inj q)
  rw [decide_eq_false h]
  exact (beq_eq_false_iff_ne.mpr e).symm
theorem Xv (a b:Str):decide ((Sum.inr a:AS)=Sum.inr b)=decide (a=b):=by
 by_cases e:a=b
 ·subst e; simp
 ·have h:¬ (Sum.inr a:AS)=Sum.inr b:=λq=>e (Sum.inr.inj q)
  rw [decide_eq_false h,decide_eq_false e]
theorem Xx (a:Int) (b:Str):decide ((Sum.inl a:AS)=Sum.inr b)=false:=decide_eq_false (λq=>nomatch q)
theorem Xw (a:Str) (b:Int):decide ((Sum.inr a:AS)=Sum.inl b)=false:=decide_eq_false (λq=>nomatch q)
def Ls (prog:Program) (w:World):PySem.KeyKind prog w AS where
 is:=O8
 hash:=Xz w
 inj:=λv a b ha hb=>by
  rcases Eh ha with ⟨i,t,rfl,rfl⟩ | ⟨x,t,rfl,rfl⟩
  ·rcases Eh hb with ⟨j,u,rfl,e⟩ | ⟨y,u,rfl,e⟩
   ·injection e with e1 _; rw [e1]
   ·exact nomatch e
  ·rcases Eh hb with ⟨j,u,rfl,e⟩ | ⟨y,u,rfl,e⟩
   ·exact nomatch e
   ·injection e with e1 _; rw [e1]
 byValue:=λk v h=>by
  rcases Eh h with ⟨i,t,rfl,rfl⟩ | ⟨x,t,rfl,rfl⟩ <;> rfl
 pyHash:=λhv h=>by
  rcases Eh hv with ⟨i,t,rfl,rfl⟩ | ⟨x,t,rfl,rfl⟩
  ·exact wpAny_pyHash_int h
  ·exact wpAny_pyHash_str h
 eqBool:=λhu hv h=>by
  rcases Eh hu with ⟨i,t,rfl,rfl⟩ | ⟨x,t,rfl,rfl⟩
  ·rcases Eh hv with ⟨j,u,rfl,rfl⟩ | ⟨y,u,rfl,rfl⟩
   ·rw [Xy] at h; exact wpAny_eqBool_int h
   ·rw [Xx] at h; exact SeqAt.EqAt.int_str i t y u _ _ _ _ h
  ·rcases Eh hv with ⟨j,u,rfl,rfl⟩ | ⟨y,u,rfl,rfl⟩
   ·rw [Xw] at h; exact SeqAt.EqAt.str_int x t j u _ _ _ _ h
   ·rw [Xv] at h; exact wpAny_eqBool_str h
 «strs»:=λk x t v h=>by
  rcases Eh h with ⟨i,u,rfl,e⟩ | ⟨y,u,rfl,e⟩
  ·exact nomatch e
  ·injection e with e1 _
   subst e1
   cases v <;> rfl
end L2
namespace L2
open PySem PySem.Spec PyProof.Rows
inductive V where
 | non | bl (b:Bool) | int (i:Int) | str (x:Str) | byt (b:Array UInt8) | flt (b:UInt64) | ref (a:Addr) | ty (n:String)
 deriving DecidableEq
def AN:V->Value->Prop
 | .non,u=>u=Value.none
 | .bl b,u=>u=Value.bool b
 | .int i,u=>∃ t,u=Value.int i t
 | .str x,u=>∃ t,u=Value.str x t
 | .byt b,u=>∃ t,u=Value.bytes b t
 | .flt b,u=>∃ t,u=Value.float b t
 | .ref a,u=>u=Value.ref a
 | .ty n,u=>u=Value.type n
abbrev Ar:List V->List Value->Prop:=Paired AN
theorem Ar.length {xs:List V} {us:List Value} (r:Ar xs us):xs.length=us.length:=Paired.length r
theorem Ar.get:∀ {xs:List V} {us:List Value} {i:Nat} {x:V},Ar xs us->xs[i]?=some x->∃ u,us[i]?=some u/\AN x u
 | _,_,_,_,.nil,e=>by simp at e
 | _,_,0,_,.cons r _,e=>by simp at e; subst e; exact ⟨_,rfl,r⟩
 | _,_,i+1,x,.cons _ t,e=>by
  obtain ⟨u,h1,h2⟩:=Ar.get (i:=i) (x:=x) t (by simpa using e)
  exact ⟨u,by simpa using h1,h2⟩
theorem Ar.set {x:V} {u:Value} (r:AN x u):∀ {xs:List V} {us:List Value} (i:Nat),Ar xs us->Ar (xs.set i x) (us.set i u)
 | _,_,_,.nil=>.nil
 | _,_,0,.cons _ t=>.cons r t
 | _,_,i+1,.cons q t=>.cons q (Ar.set r i t)
theorem Ar.append:∀ {xs ys:List V} {us ws:List Value},Ar xs us->Ar ys ws->Ar (xs++ys) (us++ws)
 | _,_,_,_,.nil,s=>s
 | _,_,_,_,.cons r t,s=>.cons r (Ar.append t s)
theorem Ar.take:∀ {xs:List V} {us:List Value} (n:Nat),Ar xs us->Ar (xs.take n) (us.take n)
 | _,_,0,_=>.nil
 | _,_,_+1,.nil=>.nil
 | _,_,n+1,.cons r t=>.cons r (Ar.take n t)
theorem Ar.drop:∀ {xs:List V} {us:List Value} (n:Nat),Ar xs us->Ar (xs.drop n) (us.drop n)
 | _,_,0,r=>r
 | _,_,_+1,.nil=>.nil
 | _,_,n+1,.cons _ t=>Ar.drop n t
def Dq:Option V->Option Value->Prop
 | some v,some u=>AN v u
 | none,none=>True
 | _,_=>False
def KV {κ:Type}:List (κ×V)->List (κ×Value)->Prop:=Paired λ(p:κ×V) (q:κ×Value)=>p.1=q.1/\AN p.2 q.2
def kV:AS->V
 | .inl i=>.int i
 | .inr x=>.str x
inductive HO where
 | lst (xs:List V)
 | tup (xs:List V)
 | dK (kvs:List (AS×V)) | dT (kvs:List (List AS×V))
 | set (S:Int->Bool) (n:Nat)
 | ins (C dx:Addr) (fs:List (Str×V))
 | own (x:Addr)
 | xd (fs:List (Str×V))
 | met (f x:Addr)
 | rng (lo hi:Int)
 | frz (o:Obj) (u:HO)
 | tbl (ps:Array Value)
 | ext (φ:Heap->Prop)
abbrev Hp:=Addr->Option HO
def Ap (H:Hp) (a:Addr) (o:HO):Hp:=λb=>if b=a then some o else H b
theorem AW {H:Hp} {a:Addr} {o:HO}:Ap H a o a=some o:=by unfold Ap; rw [if_pos rfl]
theorem AB {H:Hp} {a b:Addr} {o:HO} (h:b≠a):Ap H a o b=H b:=by unfold Ap; rw [if_neg h]
theorem Ri {H:Hp} {a:Addr} {o u:HO}:Ap (Ap H a o) a u=Ap H a u:=by
 funext b; unfold Ap; split <;> rfl
theorem BL {H:Hp} {a b:Addr} {o:HO} (h:H a=some o) (h':H b=none):a≠b:=by
 intro e; subst e; rw [h] at h'; cases h'
def DF (h:Heap) (a:Addr) (items:Array Value):Prop:=∃ o,h.get? a=some o/\o.dict=none/\o.cls=.type "tuple" /\ ∃ n,o.data=.seq items n
theorem DF.t {h:Heap} {a:Addr} {items:Array Value} (x:DF h a items):IsTup h a items:=let ⟨o,e,_,r⟩:=x; ⟨o,e,r⟩
theorem DF.new (h:Heap) (items:Array Value):DF (h.push { cls:=.type "tuple",data:=.seq items }) h.objs.size items:=⟨_,Heap.get?_push_size _ rfl,rfl,rfl,_,rfl⟩
section
variable (P:Program) (w:World)
def BI (H:Hp) (h:Heap) (a:Addr):HO->Prop
 | .lst xs=>xs.length<=sizeLine/\∃ (its:List Value) (n:Nat),Ar xs its/\h.get? a=some { cls:=.type "list",data:=.seq its.toArray n }
 | .tup xs=>xs.length<=sizeLine/\∃ its:List Value,Ar xs its/\DF h a its.toArray
 | .dK kvs=>kvs.length<=sizeLine/\(a==sysModules)=false/\∃ vs,KV kvs vs/\h.DictOf (Ls P w) a vs
 | .dT kvs=>kvs.length<=sizeLine/\(a==sysModules)=false/\∃ xs:List (List AS×Addr×Value),
   Paired (λ(p:List AS×V) (q:List AS×Addr×Value)=>p.1=q.1/\H q.2.1=some (.tup (p.1.map kV))/\AN p.2 q.2.2) kvs xs /\
   ∃ o es ep,h.get? a=some o/\o.ExactDict/\o.data=.dict es ep/\es.toList=xs.map (entryOfKey (tupleKind (Ls P w)))/\(xs.map (·.1)).Nodup
 | .set S n=>h.SetOf (intKind P w) a S n
 | .ins C dx fs=>H dx=some (.own a)/\fs.length<=1000/\dx≠a/\h.get? a=some (PySem.W.instObj C dx) /\
   ∃ mA,h.Ns1 dx mA/\(∀ f,Dq (fs.lookup f) (mA f))/\PySem.Within mA (fs.map (·.1))
 | .own _=>∃ o,h.get? a=some o
 | .xd fs=>∃ mA,h.Ns1 a mA/\∀ f,Dq (fs.lookup f) (mA f)
 | .rng lo hi=>∃ t u v,h.get? a=some { cls:=.type "range",data:=.fields #[.int lo t,.int hi u,.int 1 v] }
 | .frz o u=>h.get? a=some o/\BI H h a u
 | .tbl ps=>h.get? a=some { cls:=.none,data:=.fields ps }
 | .met f x=>h.get? a=some (PySem.W.methodObj (.ref f) (.ref x))
 | .ext φ=>φ h/\(∃ o,h.get? a=some o)/\∀ h1 h2:Heap,φ h1->(∀ o,h1.get? a=some o->h2.get? a=some o)->φ h2
def Bg (H:Hp) (h:Heap):Prop:=∀ a o,H a=some o->BI P w H h a o
end
section
variable {P:Program} {w:World} {H H':Hp} {h h':Heap} {a:Addr} {o:HO}
theorem BI.lt (x:BI P w H h a o):a<h.objs.size:=by
 cases o with
 | lst xs=>obtain ⟨_,_,_,_,e⟩:=x; exact Heap.lt_size e
 | tup xs=>obtain ⟨_,_,_,p⟩:=x; exact p.t.lt
 | dK kvs=>obtain ⟨_,_,_,_,o,_,_,e,_⟩:=x; exact Heap.lt_size e
 | dT kvs=>obtain ⟨_,_,_,_,o,_,_,e,_⟩:=x; exact Heap.lt_size e
 | set S n=>obtain ⟨o,_,_,_,e,_⟩:=x; exact Heap.lt_size e
 | ins C dx fs=>obtain ⟨_,_,_,e,_⟩:=x; exact Heap.lt_size e
 | own y=>obtain ⟨_,e⟩:=x; exact Heap.lt_size e
 | xd fs=>obtain ⟨_,⟨_,_,_,e,_⟩,_⟩:=x; exact Heap.lt_size e
 | rng lo hi=>obtain ⟨_,_,_,e⟩:=x; exact Heap.lt_size e
 | frz ob u=>obtain ⟨e,_⟩:=x; exact Heap.lt_size e
 | tbl ps=>exact Heap.lt_size (show h.get? a=some _ from x)
 | met f y=>exact Heap.lt_size (show h.get? a=some _ from x)
 | ext φ=>obtain ⟨_,⟨_,e⟩,_⟩:=x; exact Heap.lt_size e
theorem Paired.mapP {α β:Type} {F G:α->β->Prop}:∀ {l₁:List α} {l₂:List β},Paired F l₁ l₂->(∀ a b,F a b->G a b)->Paired G l₁ l₂
 | _,_,.nil,_=>.nil
 | _,_,.cons r t,f=>.cons (f _ _ r) (Paired.mapP t f)
theorem BI.stay (x:BI P w H h a o) (k:∀ b u,(b=a\/H b=some (.own a))->h.get? b=some u->h'.get? b=some u)
  (ho:∀ b,H b=some (.own a)->H' b=some (.own a)) (ht:∀ b xs,H b=some (.tup xs)->H' b=some (.tup xs)):BI P w H' h' a o:=by
 induction o with
 | lst xs=>obtain ⟨z,its,n,r,e⟩:=x; exact ⟨z,its,n,r,k _ _ (.inl rfl) e⟩
 | tup xs=>obtain ⟨z,its,r,ob,e,c⟩:=x; exact ⟨z,its,r,ob,k _ _ (.inl rfl) e,c⟩
 | dK kvs=>obtain ⟨z,y,vs,r,ob,es,ep,e,c⟩:=x; exact ⟨z,y,vs,r,ob,es,ep,k _ _ (.inl rfl) e,c⟩
 | dT kvs=>
  obtain ⟨z,y,xs,r,ob,es,ep,e,c⟩:=x
  exact ⟨z,y,xs,Paired.mapP r λp q z=>⟨z.1,ht _ _ z.2.1,z.2.2⟩,ob,es,ep,k _ _ (.inl rfl) e,c⟩
 | set S n=>obtain ⟨ob,es,ep,t,e,c⟩:=x; exact ⟨ob,es,ep,t,k _ _ (.inl rfl) e,c⟩
 | ins C dx fs=>
  obtain ⟨d,z,ne,e,mA,⟨od,es,ep,e2,c⟩,r⟩:=x
  exact ⟨ho _ d,z,ne,k _ _ (.inl rfl) e,mA,⟨od,es,ep,k _ _ (.inr d) e2,c⟩,r⟩
 | own y=>obtain ⟨ob,e⟩:=x; exact ⟨ob,k _ _ (.inl rfl) e⟩
 | xd fs=>obtain ⟨mA,⟨od,es,ep,e,c⟩,r⟩:=x; exact ⟨mA,⟨od,es,ep,k _ _ (.inl rfl) e,c⟩,r⟩
 | rng lo hi=>obtain ⟨t,u,v,e⟩:=x; exact ⟨t,u,v,k _ _ (.inl rfl) e⟩
 | frz ob u ih=>obtain ⟨e,q⟩:=x; exact ⟨k _ _ (.inl rfl) e,ih q⟩
 | tbl ps=>
  have e:h.get? a=some { cls:=.none,data:=.fields ps }:=x
  show h'.get? a=some { cls:=.none,data:=.fields ps }
  exact k a _ (.inl rfl) e
 | met f y=>
  have e:h.get? a=some (PySem.W.methodObj (.ref f) (.ref y)):=x
  show h'.get? a=some (PySem.W.methodObj (.ref f) (.ref y))
  exact k a _ (.inl rfl) e
 | ext φ=>obtain ⟨p,⟨o,e⟩,st⟩:=x; exact ⟨st _ _ p λo q=>k _ _ (.inl rfl) q,⟨o,k _ _ (.inl rfl) e⟩,st⟩
theorem Bg.lt (x:Bg P w H h) (e:H a=some o):a<h.objs.size:=(x a o e).lt
theorem Bg.fresh (x:Bg P w H h) (e:h.objs.size<=a):H a=none:=by
 cases q:H a with
 | none=>rfl
 | some u=>exact absurd (Nat.lt_of_lt_of_le (x.lt q) e) (Nat.lt_irrefl _)
theorem Bg.kept (x:Bg P w H h) (k:∀ b u,h.get? b=some u->h'.get? b=some u):Bg P w H h':=λa o e=>
 (x a o e).stay (λb u _ q=>k b u q) (λ_ q=>q) λ_ _ q=>q
theorem Bg.laid (x:Bg P w H h) (k:∀ b u,h.get? b=some u->h'.get? b=some u) (hp:h.objs.size<=a) (new:BI P w (Ap H a o) h' a o):Bg P w (Ap H a o) h':=λb u e=>by
 have hn:=x.fresh hp
 by_cases hb:b=a
 ·subst hb; rw [AW] at e; cases e; exact new
 ·rw [AB hb] at e
  exact (x b u e).stay (λc v _ q=>k c v q) (λc q=>by rw [AB (BL q hn)]; exact q) λc xs q=>by rw [AB (BL q hn)]; exact q
end
def Rd (H:Hp) (a:Addr) (u:HO):Prop:=H a=some u\/∃ o,H a=some (.frz o u)
theorem Rd.ok {P:Program} {w:World} {H:Hp} {h:Heap} {a:Addr} {u:HO} (r:Rd H a u) (x:Bg P w H h):BI P w H h a u:=by
 rcases r with r | ⟨o,r⟩
 ·exact x a u r
 ·obtain ⟨_,q⟩:=x a _ r
  exact q
def IR:Option HO->Prop
 | some (.lst _)=>True
 | some (.dK _)=>True
 | some (.dT _)=>True
 | some (.set _ _)=>True
 | some (.ins _ _ _)=>True
 | some (.ext _)=>True
 | _=>False
section
variable {P:Program} {w:World} {H:Hp} {h h':Heap} {x e:Addr} {o':HO}
theorem Bg.write (ok:Bg P w H h) (mu:IR (H x)) (he:e=x\/H e=some (.own x)) (k:∀ b u,b≠e->h.get? b=some u->h'.get? b=some u) (heo:∃ u,h'.get? e=some u)
  (new:BI P w (Ap H x o') h' x o'):Bg P w (Ap H x o') h':=λb u q=>by
 have nown:∀ c y,H c=some (.own y)->c≠x:=λc y r z=>by subst z; rw [r] at mu; exact mu
 have ntup:∀ c xs,H c=some (.tup xs)->c≠x:=λc xs r z=>by subst z; rw [r] at mu; exact mu
 by_cases hb:b=x
 ·subst hb; rw [AW] at q; cases q; exact new
 ·rw [AB hb] at q
  by_cases hbe:b=e
  ·have q':H b=some (.own x):=by
    rcases he with z | z
    ·exact absurd (hbe.trans z) hb
    ·rw [hbe]; exact z
   rw [q] at q'; cases q'
   obtain ⟨v,hv⟩:=heo
   exact ⟨v,by rw [hbe]; exact hv⟩
  ·refine (ok b u q).stay (λc v hc r=>k c v ?_ r) (λc r=>by rw [AB (nown c b r)]; exact r) λc xs r=>by rw [AB (ntup c xs r)]; exact r
   rcases hc with rfl | hc
   ·exact hbe
   ·rintro rfl
    rcases he with z | z
    ·exact nown c b hc z
    ·rw [hc] at z; cases z; exact hb rfl
end
structure Un (fs ex:List Addr) (H H':Hp) (h h':Heap):Prop where
 keep:∀ b o,h.get? b=some o->H b=none->b∉fs->b∉ex->h'.get? b=some o
 slot:∀ b o,h.get? b=some o->H b=none->b∈fs->b∉ex->∃ sl,h'.get? b=some { o with slots:=sl }
 free:∀ b o,h.get? b=some o->H b=none->b∉ex->H' b=none
 there:∀ b o,h.get? b=some o->b∉ex->∃ o',h'.get? b=some o'
 tups:∀ b xs,H b=some (.tup xs)->H' b=some (.tup xs)
 frzs:∀ b o u,H b=some (.frz o u)->H' b=some (.frz o u)
 tbls:∀ b ps,H b=some (.tbl ps)->∃ more,H' b=some (.tbl (ps++more))
section
variable {fs fs' ex ex':List Addr} {H H1 H2:Hp} {h h1 h2 h':Heap} {a x e:Addr} {o:HO}
theorem Un.any (u:Un fs ex H H1 h h1) {b:Addr} {ob:Obj} (q:h.get? b=some ob) (n:H b=none) (hx:b∉ex):∃ sl,h1.get? b=some { ob with slots:=sl }:=by
 by_cases hb:b∈fs
 ·exact u.slot b ob q n hb hx
 ·exact ⟨ob.slots,u.keep b ob q n hb hx⟩
theorem Un.kept (k:∀ b u,h.get? b=some u->h'.get? b=some u):Un fs ex H H h h':=
 ⟨λb ob q _ _ _=>k b ob q,λb ob q _ _ _=>⟨ob.slots,k b ob q⟩,λ_ _ _ n _=>n,λb ob q _=>⟨ob,k b ob q⟩,λ_ _ q=>q,λ_ _ _ q=>q,λ_ ps q=>⟨#[],by rw [q]; simp⟩⟩
theorem Un.refl:Un fs ex H H h h:=Un.kept λ_ _ q=>q
theorem Un.laid (k:∀ b u,h.get? b=some u->h'.get? b=some u) (hp:h.objs.size<=a) (hn:H a=none):Un fs ex H (Ap H a o) h h' where
 keep:=λb u q _ _ _=>k b u q
 slot:=λb u q _ _ _=>⟨u.slots,k b u q⟩
 free:=λb u q n _=>by rw [AB (Nat.ne_of_lt (Nat.lt_of_lt_of_le (Heap.lt_size q) hp))]; exact n
 there:=λb u q _=>⟨u,k b u q⟩
 tups:=λb xs q=>by rw [AB (BL q hn)]; exact q
 frzs:=λb u xs q=>by rw [AB (BL q hn)]; exact q
 tbls:=λb ps q=>⟨#[],by rw [AB (BL q hn),q]; simp⟩
theorem Un.write (mu:IR (H x)) (he:e=x\/H e=some (.own x)) (k:∀ b u,b≠e->h.get? b=some u->h'.get? b=some u) (heo:∃ u,h'.get? e=some u):Un fs ex H (Ap H x o) h h':=by
 have hx:∀ b,H b=none->b≠x:=λb n z=>by subst z; rw [n] at mu; exact mu
 have hb:∀ b,H b=none->b≠e:=λb n z=>by
  subst z
  rcases he with r | r
  ·exact hx b n r
  ·rw [n] at r; cases r
 have hm:∀ b u,H b=some u->¬ IR (some u)->b≠x:=λb u q nm z=>by subst z; rw [q] at mu; exact nm mu
 refine ⟨λb u q n _ _=>k b u (hb b n) q,λb u q n _ _=>⟨u.slots,k b u (hb b n) q⟩,λb u q n _=>by rw [AB (hx b n)]; exact n,λb u q _=>?_,
  λb xs q=>by rw [AB (hm b _ q λz=>z)]; exact q,λb u xs q=>by rw [AB (hm b _ q λz=>z)]; exact q,λb ps q=>⟨#[],by rw [AB (hm b _ q λz=>z),q]; simp⟩⟩
 by_cases hbe:b=e
 ·subst hbe; exact heo
 ·exact ⟨u,k b u hbe q⟩
end
def trk (h:Heap) (H:Hp):List Addr:=(List.range h.objs.size).filter λa=>(H a).isSome
def Ek (h:Heap) (H:Hp):Heap:=PySem.W.hideAll h (trk h H)
theorem X0 (h:Heap) (H:Hp):(Ek h H).objs.size=h.objs.size:=PySem.W.hideAll_size _ _
theorem X2 {h:Heap} {H:Hp} {b:Addr} {o:Obj} (e:h.get? b=some o) (n:H b=none):(Ek h H).get? b=some o:=
 PySem.W.hideAll_get _ e λhm=>by
  have q:(H b).isSome=true:=(List.mem_filter.mp hm).2
  rw [n] at q; simp at q
theorem WK {h:Heap} {H:Hp} {b:Addr} {o:Obj} (e:(Ek h H).get? b=some o):h.get? b=some o/\H b=none:=by
 have e':h.get? b=some o:=PySem.W.of_hideAll (trk h H) e
 refine ⟨e',?_⟩
 cases q:H b with
 | none=>rfl
 | some x=>
  have hm:b∈trk h H:=List.mem_filter.mpr ⟨List.mem_range.mpr (Heap.lt_size e'),by simp [q]⟩
  have z:(Ek h H).get? b=none:=PySem.W.hideAll_none (trk h H) hm
  rw [z] at e; cases e
def Z2 (g h:Heap) (L:Addr):List (Addr×Obj):=(List.range h.objs.size).filterMap λa=>if a=L\/(g.get? a).isSome=true then none else (h.get? a).map λo=>(a,o)
def rest (g h:Heap) (L d:Addr):List (Addr×Obj):=(Z2 g h L).filter λp=>decide (p.1≠d)
end L2
namespace L2
open PySem PySem.Spec PyProof.Rows
structure Mod (K:PySem.W.Frag) (mg:Str->Option Value) (base:Heap):Prop where
 kin:K.In base
 glob:base.Ns mainGlobals mg
 blt:∃ mb,base.Ns builtinsNs mb/\∀ x:Str,x ≠ "__name__" -> mb x=bootBuiltins x
 nolimit:base.NoLimit
structure Cx where
 prog:Program
 w:World
 K:PySem.W.Frag
 mg:Str->Option Value
 base:Heap
 A:Around
 N:List Str
 s₀:Shared
 H₀:Hp
 env:Env
 outer:List Env
 stack:List Env
 ex:List Addr
 fn:Str->Bool
 calm:Bool
 pn:List (Addr×Obj)
 xe:Value->Shared->Prop
def AZ (l:List Env):List Addr:=l.filterMap (·.frame)
abbrev Cx.fs (X:Cx):List Addr:=AZ X.outer
def C1 (sc:Scope) (x:Str):Prop:=sc.names.lookup x=some .local\/sc.names.lookup x=some .cell\/sc.names.lookup x=some .free
def Er (sc:Scope) (x:Str):Prop:=sc.names.lookup x=some .local\/sc.names.lookup x=some .cell
def Look (env:Env) (h:Heap) (m:Str->Option Value) (x:Str) (u:Value):Prop:=
 (env.kindOf x=some .local/\m x=some u)\/((env.kindOf x=some .cell\/env.kindOf x=some .free)/\∃ c,env.cells.lookup x=some c/\h.IsCell c (some u))
structure Cx.Ok (X:Cx):Prop where
 mod:Mod X.K X.mg X.base
 kind:X.env.scope.kind=.function
 glob:X.env.globals=mainGlobals
 blt:X.env.builtins=builtinsNs
 above:X.s₀.heap.objs.size<=X.env.locals
 inj:∀ x y c,X.env.cells.lookup x=some c->X.env.cells.lookup y=some c->x=y
 has:∀ x,(X.env.kindOf x=some .cell\/X.env.kindOf x=some .free)->∃ c,X.env.cells.lookup x=some c
 cab:∀ x c,X.fn x=true->X.env.cells.lookup x=some c->X.s₀.heap.objs.size<=c
 hd:X.calm=true->X.A.handled=none
 frames:X.A.frames=some X.stack
 stk:X.stack=X.outer\/(X.stack=X.env::X.outer/\X.env.frame=some X.env.locals)
 exf:∀ b∈X.ex,b≠X.env.locals/\∀ x c,X.env.cells.lookup x=some c->c≠b
 bs:∀ b o,X.base.get? b=some o->X.s₀.heap.get? b=some o/\X.H₀ b=none
 bsz:X.base.objs.size<=X.s₀.heap.objs.size
 noex:∀ b o,X.base.get? b=some o->b∉X.ex
 exfs:∀ b∈X.ex,b∉X.fs
 funs:X.s₀.heap.FunFrames X.base X.outer
 frf:∀ b∈X.fs,X.H₀ b=none
structure Inv (X:Cx) (pins:List (Addr×Obj)) (σ:List (Option V)) (H:Hp) (s:Shared):Prop where
 ok:X.Ok
 os:s.os=X.s₀.os
 bare:AllBare s.gens
 base:Un X.fs X.ex X.H₀ H X.s₀.heap s.heap
 loc:∃ m,s.heap.Ns X.env.locals m/\∀ (i:Nat) (x:Str) (v:V),X.N[i]?=some x->σ[i]?=some (some v)->C1 X.env.scope x->∃ u,AN v u/\Look X.env s.heap m x u
 cell:∀ x c,X.env.cells.lookup x=some c->∃ v,s.heap.IsCell c v
 free:H X.env.locals=none
 freeC:∀ x c,X.env.cells.lookup x=some c->H c=none
 pin:∀ p∈X.pn++pins,s.heap.get? p.1=some p.2/\H p.1=none/\p.1≠X.env.locals/\p.1∉X.fs/\∀ v,p.2.data≠.cell v
 hok:Bg X.prog X.w H s.heap
 len:σ.length=X.N.length
section
variable {X:Cx} {pins:List (Addr×Obj)} {σ:List (Option V)} {H H':Hp} {s:Shared} {h':Heap}
theorem Cx.Ok.nofr (ok:X.Ok) {b:Addr} {o:Obj} (e:X.base.get? b=some o):b∉X.fs:=λhb=>by
 have:=(ok.funs.mem hb).1
 rw [e] at this; cases this
theorem Inv.bs (I:Inv X pins σ H s):∀ b o,X.base.get? b=some o->s.heap.get? b=some o/\H b=none:=λb o e=>
 ⟨I.base.keep b o (I.ok.bs b o e).1 (I.ok.bs b o e).2 (I.ok.nofr e) (I.ok.noex b o e),I.base.free b o (I.ok.bs b o e).1 (I.ok.bs b o e).2 (I.ok.noex b o e)⟩
theorem Inv.bk (I:Inv X pins σ H s):∀ b o,X.base.get? b=some o->s.heap.get? b=some o:=λb o e=>(I.bs b o e).1
theorem Inv.mod (I:Inv X pins σ H s):Mod X.K X.mg X.base:=I.ok.mod
theorem Inv.kIn (I:Inv X pins σ H s):X.K.In s.heap:=I.ok.mod.kin.keeps I.bk
theorem Inv.lt (I:Inv X pins σ H s):X.env.locals<s.heap.objs.size:=let ⟨_,hn,_⟩:=I.loc; hn.lt
theorem Inv.sz (I:Inv X pins σ H s):X.s₀.heap.objs.size<=s.heap.objs.size:=Nat.le_trans I.ok.above (Nat.le_of_lt I.lt)
theorem Inv.nofs (I:Inv X pins σ H s) {a:Addr} (h:s.heap.objs.size<=a):a∉X.fs:=λhb=>by
 obtain ⟨_,o,ho,_⟩:=I.ok.funs.mem hb
 exact absurd (Nat.lt_of_lt_of_le (Heap.lt_size ho) (Nat.le_trans I.sz h)) (Nat.lt_irrefl _)
theorem Inv.cne (I:Inv X pins σ H s):∀ x c,X.env.cells.lookup x=some c->c≠X.env.locals:=λx c e z=>by
 obtain ⟨v,o,ho,hd⟩:=I.cell x c e
 obtain ⟨m,⟨o',es,ep,ho',hd',_⟩,_⟩:=I.loc
 rw [z,ho'] at ho; cases ho; rw [hd'] at hd; cases hd
theorem Inv.funs (I:Inv X pins σ H s):s.heap.FunFrames X.base X.outer:=by
 have all:∀ (l:List Env),(∀ b∈AZ l,b∈X.fs)->X.s₀.heap.FunFrames X.base l->s.heap.FunFrames X.base l:=by
  intro l
  induction l with
  | nil=>intro _ _; trivial
  | cons env r ih=>
   intro hs hl
   obtain ⟨hk,⟨L,o,hf,hn,ho,hd⟩,hr⟩:=hl
   have hL:L∈X.fs:=hs L (by unfold AZ; rw [List.filterMap_cons,hf]; exact List.mem_cons_self)
   obtain ⟨sl,e⟩:=I.base.slot L o ho (I.ok.frf L hL) hL λz=>I.ok.exfs L z hL
   exact ⟨hk,⟨L,_,hf,hn,e,hd⟩,ih (λb hb=>hs b (by unfold AZ; rw [List.filterMap_cons,hf]; exact List.mem_cons_of_mem _ hb)) hr⟩
 exact all X.outer (λ_ hb=>hb) I.ok.funs
theorem Inv.stack (I:Inv X pins σ H s):s.heap.FunFrames X.base X.stack:=by
 rcases I.ok.stk with e | ⟨e,hf⟩
 ·rw [e]; exact I.funs
 ·rw [e]
  obtain ⟨m,hn,_⟩:=I.loc
  refine .cons (by rw [I.ok.kind]; decide) hf hn ?_ I.funs
  exact Heap.get?_none_of_le (Nat.le_trans I.ok.bsz I.ok.above)
theorem Inv.stkSub (I:Inv X pins σ H s):∀ b∈AZ X.stack,b∈X.env.locals::X.fs:=λb hb=>by
 rcases I.ok.stk with e | ⟨e,hf⟩
 ·rw [e] at hb; exact List.mem_cons_of_mem _ hb
 ·rw [e] at hb
  unfold AZ at hb
  rw [List.filterMap_cons,hf] at hb
  exact hb
theorem Inv.stkFree (I:Inv X pins σ H s):∀ b∈AZ X.stack,H b=none:=λb hb=>by
 rcases List.mem_cons.mp (I.stkSub b hb) with e | hb
 ·rw [e]; exact I.free
 ·obtain ⟨_,o,ho,_⟩:=I.ok.funs.mem hb
  exact I.base.free b o ho (I.ok.frf b hb) λz=>I.ok.exfs b z hb
theorem Inv.step {g':Array GenState} {t':Nat} {d':Drawn} {ch:List Addr} (I:Inv X pins σ H s)
  (hch:∀ b∈ch,(b∈X.ex\/X.s₀.heap.objs.size<=b)/\b≠X.env.locals/\(∀ x c,X.env.cells.lookup x=some c->c≠b)/\∀ p∈X.pn++pins,p.1≠b)
  (keep:∀ b o,b≠X.env.locals->b∉X.fs->b∉ch->s.heap.get? b=some o->H b=none->h'.get? b=some o)
  (slot:∀ b o,b≠X.env.locals->b∈X.fs->b∉ch->s.heap.get? b=some o->H b=none->∃ sl,h'.get? b=some { o with slots:=sl }) (free:∀ b o,b∉ch->s.heap.get? b=some o->H b=none->H' b=none)
  (there:∀ b o,b∉ch->s.heap.get? b=some o->∃ o',h'.get? b=some o')
  (tups:∀ b xs,H b=some (.tup xs)->H' b=some (.tup xs)) (frzs:∀ b o u,H b=some (.frz o u)->H' b=some (.frz o u)) (tbls:∀ b ps,H b=some (.tbl ps)->∃ more,H' b=some (.tbl (ps++more)))
  (ns:∀ m,s.heap.Ns X.env.locals m->h'.Ns X.env.locals m) (hok:Bg X.prog X.w H' h') (hg:AllBare g') :
  Inv X pins σ H' { s with heap:=h',gens:=g',drawn:=d',toks:=t' }:=by
 have neL:∀ b o,X.s₀.heap.get? b=some o->b≠X.env.locals:=λb o e=>Nat.ne_of_lt (Nat.lt_of_lt_of_le (Heap.lt_size e) I.ok.above)
 have neC:∀ b o,X.s₀.heap.get? b=some o->b∉X.ex->b∉ch:=λb o e hx hb=>by
  rcases (hch b hb).1 with z | z
  ·exact hx z
  ·exact absurd (Nat.lt_of_lt_of_le (Heap.lt_size e) z) (Nat.lt_irrefl _)
 have cellK:∀ x c,X.env.cells.lookup x=some c->∀ v,s.heap.IsCell c v->h'.IsCell c v:=λx c e v ⟨o,ho,hd⟩=>by
  have nch:c∉ch:=λz=>(hch c z).2.2.1 x c e rfl
  by_cases hc:c∈X.fs
  ·obtain ⟨sl,q⟩:=slot c o (I.cne x c e) hc nch ho (I.freeC x c e)
   exact ⟨_,q,hd⟩
  ·exact ⟨o,keep c o (I.cne x c e) hc nch ho (I.freeC x c e),hd⟩
 refine ⟨I.ok,I.os,hg,⟨λb o e n hb hx=>?_,λb o e n hb hx=>?_,λb o e n hx=>?_,λb o e hx=>?_,λb xs e=>tups b xs (I.base.tups b xs e),λb o xs e=>frzs b o xs (I.base.frzs b o xs e),λb ps e=>?_⟩,?_,λx c e=>?_,?_,λx c e=>?_,λp hp=>?_,hok,I.len⟩
 ·exact keep b o (neL b o e) hb (neC b o e hx) (I.base.keep b o e n hb hx) (I.base.free b o e n hx)
 ·obtain ⟨sl,e1⟩:=I.base.slot b o e n hb hx
  obtain ⟨sl',e2⟩:=slot b _ (neL b o e) hb (neC b o e hx) e1 (I.base.free b o e n hx)
  exact ⟨sl',e2⟩
 ·obtain ⟨o',e1⟩:=I.base.there b o e hx
  exact free b o' (neC b o e hx) e1 (I.base.free b o e n hx)
 ·obtain ⟨o',e1⟩:=I.base.there b o e hx
  exact there b o' (neC b o e hx) e1
 ·obtain ⟨m1,e1⟩:=I.base.tbls b ps e
  obtain ⟨m2,e2⟩:=tbls b _ e1
  exact ⟨m1++m2,by rw [e2,Array.append_assoc]⟩
 ·obtain ⟨m,hn,hl⟩:=I.loc
  refine ⟨m,ns m hn,λi x v e1 e2 e3=>?_⟩
  obtain ⟨u,r,l⟩:=hl i x v e1 e2 e3
  refine ⟨u,r,?_⟩
  rcases l with l | ⟨k,c,e,z⟩
  ·exact .inl l
  ·exact .inr ⟨k,c,e,cellK x c e _ z⟩
 ·obtain ⟨v,z⟩:=I.cell x c e
  exact ⟨v,cellK x c e v z⟩
 ·obtain ⟨m,⟨o,_,_,ho,_⟩,_⟩:=I.loc
  exact free _ o (λz=>(hch _ z).2.1 rfl) ho I.free
 ·obtain ⟨v,o,ho,hd⟩:=I.cell x c e
  exact free c o (λz=>(hch c z).2.2.1 x c e rfl) ho (I.freeC x c e)
 ·obtain ⟨e,n,ne,nf,d⟩:=I.pin p hp
  have nch:p.1∉ch:=λz=>(hch p.1 z).2.2.2 p hp rfl
  exact ⟨keep p.1 p.2 ne nf nch e n,free p.1 p.2 nch e n,ne,nf,d⟩
theorem Inv.un {t':Nat} (I:Inv X pins σ H s) (u:Un X.fs [] H H' s.heap h') (hok:Bg X.prog X.w H' h'):Inv X pins σ H' { s with heap:=h',toks:=t' }:=by
 obtain ⟨m,⟨o,es,ep,ho,r⟩,_⟩:=id I.loc
 obtain ⟨sl,hL⟩:=u.any ho I.free (by simp)
 exact I.step (g':=s.gens) (d':=s.drawn) (ch:=[]) (λ_ z=>nomatch z) (λb o _ hb _ e n=>u.keep b o e n hb (by simp)) (λb o _ hb _ e n=>u.slot b o e n hb (by simp)) (λb o _ e n=>u.free b o e n (by simp)) (λb o _ e=>u.there b o e (by simp)) u.tups u.frzs u.tbls (λm' hm=>by
  obtain ⟨o',es',ep',ho',r'⟩:=hm
  rw [ho] at ho'; cases ho'
  exact ⟨_,es',ep',hL,r'⟩) hok I.bare
theorem Inv.call {g':Array GenState} {t':Nat} {d':Drawn} {ch:List Addr} (I:Inv X pins σ H s) (u:Un (AZ X.stack) ch H H' s.heap h') (hok:Bg X.prog X.w H' h') (hg:AllBare g')
  (hch:∀ b∈ch,(b∈X.ex\/X.s₀.heap.objs.size<=b)/\b≠X.env.locals/\(∀ x c,X.env.cells.lookup x=some c->c≠b)/\∀ p∈X.pn++pins,p.1≠b) :
  Inv X pins σ H' { s with heap:=h',gens:=g',drawn:=d',toks:=t' }:=by
 obtain ⟨m,⟨o,es,ep,ho,r⟩,_⟩:=id I.loc
 obtain ⟨sl,hL⟩:=u.any ho I.free λz=>(hch _ z).2.1 rfl
 exact I.step (ch:=ch) hch (λb o hL hb hc e n=>u.keep b o e n (λz=>(List.mem_cons.mp (I.stkSub b z)).elim hL hb) hc) (λb o _ _ hc e n=>u.any e n hc) (λb o hc e n=>u.free b o e n hc) (λb o hc e=>u.there b o e hc) u.tups u.frzs u.tbls (λm' hm=>by
  obtain ⟨o',es',ep',ho',r'⟩:=hm
  rw [ho] at ho'; cases ho'
  exact ⟨_,es',ep',hL,r'⟩) hok hg
theorem Inv.turned {t':Nat} {it:Addr} (I:Inv X pins σ H s) (k:∀ b o,b≠it->s.heap.get? b=some o->h'.get? b=some o) (hn:H it=none) (hL:it≠X.env.locals)
  (h1:it∈X.ex\/X.s₀.heap.objs.size<=it) (h2:∀ x c,X.env.cells.lookup x=some c->c≠it) (h3:∀ p∈X.pn++pins,p.1≠it):Inv X pins σ H { s with heap:=h',toks:=t' }:=by
 have nit:∀ b u,H b=some u->b≠it:=λb u e z=>by rw [z,hn] at e; cases e
 refine I.step (g':=s.gens) (d':=s.drawn) (ch:=[it]) (λb hb=>?_) (λb o _ _ hc e _=>k b o (λz=>hc (by simp [z])) e) (λb o _ _ hc e _=>⟨o.slots,k b o (λz=>hc (by simp [z])) e⟩) (λ_ _ _ _ n=>n)
  (λb o hc e=>⟨o,k b o (λz=>hc (by simp [z])) e⟩) (λ_ _ e=>e) (λ_ _ _ e=>e) (λb ps e=>⟨#[],by rw [e]; simp⟩) (λm hm=>?_) (λb u e=>?_) I.bare
 ·have e:b=it:=by simpa using hb
  subst e
  exact ⟨h1,hL,h2,h3⟩
 ·obtain ⟨o,es,ep,ho,r⟩:=hm
  exact ⟨o,es,ep,k _ o (Ne.symm hL) ho,r⟩
 ·refine (I.hok b u e).stay (λc v hc q=>k c v ?_ q) (λ_ q=>q) λ_ _ q=>q
  rcases hc with z | z
  ·rw [z]; exact nit b u e
  ·exact nit c _ z
theorem Inv.tok (I:Inv X pins σ H s) (t:Nat):Inv X pins σ H { s with toks:=t }:=I.un (h':=s.heap) (t':=t) Un.refl I.hok
theorem Inv.kept {t':Nat} (I:Inv X pins σ H s) (k:∀ b u,s.heap.get? b=some u->h'.get? b=some u):Inv X pins σ H { s with heap:=h',toks:=t' }:=I.un (Un.kept k) (I.hok.kept k)
theorem Inv.laid {a:Addr} {o:HO} {t':Nat} (I:Inv X pins σ H s) (k:∀ b u,s.heap.get? b=some u->h'.get? b=some u) (hp:s.heap.objs.size<=a) (new:BI X.prog X.w (Ap H a o) h' a o) :
  Inv X pins σ (Ap H a o) { s with heap:=h',toks:=t' }:=I.un (Un.laid k hp (I.hok.fresh hp)) (I.hok.laid k hp new)
theorem Inv.write {x e:Addr} {o:HO} {t':Nat} (I:Inv X pins σ H s) (mu:IR (H x)) (he:e=x\/H e=some (.own x)) (k:∀ b u,b≠e->s.heap.get? b=some u->h'.get? b=some u) (heo:∃ u,h'.get? e=some u)
  (new:BI X.prog X.w (Ap H x o) h' x o):Inv X pins σ (Ap H x o) { s with heap:=h',toks:=t' }:=I.un (Un.write mu he k heo) (I.hok.write mu he k heo new)
theorem Inv.pins_of {pins':List (Addr×Obj)} (I:Inv X pins σ H s) (h:∀ p∈pins',s.heap.get? p.1=some p.2/\H p.1=none/\p.1≠X.env.locals/\p.1∉X.fs/\∀ v,p.2.data≠.cell v):Inv X pins' σ H s:=
 ⟨I.ok,I.os,I.bare,I.base,I.loc,I.cell,I.free,I.freeC,λp hp=>(List.mem_append.mp hp).elim (λz=>I.pin p (List.mem_append_left _ z)) (h p),I.hok,I.len⟩
theorem Lq {N:List Str} (hN:N.Nodup) {i j:Nat} {x:Str} (a:N[i]?=some x) (b:N[j]?=some x):i=j:=by
 obtain ⟨h1,e1⟩:=List.getElem?_eq_some_iff.mp a
 obtain ⟨h2,e2⟩:=List.getElem?_eq_some_iff.mp b
 exact (List.getElem_inj hN).mp (e1.trans e2.symm)
theorem Nm {M:Model} {A:Around} {E:Value->Shared->Prop} {i:Nat} {x:Str} {v:V} {u:Value} {Q:Unit->Shared->Prop} (I:Inv X pins σ H s) (hN:X.N.Nodup) (hi:X.N[i]?=some x) (hx:Er X.env.scope x) (r:AN v u)
  (h:∀ s',Inv X pins (σ.set i (some v)) H s'->(∃ a,Heap.SameBut a s.heap s'.heap/\(a=X.env.locals\/X.env.cells.lookup x=some a))->Q () s') (hf:X.fn x=true\/X.env.scope.names.lookup x=some .local:=by first | exact .inl rfl | exact .inr rfl | assumption):wpAny M A (storeName X.env x u) Q E s:=by
 obtain ⟨m,hn,hl⟩:=id I.loc
 have hcls:(X.env.scope.kind==.class||(X.env.scope.kind==.module&&X.env.locals != X.env.globals))=false:=by rw [I.ok.kind]; rfl
 have hiσ:i<σ.length:=by rw [I.len]; exact (List.getElem?_eq_some_iff.mp hi).1
 have cne:=I.cne
 have tracked:∀ {a:Addr} {h':Heap},(∃ o,s.heap.get? a=some o/\H a=none)->Heap.SameBut a s.heap h'->Bg X.prog X.w H h':=λ{a h'} ha hs b ob e=>by
  obtain ⟨_,_,hfree⟩:=ha
  refine (I.hok b ob e).stay (λc w' hc q=>(hs.2 c ?_).trans q) (λ_ q=>q) λ_ _ q=>q
  rintro rfl
  rcases hc with rfl | hc
  ·rw [hfree] at e; cases e
  ·rw [hfree] at hc; cases hc
 rcases hx with hk | hk
 ·refine wpAny_storeName_local hk hn (λh' hn' hs=>?_) hcls
  obtain ⟨oL,_,_,hoL,_⟩:=id hn
  refine h _ ⟨I.ok,I.os,I.bare,⟨λb o e n hb hx=>?_,λb o e n hb hx=>?_,I.base.free,λb o e hx=>?_,I.base.tups,I.base.frzs,I.base.tbls⟩,⟨_,hn',λj y v' e1 e2 e3=>?_⟩,λy c e=>?_,I.free,I.freeC,λp hp=>?_,tracked ⟨oL,hoL,I.free⟩ hs,by simpa using I.len⟩ ⟨_,hs,.inl rfl⟩
  ·exact (hs.2 b (Nat.ne_of_lt (Nat.lt_of_lt_of_le (Heap.lt_size e) I.ok.above))).trans (I.base.keep b o e n hb hx)
  ·obtain ⟨sl,e1⟩:=I.base.slot b o e n hb hx
   exact ⟨sl,(hs.2 b (Nat.ne_of_lt (Nat.lt_of_lt_of_le (Heap.lt_size e) I.ok.above))).trans e1⟩
  ·obtain ⟨o',e1⟩:=I.base.there b o e hx
   exact ⟨o',(hs.2 b (Nat.ne_of_lt (Nat.lt_of_lt_of_le (Heap.lt_size e) I.ok.above))).trans e1⟩
  ·by_cases hj:j=i
   ·subst hj
    rw [hi] at e1; cases e1
    rw [List.getElem?_set_self hiσ] at e2
    cases e2
    exact ⟨u,r,.inl ⟨hk,by simp⟩⟩
   ·rw [List.getElem?_set_ne (Ne.symm hj)] at e2
    obtain ⟨u',r',q⟩:=hl j y v' e1 e2 e3
    refine ⟨u',r',?_⟩
    rcases q with ⟨k,e⟩ | ⟨k,c,e,z⟩
    ·refine .inl ⟨k,?_⟩
     have:y≠x:=λe=>hj (Lq hN e1 (e ▸ hi))
     simp [this,e]
    ·exact .inr ⟨k,c,e,z.sameBut hs (cne y c e)⟩
  ·obtain ⟨w',z⟩:=I.cell y c e
   exact ⟨w',z.sameBut hs (cne y c e)⟩
  ·obtain ⟨e,n,ne,nf,d⟩:=I.pin p hp
   exact ⟨(hs.2 p.1 ne).trans e,n,ne,nf,d⟩
 ·have hfn:X.fn x=true:=by
   rcases hf with z | z
   ·exact z
   ·rw [z] at hk; cases hk
  obtain ⟨c,hc⟩:=I.ok.has x (.inl hk)
  obtain ⟨w',z⟩:=I.cell x c hc
  refine wpAny_storeName_cell I.ok.kind hk hc z (λh' hc' hs=>?_)
  obtain ⟨oc,hoc,hocd⟩:=id z
  refine h { s with heap:=h' } ⟨I.ok,I.os,I.bare,⟨λb o e n hb hx=>?_,λb o e n hb hx=>?_,I.base.free,λb o e hx=>?_,I.base.tups,I.base.frzs,I.base.tbls⟩,⟨m,hn.sameBut hs (Ne.symm (cne x c hc)),λj y v' e1 e2 e3=>?_⟩,λy c' e=>?_,I.free,I.freeC,λp hp=>?_,tracked ⟨oc,hoc,I.freeC x c hc⟩ hs,by simpa using I.len⟩ ⟨c,hs,.inr hc⟩
  ·exact (hs.2 b (Nat.ne_of_lt (Nat.lt_of_lt_of_le (Heap.lt_size e) (I.ok.cab x c hfn hc)))).trans (I.base.keep b o e n hb hx)
  ·obtain ⟨sl,e1⟩:=I.base.slot b o e n hb hx
   exact ⟨sl,(hs.2 b (Nat.ne_of_lt (Nat.lt_of_lt_of_le (Heap.lt_size e) (I.ok.cab x c hfn hc)))).trans e1⟩
  ·obtain ⟨o',e1⟩:=I.base.there b o e hx
   exact ⟨o',(hs.2 b (Nat.ne_of_lt (Nat.lt_of_lt_of_le (Heap.lt_size e) (I.ok.cab x c hfn hc)))).trans e1⟩
  ·by_cases hj:j=i
   ·subst hj
    rw [hi] at e1; cases e1
    rw [List.getElem?_set_self hiσ] at e2
    cases e2
    exact ⟨u,r,.inr ⟨.inl hk,c,hc,hc'⟩⟩
   ·rw [List.getElem?_set_ne (Ne.symm hj)] at e2
    obtain ⟨u',r',q⟩:=hl j y v' e1 e2 e3
    refine ⟨u',r',?_⟩
    rcases q with q | ⟨k,c',e,z'⟩
    ·exact .inl q
    ·refine .inr ⟨k,c',e,z'.sameBut hs ?_⟩
     rintro rfl
     exact hj (Lq hN e1 (I.ok.inj _ _ _ e hc ▸ hi))
  ·by_cases hcc:c'=c
   ·subst hcc; exact ⟨_,hc'⟩
   ·obtain ⟨w2,z2⟩:=I.cell y c' e
    exact ⟨w2,z2.sameBut hs hcc⟩
  ·obtain ⟨e,n,ne,nf,d⟩:=I.pin p hp
   refine ⟨(hs.2 p.1 ?_).trans e,n,ne,nf,d⟩
   intro q
   rw [q,hoc] at e
   have q':oc=p.2:=Option.some.inj e
   exact d w' (by rw [<- q']; exact hocd)
theorem Hk {M:Model} {A:Around} {E:Value->Shared->Prop} {i:Nat} {x:Str} {v:V} {u:Value} {Q:Unit->Shared->Prop} (I:Inv X pins σ H s) (hN:X.N.Nodup) (hi:X.N[i]?=some x) (hx:Er X.env.scope x) (r:AN v u)
  (h:∀ s',Inv X pins (σ.set i (some v)) H s'->Q () s') (hf:X.fn x=true\/X.env.scope.names.lookup x=some .local:=by first | exact .inl rfl | exact .inr rfl | assumption):wpAny M A (storeName X.env x u) Q E s:=
 Nm I hN hi hx r (λs' I' _=>h s' I') hf
theorem Inv.call' {s':Shared} {ch:List Addr} (I:Inv X pins σ H s) (ho:s'.os=s.os) (u:Un (AZ X.stack) ch H H' s.heap s'.heap) (hok:Bg X.prog X.w H' s'.heap) (hg:AllBare s'.gens)
  (hch:∀ b∈ch,(b∈X.ex\/X.s₀.heap.objs.size<=b)/\b≠X.env.locals/\(∀ x c,X.env.cells.lookup x=some c->c≠b)/\∀ p∈X.pn++pins,p.1≠b):Inv X pins σ H' s':=by
 obtain ⟨h',g',d',t',o'⟩:=s'
 have e:o'=s.os:=ho
 subst e
 exact I.call (g':=g') (t':=t') (d':=d') u hok hg hch
end
abbrev XK:=Value->Option Addr->Hp->Prop
abbrev St:=List (Option V)
abbrev VK:=V->Hp->Prop
abbrev TE:=St->Hp->VK->Prop
abbrev TT:=St->Hp->(Bool->Hp->Prop)->Prop
abbrev TA:=St->Hp->(List V->Hp->Prop)->Prop
structure ER where
 nx:St->Hp->Prop
 rt:VK
 bk:St->Hp->Prop:=λ_ _=>False
 ct:St->Hp->Prop:=λ_ _=>False
abbrev TS:=ER->St->Hp->Prop
def EP (X:Cx) (pins:List (Addr×Obj)) (σ:St) (Q:VK) (u:Value) (s':Shared):Prop:=∃ v H',Inv X pins σ H' s'/\AN v u/\Q v H'
def TP (X:Cx) (pins:List (Addr×Obj)) (σ:St) (Q:Bool->Hp->Prop) (b:Bool) (s':Shared):Prop:=∃ H',Inv X pins σ H' s'/\Q b H'
def AP (X:Cx) (pins:List (Addr×Obj)) (σ:St) (Q:List V->Hp->Prop) (us:List Value) (s':Shared):Prop:=∃ vs H',Inv X pins σ H' s'/\Ar vs us/\Q vs H'
def SP (X:Cx) (pins:List (Addr×Obj)) (D:ER) (f:Flow) (s':Shared):Prop:=
 match f with
 | .next=>∃ σ' H',Inv X pins σ' H' s'/\D.nx σ' H'
 | .brk=>∃ σ' H',Inv X pins σ' H' s'/\D.bk σ' H'
 | .cont=>∃ σ' H',Inv X pins σ' H' s'/\D.ct σ' H'
 | .ret u=>∃ v σ' H',Inv X pins σ' H' s'/\AN v u/\D.rt v H'
def PE (X:Cx) (e:Expr) (t:TE):Prop:=
 ∀ (pins:List (Addr×Obj)) (s:Shared) (σ:St) (H:Hp) (Q:VK),Inv X pins σ H s->t σ H Q->wpAny (model X.prog X.w) X.A (eval e X.env) (EP X pins σ Q) X.xe s
def PT (X:Cx) (e:Expr) (t:TT):Prop:=
 ∀ (pins:List (Addr×Obj)) (s:Shared) (σ:St) (H:Hp) (Q:Bool->Hp->Prop),Inv X pins σ H s->t σ H Q->wpAny (model X.prog X.w) X.A (isTrue e X.env (eval e X.env)) (TP X pins σ Q) X.xe s
def PW (X:Cx) (e:Expr) (t:TT):Prop:=
 ∀ (whole:Sem Value) (pins:List (Addr×Obj)) (s:Shared) (σ:St) (H:Hp) (Q:Bool->Hp->Prop),Inv X pins σ H s->t σ H Q->wpAny (model X.prog X.w) X.A (isTrue e X.env whole) (TP X pins σ Q) X.xe s
theorem PW.pt {X:Cx} {e:Expr} {t:TT} (h:PW X e t):PT X e t:=h _
def PA (X:Cx) (es:List Expr) (t:TA):Prop:=
 ∀ (pos:Pos) (pins:List (Addr×Obj)) (s:Shared) (σ:St) (H:Hp) (Q:List V->Hp->Prop),Inv X pins σ H s->t σ H Q->wpAny (model X.prog X.w) X.A (spliced (backTo pos (starEach es X.env))) (AP X pins σ Q) X.xe s
def PS (X:Cx) (st:Stmt) (t:TS):Prop:=
 ∀ (pins:List (Addr×Obj)) (s:Shared) (σ:St) (H:Hp) (D:ER),Inv X pins σ H s->t D σ H->wpAny (model X.prog X.w) X.A (exec st X.env) (SP X pins D) X.xe s
def PSs (X:Cx) (st:List Stmt) (t:TS):Prop:=
 ∀ (pins:List (Addr×Obj)) (s:Shared) (σ:St) (H:Hp) (D:ER),Inv X pins σ H s->t D σ H->wpAny (model X.prog X.w) X.A (execs st X.env) (SP X pins D) X.xe s
theorem Al {α:Type} {t:Sem α} {Q Q':α->Shared->Prop} {M:Model} {A:Around} {E:Value->Shared->Prop} {s:Shared} (h:wpAny M A t Q E s) (hQ:∀ a s,Q a s->Q' a s):wpAny M A t Q' E s:=wpAny_mono h hQ λ_ _ x=>x
end L2
namespace L2
open PySem PySem.Spec PyProof.Rows
section
variable {X:Cx}
def RA (i:Nat):TE:=λσ H Q=>∃ v,σ[i]?=some (some v)/\Q v H
def tC (v:V):TE:=λ_ H Q=>Q v H
theorem Lf {i:Nat} {x:Str} {pos:Pos} (hN:X.N[i]?=some x) (hv:C1 X.env.scope x) (hd:(x==("__debug__" : Str))=false:=by decide) (hcd:(x==("__classdict__" : Str))=false:=by decide):PE X (.Name x pos) (RA i):=by
 intro pins s σ H Q I h
 obtain ⟨v,e,h⟩:=h
 obtain ⟨m,hn,hl⟩:=I.loc
 obtain ⟨u,r,l⟩:=hl i x v hN e hv
 have fin:EP X pins σ Q u s:=⟨v,H,I,r,h⟩
 rcases l with ⟨hk,hm⟩ | ⟨hk,c,hc,hcell⟩
 ·exact wpAny_Name (wpAny_loadName_local I.ok.kind hk hn hm fin) hd
 ·rcases hk with hk | hk
  ·exact wpAny_Name (wpAny_loadName_cell I.ok.kind hk hc hcell fin) hd
  ·exact wpAny_Name (wpAny_loadName_free I.ok.kind hk hc hcell fin hcd) hd
theorem U2 {i j pos}:PE X (.Constant (.int i) j pos) (tC (.int i)):=λ_ _ _ H _ I h=>wpAny_Constant_int ⟨.int i,H,I.tok _,⟨_,rfl⟩,h⟩
theorem U7 {b j pos}:PE X (.Constant (.bool b) j pos) (tC (.bl b)):=λ_ _ _ H _ I h=>Constant_bool ⟨.bl b,H,I,rfl,h⟩
theorem UY {j pos}:PE X (.Constant .none j pos) (tC .non):=λ_ _ _ H _ I h=>Constant_none ⟨.non,H,I,rfl,h⟩
theorem UU {x j pos}:PE X (.Constant (.str x) j pos) (tC (.str x)):=λ_ _ _ H _ I h=>Calls.Constant_str ⟨.str x,H,I.tok _,⟨_,rfl⟩,h⟩
def Gl (X:Cx) (x:Str):Prop:=X.env.kindOf x=some .globalImplicit
theorem DQ {E:Value->Shared->Prop} {pins:List (Addr×Obj)} {s:Shared} {σ:St} {H:Hp} {x:Str} {u:Value} {pos:Pos} {Q:Value->Shared->Prop} (I:Inv X pins σ H s) (hg:Gl X x) (hm:X.mg x=some u) (h:Q u s)
  (hd:(x==("__debug__" : Str))=false:=by decide):wpAny (model X.prog X.w) X.A (eval (.Name x pos) X.env) Q E s:=
 Calls.Name_function_global I.ok.kind hg (Calls.loadGlobal_global (by rw [I.ok.glob]; exact I.mod.glob.keeps I.bk) hm h) hd
theorem EE {E:Value->Shared->Prop} {pins:List (Addr×Obj)} {s:Shared} {σ:St} {H:Hp} {x:Str} {u:Value} {pos:Pos} {Q:Value->Shared->Prop} (I:Inv X pins σ H s) (hg:Gl X x) (hm:X.mg x=none) (hv:bootBuiltins x=some u) (h:Q u s)
  (hn:x ≠ "__name__" := by decide) (hd:(x==("__debug__" : Str))=false:=by decide):wpAny (model X.prog X.w) X.A (eval (.Name x pos) X.env) Q E s:=by
 obtain ⟨mb,h1,h2⟩:=I.mod.blt
 exact Calls.Name_function_global I.ok.kind hg (Calls.loadGlobal_builtin (by rw [I.ok.glob]; exact I.mod.glob.keeps I.bk) hm (by rw [I.ok.blt]; exact h1.keeps I.bk) ((h2 x hn).trans hv) h) hd
theorem HJ {x:Str} {v:V} {u:Value} {pos:Pos} (hg:Gl X x) (hm:X.mg x=some u) (r:AN v u) (hd:(x==("__debug__" : Str))=false:=by decide):PE X (.Name x pos) (tC v):=
 λ_ _ _ H _ I h=>DQ I hg hm ⟨v,H,I,r,h⟩ hd
theorem Lh {x:Str} {v:V} {u:Value} {pos:Pos} (hg:Gl X x) (hm:X.mg x=none) (hv:bootBuiltins x=some u) (r:AN v u) (hn:x ≠ "__name__" := by decide) (hd:(x==("__debug__" : Str))=false:=by decide):PE X (.Name x pos) (tC v):=
 λ_ _ _ H _ I h=>EE I hg hm hv ⟨v,H,I,r,h⟩ hn hd
variable {a b:Expr} {ta tb:TE} {pos:Pos}
variable {tA tB':TT} {rest:List Expr}
def RK (t:TT):TT:=λσ H Q=>t σ H λc H1=>Q (!c) H1
theorem Oo (ha:PT X a tA):PW X (.BoolOp .Or [a] pos) tA:=by
 intro wh pins s σ H Q I h
 refine isTrue_or (Al (ha pins s σ H Q I h) λc s1 e=>?_)
 cases c with
 | false=>exact isTrue_or_nil e
 | true=>exact e
theorem Oq (ha:PT X a tA):PT X (.UnaryOp .Not a pos) (RK tA):=by
 intro pins s σ H Q I h
 exact isTrue_not (ha pins s σ H (λc H1=>Q (!c) H1) I h)
def RJ (ta:TE):TE:=λσ H Q=>ta σ H λx H1=>∃ c,x=.bl c/\Q (.bl (!c)) H1
theorem UW {op} {t:TE} (h:PE X a t):PE X (.BoolOp op [a] pos) t:=λpins s σ H Q I hw=>BoolOp_one (h pins s σ H Q I hw)
theorem UX (ha:PE X a ta):PE X (.UnaryOp .Not a pos) (RJ ta):=by
 intro pins s σ H Q I h
 refine UnaryOp_ (Al (ha pins s σ H _ I h) λv s1 ⟨x,H1,I1,r1,q1⟩=>?_)
 obtain ⟨c,rfl,q1⟩:=q1
 cases r1
 exact not_of (wpAny_truthy_bool ⟨.bl (!c),H1,I1,rfl,q1⟩)
def tIf (t:TT) (ta tb:TE):TE:=λσ H Q=>t σ H λc H1=>if c=true then ta σ H1 Q else tb σ H1 Q
theorem Oy {c:Expr} (hc:PT X c tA) (ha:PE X a ta) (hb:PE X b tb):PE X (.IfExp c a b pos) (tIf tA ta tb):=by
 intro pins s σ H Q I h
 refine wpAny_IfExp (Al (hc pins s σ H _ I h) λd s1 ⟨H1,I1,q1⟩=>?_)
 cases d with
 | true=>exact ha pins s1 σ H1 Q I1 q1
 | false=>exact hb pins s1 σ H1 Q I1 q1
end
end L2
namespace L2
open PySem PySem.Spec PyProof.Rows
def A0 (K:PySem.W.Frag) (H:Hp) (a:Addr) (xs:List V):Prop:=
 Rd H a (.lst xs) \/
  ∃ (o:Obj) (its:Array Value) (n:Nat),K.lookup a=some o/\o.cls=.type "list" /\ o.dict=none/\o.data=.seq its n/\its.size<=sizeLine/\Ar xs its.toList
def A1 (K:PySem.W.Frag) (H:Hp) (a:Addr) (xs:List V):Prop:=
 Rd H a (.tup xs) \/
  ∃ (o:Obj) (its:Array Value) (n:Nat),K.lookup a=some o/\o.cls=.type "tuple" /\ o.dict=none/\o.data=.seq its n/\its.size<=sizeLine/\Ar xs its.toList
def Z5:Value->Option V
 | .none=>some .non
 | .bool b=>some (.bl b)
 | .int i _=>some (.int i)
 | .str x _=>some (.str x)
 | .bytes b _=>some (.byt b)
 | .float b _=>some (.flt b)
 | .ref a=>some (.ref a)
 | .type n=>some (.ty n)
 | _=>none
theorem AN.abs {x:V} {u:Value} (r:AN x u):Z5 u=some x:=by
 cases x with
 | non=>cases r; rfl
 | bl _=>cases r; rfl
 | int _=>obtain ⟨t,rfl⟩:=r; rfl
 | str _=>obtain ⟨t,rfl⟩:=r; rfl
 | byt _=>obtain ⟨t,rfl⟩:=r; rfl
 | flt _=>obtain ⟨t,rfl⟩:=r; rfl
 | ref _=>cases r; rfl
 | ty _=>cases r; rfl
theorem AN.inj {x y:V} {u:Value} (r:AN x u) (q:AN y u):x=y:=Option.some.inj (r.abs.symm.trans q.abs)
theorem Ar.inj:∀ {xs ys:List V} {us:List Value},Ar xs us->Ar ys us->xs=ys
 | _,_,_,.nil,.nil=>rfl
 | _,_,_,.cons r t,.cons r' t'=>by rw [r.inj r',Ar.inj t t']
section
variable {X:Cx} {pins:List (Addr×Obj)} {σ:St} {H:Hp} {s:Shared} {a:Addr} {xs ys:List V}
theorem A0.of {K:PySem.W.Frag} (h:H a=some (.lst xs)):A0 K H a xs:=.inl (.inl h)
theorem A1.of {K:PySem.W.Frag} (h:H a=some (.tup xs)):A1 K H a xs:=.inl (.inl h)
theorem Inv.list (I:Inv X pins σ H s) (h:A0 X.K H a xs):∃ its:List Value,Ar xs its/\PlainL s.heap a its.toArray/\xs.length<=sizeLine:=by
 rcases h with h | ⟨o,its,n,hk,hc,hd,hs,hz,r⟩
 ·obtain ⟨z,its,n,r,e⟩:=h.ok I.hok
  exact ⟨its,r,⟨_,n,e,rfl,rfl,rfl⟩,z⟩
 ·refine ⟨its.toList,r,⟨o,n,I.kIn a o hk,hc,hd,by simpa using hs⟩,?_⟩
  have e:=r.length
  simp only [Array.length_toList] at e
  omega
theorem Inv.tuple (I:Inv X pins σ H s) (h:A1 X.K H a xs):∃ its:List Value,Ar xs its/\IsTup s.heap a its.toArray/\xs.length<=sizeLine:=by
 rcases h with h | ⟨o,its,n,hk,hc,_,hs,hz,r⟩
 ·obtain ⟨z,its,r,p⟩:=h.ok I.hok
  exact ⟨its,r,p.t,z⟩
 ·refine ⟨its.toList,r,⟨o,I.kIn a o hk,hc,n,by simpa using hs⟩,?_⟩
  have e:=r.length
  simp only [Array.length_toList] at e
  omega
theorem Inv.tupN (I:Inv X pins σ H s) (h:A1 X.K H a xs):∃ its:List Value,Ar xs its/\DF s.heap a its.toArray/\xs.length<=sizeLine:=by
 rcases h with h | ⟨o,its,n,hk,hc,hd,hs,hz,r⟩
 ·obtain ⟨z,its,r,p⟩:=h.ok I.hok
  exact ⟨its,r,p,z⟩
 ·refine ⟨its.toList,r,⟨o,I.kIn a o hk,hd,hc,n,by simpa using hs⟩,?_⟩
  have e:=r.length
  simp only [Array.length_toList] at e
  omega
theorem Inv.list_inj (I:Inv X pins σ H s) (h:A0 X.K H a xs) (h':A0 X.K H a ys):xs=ys:=by
 obtain ⟨its,r,⟨o,n,e,_,_,d⟩,_⟩:=I.list h
 obtain ⟨its',r',⟨o',n',e',_,_,d'⟩,_⟩:=I.list h'
 rw [e] at e'; cases e'
 rw [d] at d'
 injection d' with d1 _
 have:its=its':=by simpa using congrArg Array.toList d1
 subst this
 exact r.inj r'
theorem Inv.tuple_inj (I:Inv X pins σ H s) (h:A1 X.K H a xs) (h':A1 X.K H a ys):xs=ys:=by
 obtain ⟨its,r,⟨o,e,_,n,d⟩,_⟩:=I.tuple h
 obtain ⟨its',r',⟨o',e',_,n',d'⟩,_⟩:=I.tuple h'
 rw [e] at e'; cases e'
 rw [d] at d'
 injection d' with d1 _
 have:its=its':=by simpa using congrArg Array.toList d1
 subst this
 exact r.inj r'
end
abbrev Cx.wish (X:Cx) (E:Value->Shared->Prop):Cx:={ X with xe:=E }
abbrev Cx.nox (X:Cx):Cx:=X.wish λ_ _=>False
theorem Cx.Ok.wish {X:Cx} (ok:X.Ok) (E:Value->Shared->Prop):(X.wish E).Ok:=
 ⟨ok.mod,ok.kind,ok.glob,ok.blt,ok.above,ok.inj,ok.has,ok.cab,ok.hd,ok.frames,ok.stk,ok.exf,ok.bs,ok.bsz,ok.noex,ok.exfs,ok.funs,ok.frf⟩
theorem Cx.Ok.unwish {X:Cx} {E:Value->Shared->Prop} (ok:(X.wish E).Ok):X.Ok:=
 ⟨ok.mod,ok.kind,ok.glob,ok.blt,ok.above,ok.inj,ok.has,ok.cab,ok.hd,ok.frames,ok.stk,ok.exf,ok.bs,ok.bsz,ok.noex,ok.exfs,ok.funs,ok.frf⟩
section
variable {X:Cx} {pins:List (Addr×Obj)} {σ:St} {H:Hp} {s:Shared} {E:Value->Shared->Prop}
theorem Inv.wish (I:Inv X pins σ H s) (E:Value->Shared->Prop):Inv (X.wish E) pins σ H s:=⟨I.ok.wish E,I.os,I.bare,I.base,I.loc,I.cell,I.free,I.freeC,I.pin,I.hok,I.len⟩
theorem Inv.unwish (I:Inv (X.wish E) pins σ H s):Inv X pins σ H s:=⟨I.ok.unwish,I.os,I.bare,I.base,I.loc,I.cell,I.free,I.freeC,I.pin,I.hok,I.len⟩
theorem SP.unwish {D:ER} {f:Flow} {s':Shared} (h:SP (X.wish E) pins D f s'):SP X pins D f s':=by
 cases f with
 | next=>obtain ⟨σ',H',I,q⟩:=h; exact ⟨σ',H',I.unwish,q⟩
 | brk=>obtain ⟨σ',H',I,q⟩:=h; exact ⟨σ',H',I.unwish,q⟩
 | cont=>obtain ⟨σ',H',I,q⟩:=h; exact ⟨σ',H',I.unwish,q⟩
 | ret u=>obtain ⟨v,σ',H',I,r,q⟩:=h; exact ⟨v,σ',H',I.unwish,r,q⟩
theorem PSs.nox {st:List Stmt} {t:TS} (h:PSs X.nox st t):PSs X st t:=λpins s σ H D I hw=>
 wpAny_mono (h pins s σ H D (I.wish _) hw) (λ_ _ q=>q.unwish) λ_ _ z=>False.elim z
end
section
variable {X:Cx} {st:Stmt} {rest:List Stmt} {t u:TS} {e:Expr} {te:TE} {pos:Pos}
def RM:TS:=λD σ H=>D.nx σ H
def RF (t u:TS):TS:=λD σ H=>t { D with nx:=u D } σ H
theorem K9:PSs X [] RM:=λ_ _ σ H _ I h=>wpAny_execs_nil ⟨σ,H,I,h⟩
theorem La (h1:PS X st t) (h2:PSs X rest u):PSs X (st::rest) (RF t u):=by
 intro pins s σ H D I h
 refine wpAny_execs_cons (Al (h1 pins s σ H { D with nx:=u D } I h) λf s1 q=>?_)
 cases f with
 | next=>
  obtain ⟨σ',H',I',q⟩:=q
  exact h2 pins s1 σ' H' D I' q
 | ret v=>exact q
 | brk=>exact q
 | cont=>exact q
theorem Inv.quiet {pins:List (Addr×Obj)} {σ:St} {H:Hp} {s:Shared} (I:Inv X pins σ H s):interactive X.env=false:=by simp [interactive,I.ok.kind]
def RU (te:TE):TS:=λD σ H=>te σ H λ_ H1=>D.nx σ H1
theorem Gx (he:PE X e te) (hs:swapsWith e none pos.line X.env=pure false:=by rfl):PS X (.Expr e pos) (RU te):=by
 intro pins s σ H D I h
 exact wpAny_Expr_any (Al (he pins s σ H _ I h) λv s1 ⟨x,H1,I1,r1,q1⟩=>⟨σ,H1,I1,q1⟩) I.quiet hs
def RG (te:TE):TS:=λD σ H=>te σ H D.rt
theorem Ux (he:PE X e te):PS X (.Return (some e) pos) (RG te):=by
 intro pins s σ H D I h
 exact wpAny_Return_some (Al (he pins s σ H _ I h) λv s1 ⟨x,H1,I1,r1,q1⟩=>⟨x,σ,H1,I1,r1,q1⟩)
def RP (c:TT) (t u:TS):TS:=λD σ H=>c σ H λb H1=>if b=true then t D σ H1 else u D σ H1
theorem Lb {c:Expr} {a b:List Stmt} {tc:TT} (hc:PT X c tc) (ha:PSs X a t) (hb:PSs X b u):PS X (.If c a b pos) (RP tc t u):=by
 intro pins s σ H D I h
 refine wpAny_If (Al (hc pins s σ H _ I h) λd s1 ⟨H1,I1,q1⟩=>?_)
 cases d with
 | true=>exact ha pins s1 σ H1 D I1 q1
 | false=>exact hb pins s1 σ H1 D I1 q1
end
abbrev TG:=V->St->Hp->(St->Hp->Prop)->Prop
abbrev Fr:=List V->St->Hp->(St->Hp->Prop)->Prop
def PG (X:Cx) (target:Expr) (t:TG):Prop:=
 ∀ (pins:List (Addr×Obj)) (s:Shared) (σ:St) (H:Hp) (v:V) (u:Value) (Q:St->Hp->Prop),Inv X pins σ H s->AN v u->t v σ H Q->
  wpAny (model X.prog X.w) X.A (assign target X.env u) (λ_ s'=>∃ σ' H',Inv X pins σ' H' s'/\Q σ' H') X.xe s
def GW (X:Cx) (ts:List Expr) (t:Fr):Prop:=
 ∀ (pins:List (Addr×Obj)) (s:Shared) (σ:St) (H:Hp) (vs:List V) (us:List Value) (Q:St->Hp->Prop),Inv X pins σ H s->Ar vs us->t vs σ H Q->
  wpAny (model X.prog X.w) X.A (assignInOrder ((assignEach ts X.env).map (·.2)) us) (λ_ s'=>∃ σ' H',Inv X pins σ' H' s'/\Q σ' H') X.xe s
abbrev Mu:=V->V->V->Hp->(Hp->Prop)->Prop
def QD (X:Cx) (t:Mu):Prop:=
 ∀ (pins:List (Addr×Obj)) (s:Shared) (σ:St) (H:Hp) (o i v:V) (ov iv u:Value) (Q:Hp->Prop),Inv X pins σ H s->AN o ov->AN i iv->AN v u->t o i v H Q->
  wpAny (model X.prog X.w) X.A (setItem ov iv u) (λ_ s'=>∃ H',Inv X pins σ H' s'/\Q H') X.xe s
section
variable {X:Cx} {pos:Pos}
def Po (i:Nat):TG:=λv σ H Q=>Q (σ.set i (some v)) H
theorem US {i:Nat} {x:Str} (hN:X.N.Nodup) (hi:X.N[i]?=some x) (hx:Er X.env.scope x) (hf:X.fn x=true\/X.env.scope.names.lookup x=some .local:=by first | exact .inl rfl | exact .inr rfl | assumption):PG X (.Name x pos) (Po i):=by
 intro pins s σ H v u Q I r h
 exact wpAny_assign_Name (Hk I hN hi hx r (λs' I'=>⟨_,H,I',h⟩) hf)
def Yd:Fr:=λvs σ H Q=>vs=[]/\Q σ H
def Ye (t:TG) (u:Fr):Fr:=λvs σ H Q=>∃ v r,vs=v::r/\t v σ H λσ' H'=>u r σ' H' Q
theorem UO:GW X [] Yd:=by
 intro pins s σ H vs us Q I r h
 obtain ⟨e,h⟩:=h
 subst e
 cases r
 exact assignInOrder_nil ⟨σ,H,I,h⟩
theorem UP {e:Expr} {es:List Expr} {t:TG} {u:Fr} (h1:PG X e t) (h2:GW X es u)
  (hs:(assignEach (e::es) X.env).map (·.2)=assign e X.env::(assignEach es X.env).map (·.2):=by rfl):GW X (e::es) (Ye t u):=by
 intro pins s σ H vs us Q I r h
 obtain ⟨v,vr,e1,h⟩:=h
 subst e1
 cases r with
 | cons r rr=>
  rw [hs]
  refine assignInOrder_cons (Al (h1 pins s σ H _ _ _ I r h) λ_ s1 ⟨σ1,H1,I1,q1⟩=>?_)
  exact h2 pins s1 σ1 H1 _ _ Q I1 rr q1
def Yb (K:PySem.W.Frag) (n:Nat) (t:Fr):TG:=λv σ H Q=>∃ a xs,v=.ref a/\A1 K H a xs/\xs.length=n/\t xs σ H Q
theorem UQ {es:List Expr} {k:Nat} {t:Fr} {n:Nat} (hc:X.calm=true) (h:GW X es t)
  (hn:(assignEach es X.env).length=n:=by rfl) (hst:(assignEach es X.env).findIdx? (·.1)=none:=by rfl):PG X (.Tuple es k pos) (Yb X.K n t):=by
 intro pins s σ H v u Q I r hw
 obtain ⟨a,xs,e1,hq,hl,hw⟩:=hw
 subst e1
 cases r
 obtain ⟨its,rv,ht,hz⟩:=I.tuple hq
 refine assign_Tuple_tuple (I.ok.hd hc) ht (by simp [hn,<- hl,rv.length]) hst λh' hx=>?_
 have I1:Inv X pins σ H { s with heap:=h' }:=I.kept (t':=s.toks) λb o e=>hx b o (Nat.ne_of_lt (Heap.lt_size e)) e
 exact h pins _ σ H xs _ Q I1 (by simpa using rv) hw
def Yc (to ti:TE) (t:Mu):TG:=λv σ H Q=>to σ H λo H1=>ti σ H1 λi H2=>t o i v H2 λH3=>Q σ H3
theorem UR {o i:Expr} {to ti:TE} {t:Mu} (ho:PE X o to) (hi:PE X i ti) (hs:QD X t)
  (ha:∀ v,assign (.Subscript o i pos) X.env v=(do
   let ov <- holding [v] (eval o X.env)
   let iv <- holding [v,ov] (eval i X.env)
   standAt pos
   holding [v,ov,iv] (setItem ov iv v)
   release [v,ov,iv] []):=by intro _; rfl):PG X (.Subscript o i pos) (Yc to ti t):=by
 intro pins s σ H v u Q I r h
 rw [ha]
 refine wpAny_bind (wpAny_holding (Al (ho pins s σ H _ I h) λov s1 ⟨x,H1,I1,r1,q1⟩=>?_))
 refine wpAny_bind (wpAny_holding (Al (hi pins s1 σ H1 _ I1 q1) λiv s2 ⟨y,H2,I2,r2,q2⟩=>?_))
 refine wpAny_bind (wpAny_standAt (wpAny_bind (wpAny_holding (Al (hs pins s2 σ H2 x y v ov iv u _ I2 r1 r2 r q2) λ_ s3 ⟨H3,I3,q3⟩=>?_))))
 exact wpAny_release ⟨σ,H3,I3,q3⟩
def Nk (te:TE) (g:TG):TS:=λD σ H=>te σ H λx H1=>g x σ H1 D.nx
theorem Os {tg e:Expr} {te:TE} {g:TG} (he:PE X e te) (hg:PG X tg g) (hs:swapsWithSole [tg] e pos.line X.env=pure false:=by rfl) (hw:swappedStores [tg] e X.env=pure none:=by rfl)
  (h1:(assignEach [tg] X.env).map (·.2)=[assign tg X.env]:=by rfl):PS X (.Assign [tg] e pos) (Nk te g):=by
 intro pins s σ H D I h
 refine wpAny_Assign_stores (Al (he pins s σ H _ I h) λv s1 ⟨x,H1,I1,r1,q1⟩=>?_) hs hw
 rw [h1]
 exact Al (hg pins s1 σ H1 x v _ I1 r1 q1) λ_ s2 q=>q
theorem Uw {i:Nat} {x:Str} {e:Expr} {te:TE} {pos':Pos} (hN:X.N.Nodup) (hi:X.N[i]?=some x) (hx:Er X.env.scope x) (he:PE X e te) (hs:swapsWith e (some (.Name x pos')) pos.line X.env=pure false:=by rfl) (hf:X.fn x=true\/X.env.scope.names.lookup x=some .local:=by first | exact .inl rfl | exact .inr rfl | assumption) :
  PS X (.Assign [.Name x pos'] e pos) (Nk te (Po i)):=by
 intro pins s σ H D I h
 refine wpAny_Assign_Name (Al (he pins s σ H _ I h) λv s1 ⟨y,H1,I1,r1,q1⟩=>?_) hs
 exact Hk I1 hN hi hx r1 (λs2 I2=>⟨_,H1,I2,q1⟩) hf
end
section
variable {X:Cx} {pos:Pos}
end
structure It where
 go:Nat->Hp->Prop
 yld:Nat->Hp->V->Hp->Prop
 stop:Nat->Hp->Prop
def BS (X:Cx) (pins:List (Addr×Obj)) (H:Hp) (b:Addr):Prop:=
 H b=none/\b≠X.env.locals/\b∉X.fs/\(b∈X.ex\/X.s₀.heap.objs.size<=b)/\(∀ x c,X.env.cells.lookup x=some c->c≠b)/\∀ p∈X.pn++pins,p.1≠b
theorem Inv.fpOk {X:Cx} {pins:List (Addr×Obj)} {σ:St} {H H':Hp} {s:Shared} {b:Addr} (I:Inv X pins σ H s) (hb:s.heap.objs.size<=b) (hn:H' b=none):BS X pins H' b:=by
 refine ⟨hn,Nat.ne_of_gt (Nat.lt_of_lt_of_le I.lt hb),I.nofs hb,.inr (Nat.le_trans I.sz hb),λx c e z=>?_,λp hp z=>?_⟩
 ·obtain ⟨v,q⟩:=I.cell x c e
  exact absurd (Nat.lt_of_lt_of_le q.lt (by rw [z]; exact hb)) (Nat.lt_irrefl _)
 ·exact absurd (Nat.lt_of_lt_of_le (Heap.lt_size (I.pin p hp).1) (by rw [z]; exact hb)) (Nat.lt_irrefl _)
structure EJ (P:Program) (w:World) (K:PySem.W.Frag) (tg:Expr) (J:It) (fp:List Addr) (it:Addr) (tn:Nat->Heap->Prop):Prop where
 mem:it∈fp
 obj:∀ i h,tn i h->∀ b∈fp,∃ o,h.get? b=some o/\∀ v,o.data≠.cell v
 keep:∀ i h h',tn i h->(∀ b∈fp,∀ o,h.get? b=some o->h'.get? b=some o)->tn i h'
 item:∀ (X:Cx),X.prog=P->X.w=w->X.K=K->X.calm=true->∀ (i:Nat) (pins:List (Addr×Obj)) (s:Shared) (σ:St) (H:Hp) (E:Value->Shared->Prop),Inv X pins σ H s->(∀ b∈fp,BS X pins H b)->tn i s.heap->J.go i H->
  wpAny (model P w) X.A (pyNext (.ref it)) (λr s1=>∃ u,r=some u /\
   wpAny (model P w) X.A (letOwnedTupleGo tg (.ref it) u) (λ_ s2=>∃ x H',Inv X pins σ H' s2/\AN x u/\J.yld i H x H'/\tn (i+1) s2.heap/\∀ b∈fp,H' b=none) E s1) E s
 done:∀ (X:Cx),X.prog=P->X.w=w->X.K=K->X.calm=true->∀ (i:Nat) (pins:List (Addr×Obj)) (s:Shared) (σ:St) (H:Hp) (E:Value->Shared->Prop),Inv X pins σ H s->(∀ b∈fp,BS X pins H b)->tn i s.heap->J.stop i H->
  wpAny (model P w) X.A (pyNext (.ref it)) (λr s1=>r=none/\Inv X pins σ H s1) E s
 self:∀ (A:Around) (i:Nat) (s:Shared) (Q:Value->Shared->Prop) (E:Value->Shared->Prop),tn i s.heap->Q (.ref it) s->wpAny (model P w) A (pyIter (.ref it)) Q E s
abbrev TI:=St->Hp->(It->Hp->Prop)->Prop
def Mx (X:Cx) (pins:List (Addr×Obj)) (σ:St) (tg:Expr) (R:It->Hp->Prop) (itv:Value) (s2:Shared):Prop:=
 ∃ (it:Addr) (fp:List Addr) (tn:Nat->Heap->Prop) (J:It) (H':Hp),itv=.ref it/\Inv X pins σ H' s2/\EJ X.prog X.w X.K tg J fp it tn/\tn 0 s2.heap/\(∀ b∈fp,BS X pins H' b)/\R J H'
def PI (X:Cx) (tg iter:Expr) (wi:TI):Prop:=
 ∀ (pins:List (Addr×Obj)) (s:Shared) (σ:St) (H:Hp) (R:It->Hp->Prop),Inv X pins σ H s->wi σ H R->
  wpAny (model X.prog X.w) X.A (eval iter X.env) (λv s1=>wpAny (model X.prog X.w) X.A (pyIter v) (Mx X pins σ tg R) X.xe s1) X.xe s
theorem LQ {M:Model} {A:Around} {E:Value->Shared->Prop} {s:Shared} {tg:Expr} {it:Addr} {u:Value} {o:Obj} {n:String} {vs:Array Value} {Q:Unit->Shared->Prop} (ho:s.heap.get? it=some o) (hc:o.cls=.type n) (hd:o.data=.fields vs)
    (hn:["enumerate","zip","dict_itemiterator","dict_reverseitemiterator","odict_iterator","itertools.zip_longest","itertools.pairwise"].contains n=false) (hQ:Q () s):wpAny M A (letOwnedTupleGo tg (.ref it) u) Q E s:=by
  unfold letOwnedTupleGo
  cases tg <;> first
    | exact wpAny_pure hQ
    | (cases u <;> first
        | exact wpAny_pure hQ
        | (refine wpAny_bind (wpAny_load ho ?_)
           rw [hc,hd]
           show wpAny M A (if (["enumerate","zip","dict_itemiterator","dict_reverseitemiterator","odict_iterator","itertools.zip_longest","itertools.pairwise"].contains n&&vs[0]?==some (rawInt _))=true then _ else _) Q E s
           rw [if_neg (by intro h; rw [hn,Bool.false_and] at h; cases h)]
           exact wpAny_pure hQ))
def ME (K:PySem.W.Frag) (a:Addr):It:=
 ⟨λi H=>∃ xs x,A0 K H a xs/\xs[i]?=some x,λi H x H'=>H'=H/\∀ xs,A0 K H a xs->xs[i]?=some x,λi H=>∃ xs,A0 K H a xs/\xs.length<=i⟩
def MD (K:PySem.W.Frag) (a:Addr):It:=
 ⟨λi H=>∃ xs x,A1 K H a xs/\xs[i]?=some x,λi H x H'=>H'=H/\∀ xs,A1 K H a xs->xs[i]?=some x,λi H=>∃ xs,A1 K H a xs/\xs.length<=i⟩
def GZ (lo:Int) (n:Nat):It:=⟨λi _=>i<n,λi H x H'=>H'=H/\x=.int (lo+i),λi _=>n<=i⟩
theorem Rq {P:Program} {w:World} {K:PySem.W.Frag} {tg:Expr} (a it:Addr):EJ P w K tg (ME K a) [it] it (λi h=>h.IsListIter it a i) where
 mem:=by simp
 obj:=λi h st b hb=>by
  have e:b=it:=by simpa using hb
  subst e
  obtain ⟨o,e,c,d⟩:=st
  exact ⟨o,e,λv z=>by rw [d] at z; cases z⟩
 keep:=λi h h' st k=>st.at λo e=>k it (by simp) o e
 item:=by
  intro X hP hw hK hc i pins s σ H E I hf st hg
  subst hP hw hK
  obtain ⟨xs,x,hq,hx⟩:=hg
  obtain ⟨its,rv,p,hz⟩:=I.list hq
  obtain ⟨u,hu,ru⟩:=rv.get hx
  obtain ⟨f0,f1,f2,f3,f4,f5⟩:=hf it (by simp)
  refine wpAny_pyNext_list_item st p.isList (x:=u) (by simpa using hu) λh' st' sb=>?_
  have I1:Inv X pins σ H { s with heap:=h' }:=I.turned (t':=s.toks) (λb o hb e=>(sb.2 b hb).trans e) f0 f1 f3 f4 f5
  obtain ⟨o,e,c,d⟩:=id st'
  exact ⟨u,rfl,LQ (s:={ s with heap:=h' }) e c d wE ⟨x,H,I1,ru,⟨rfl,λys hy=>by rw [I.list_inj hy hq]; exact hx⟩,st',λb hb=>(hf b hb).1⟩⟩
 done:=by
  intro X hP hw hK hc i pins s σ H E I hf st hg
  subst hP hw hK
  obtain ⟨xs,hq,hx⟩:=hg
  obtain ⟨its,rv,p,hz⟩:=I.list hq
  obtain ⟨f0,f1,f2,f3,f4,f5⟩:=hf it (by simp)
  have hl:=rv.length
  exact wpAny_pyNext_list_end (I.ok.hd hc) st p.isList (by simp; omega) λh' eb=>⟨rfl,I.turned (t':=s.toks) (λb o hb e=>eb b o hb e) f0 f1 f3 f4 f5⟩
 self:=λ_ _ _ _ _ st h=>wpAny_pyIter_listiter st h
theorem Ro {P:Program} {w:World} {K:PySem.W.Frag} {tg:Expr} (a it:Addr):EJ P w K tg (MD K a) [it] it (λi h=>h.IsTupleIter it a i) where
 mem:=by simp
 obj:=λi h st b hb=>by
  have e:b=it:=by simpa using hb
  subst e
  obtain ⟨o,e,c,d⟩:=st
  exact ⟨o,e,λv z=>by rw [d] at z; cases z⟩
 keep:=λi h h' st k=>st.at λo e=>k it (by simp) o e
 item:=by
  intro X hP hw hK hc i pins s σ H E I hf st hg
  subst hP hw hK
  obtain ⟨xs,x,hq,hx⟩:=hg
  obtain ⟨its,rv,p,hz⟩:=I.tuple hq
  obtain ⟨u,hu,ru⟩:=rv.get hx
  obtain ⟨f0,f1,f2,f3,f4,f5⟩:=hf it (by simp)
  refine wpAny_pyNext_tuple_item st (show s.heap.IsTuple a its.toArray from p) (x:=u) (by simpa using hu) λh' st' sb=>?_
  have I1:Inv X pins σ H { s with heap:=h' }:=I.turned (t':=s.toks) (λb o hb e=>(sb.2 b hb).trans e) f0 f1 f3 f4 f5
  obtain ⟨o,e,c,d⟩:=id st'
  exact ⟨u,rfl,LQ (s:={ s with heap:=h' }) e c d wE ⟨x,H,I1,ru,⟨rfl,λys hy=>by rw [I.tuple_inj hy hq]; exact hx⟩,st',λb hb=>(hf b hb).1⟩⟩
 done:=by
  intro X hP hw hK hc i pins s σ H E I hf st hg
  subst hP hw hK
  obtain ⟨xs,hq,hx⟩:=hg
  obtain ⟨its,rv,p,hz⟩:=I.tuple hq
  obtain ⟨f0,f1,f2,f3,f4,f5⟩:=hf it (by simp)
  have hl:=rv.length
  exact wpAny_pyNext_tuple_end (I.ok.hd hc) st (show s.heap.IsTuple a its.toArray from p) (by simp; omega) λh' eb=>⟨rfl,I.turned (t':=s.toks) (λb o hb e=>eb b o hb e) f0 f1 f3 f4 f5⟩
 self:=λ_ _ _ _ _ st h=>wpAny_pyIter_tupleiter st h
theorem Rp {P:Program} {w:World} {K:PySem.W.Frag} {tg:Expr} (it:Addr) (lo:Int) (n:Nat):EJ P w K tg (GZ lo n) [it] it (λi h=>IsRangeIter h it (lo+(i:Nat)*1) ((n:Int)-(i:Nat)) 1) where
 mem:=by simp
 obj:=λi h st b hb=>by
  have e:b=it:=by simpa using hb
  subst e
  exact ⟨_,st,λv z=>by
   have z':Data.fields _=Data.cell v:=z
   cases z'⟩
 keep:=λi h h' st k=>k it (by simp) _ st
 item:=by
  intro X hP hw hK hc i pins s σ H E I hf st hg
  subst hP hw hK
  obtain ⟨f0,f1,f2,f3,f4,f5⟩:=hf it (by simp)
  have W:=Walks.range (prog:=X.prog) (w:=X.w) (I.ok.hd hc) it lo 1 n
  refine W.item i s _ _ hg st λv h' tk hv st' kk=>?_
  obtain ⟨t,rfl⟩:=hv
  have I1:Inv X pins σ H { s with heap:=h',toks:=tk }:=I.turned (λb o hb e=>kk b o (by simpa using hb) e) f0 f1 f3 f4 f5
  refine ⟨_,rfl,LQ (s:={ s with heap:=h',toks:=tk }) (n := "range_iterator") st' rfl rfl wE ⟨.int (lo+i),H,I1,⟨t,?_⟩,⟨rfl,rfl⟩,st',λb hb=>(hf b hb).1⟩⟩
  rw [Int.mul_one]
 done:=by
  intro X hP hw hK hc i pins s σ H E I hf st hg
  subst hP hw hK
  obtain ⟨f0,f1,f2,f3,f4,f5⟩:=hf it (by simp)
  exact wpAny_pyNext_range_end (I.ok.hd hc) st (by have:n<=i:=hg; omega) λh' eb=>⟨rfl,I.turned (t':=s.toks) (λb o hb e=>eb b o hb e) f0 f1 f3 f4 f5⟩
 self:=λ_ _ _ _ _ st h=>wpAny_pyIter_rangeiter st h
end L2
namespace L2
open PySem PySem.Spec PyProof.Rows
section
variable {X:Cx} {tg:Expr}
def XV (K:PySem.W.Frag) (tl:TE):TI:=λσ H R=>tl σ H λx H1=>∃ a,x=.ref a/\(∃ xs,A0 K H1 a xs)/\R (ME K a) H1
def XS (K:PySem.W.Frag) (tl:TE):TI:=λσ H R=>tl σ H λx H1=>∃ a,x=.ref a/\(∃ xs,A1 K H1 a xs)/\R (MD K a) H1
theorem Ow {l:Expr} {tl:TE} (hl:PE X l tl):PI X tg l (XV X.K tl):=by
 intro pins s σ H R I h
 refine Al (hl pins s σ H _ I h) λv s1 ⟨x,H1,I1,r1,q1⟩=>?_
 obtain ⟨a,e,⟨xs,hq⟩,q⟩:=q1
 subst e
 cases r1
 obtain ⟨its,rv,p,hz⟩:=I1.list hq
 refine wpAny_pyIter_list p.isList ?_
 refine ⟨s1.heap.objs.size,[s1.heap.objs.size],_,_,H1,rfl,I1.kept (t':=s1.toks) λb o e=>Heap.get?_push_of_some _ e,Rq a _,⟨_,Heap.get?_push_size _ rfl,rfl,rfl⟩,λb hb=>?_,q⟩
 have e:b=s1.heap.objs.size:=by simpa using hb
 subst e
 exact I1.fpOk (Nat.le_refl _) (I1.hok.fresh (Nat.le_refl _))
theorem UL {l:Expr} {tl:TE} (hl:PE X l tl):PI X tg l (XS X.K tl):=by
 intro pins s σ H R I h
 refine Al (hl pins s σ H _ I h) λv s1 ⟨x,H1,I1,r1,q1⟩=>?_
 obtain ⟨a,e,⟨xs,hq⟩,q⟩:=q1
 subst e
 cases r1
 obtain ⟨its,rv,p,hz⟩:=I1.tuple hq
 refine wpAny_pyIter_tuple (show s1.heap.IsTuple a its.toArray from p) ?_
 refine ⟨s1.heap.objs.size,[s1.heap.objs.size],_,_,H1,rfl,I1.kept (t':=s1.toks) λb o e=>Heap.get?_push_of_some _ e,Ro a _,⟨_,Heap.get?_push_size _ rfl,rfl,rfl⟩,λb hb=>?_,q⟩
 have e:b=s1.heap.objs.size:=by simpa using hb
 subst e
 exact I1.fpOk (Nat.le_refl _) (I1.hok.fresh (Nat.le_refl _))
theorem Oj {pins:List (Addr×Obj)} {σ:St} {H:Hp} {s:Shared} {R:It->Hp->Prop} {E:Value->Shared->Prop} {lo hi:Int} {t u v:Tok} {tk:Nat} (I:Inv X pins σ H s) (h1:-(2 ^ 62)<=lo) (h2:lo<2 ^ 62) (h3:-(2 ^ 62)<=hi) (h4:hi<2 ^ 62)
  (q:R (GZ lo (hi-lo).toNat) H):wpAny (model X.prog X.w) X.A (pyIter (.ref s.heap.objs.size)) (Mx X pins σ tg R) E { s with heap:=s.heap.push { cls:=.type "range",data:=.fields #[.int lo t,.int hi u,.int 1 v] },toks:=tk }:=by
 refine wpAny_pyIter_range (IsRange.new ..) (small_one h1 h2 h3 h4) ?_
 have I1:Inv X pins σ H { s with heap:=s.heap.push { cls:=.type "range",data:=.fields #[.int lo t,.int hi u,.int 1 v] },toks:=tk }:=I.kept λb o e=>Heap.get?_push_of_some _ e
 refine ⟨(s.heap.push { cls:=.type "range",data:=.fields #[.int lo t,.int hi u,.int 1 v] }).objs.size,[(s.heap.push { cls:=.type "range",data:=.fields #[.int lo t,.int hi u,.int 1 v] }).objs.size],_,_,H,rfl,
  I1.kept (t':=tk) λb o e=>Heap.get?_push_of_some _ e,Rp _ lo (hi-lo).toNat,?_,λb hb=>?_,q⟩
 ·have e1:lo+((0:Nat):Int)*1=lo:=by simp
  have e2:(((hi-lo).toNat:Nat):Int)-((0:Nat):Int)=Builtin.Range.rangeSize lo hi 1:=by rw [rangeSize_one]; split <;> omega
  show IsRangeIter _ _ (lo+((0:Nat):Int)*1) ((((hi-lo).toNat:Nat):Int)-((0:Nat):Int)) 1
  rw [e1,e2]
  exact Heap.get?_push_size _ rfl
 ·have e:b=(s.heap.push { cls:=.type "range",data:=.fields #[.int lo t,.int hi u,.int 1 v] }).objs.size:=by simpa using hb
  subst e
  exact I1.fpOk (Nat.le_refl _) (I1.hok.fresh (Nat.le_refl _))
def XU (ta:TA):TI:=λσ H R=>ta σ H λvs H1=>∃ j:Int,vs=[.int j]/\-(2 ^ 62)<=j/\j<2 ^ 62/\R (GZ 0 j.toNat) H1
def XT (ta:TA):TI:=λσ H R=>ta σ H λvs H1=>∃ i j:Int,vs=[.int i,.int j]/\(-(2 ^ 62)<=i/\i<2 ^ 62/\-(2 ^ 62)<=j/\j<2 ^ 62)/\R (GZ i (j-i).toNat) H1
theorem UN {a:Expr} {ta:TA} {p pos:Pos} (hg:Gl X "range") (hm:X.mg "range" = none) (ha:PA X [a] ta) (hs:starEach [a] X.env=[(false,eval a X.env)]:=by rfl):PI X tg (.Call (.Name "range" p) [a] [] pos) (XU ta):=by
 intro pins s σ H R I h
 refine Call_ (EE I hg hm boot_range (PyProof.Rows.callWith_type1 (Al (ha pos pins s σ H _ I h) λus s1 ⟨vs,H1,I1,r1,q1⟩=>?_) hs rfl))
 obtain ⟨j,e,q1,q2,q⟩:=q1
 subst e
 cases r1 with
 | cons r rr=>
  cases rr
  obtain ⟨t,rfl⟩:=r
  exact call_range_1 (Oj I1 wF wF q1 q2 (by simpa using q))
theorem UM {a b:Expr} {ta:TA} {p pos:Pos} (hg:Gl X "range") (hm:X.mg "range" = none) (ha:PA X [a,b] ta) (hs:starEach [a,b] X.env=[(false,eval a X.env),(false,eval b X.env)]:=by rfl) (hs2:starEach [b] X.env=[(false,eval b X.env)]:=by rfl) :
  PI X tg (.Call (.Name "range" p) [a,b] [] pos) (XT ta):=by
 intro pins s σ H R I h
 refine Call_ (EE I hg hm boot_range (PyProof.Rows.callWith_type1 (Al (ha pos pins s σ H _ I h) λus s1 ⟨vs,H1,I1,r1,q1⟩=>?_) (by rw [hs,hs2]) (by rw [hs2]; rfl)))
 obtain ⟨i,j,e,⟨q1,q2,q3,q4⟩,q⟩:=q1
 subst e
 cases r1 with
 | cons r rr=>
  cases rr with
  | cons r' rr=>
   cases rr
   obtain ⟨t,rfl⟩:=r
   obtain ⟨t',rfl⟩:=r'
   exact call_range_2 (Oj I1 q1 q2 q3 q4 q)
def RR (wi:TI) (g:TG) (tb:TS):TS:=λD σ H=>wi σ H λJ H1=>∃ W:Nat->Nat->St->Hp->Prop,(∃ m,W 0 m σ H1)/\∀ i m σ H,W i m σ H->
 (J.stop i H/\D.nx σ H)\/(J.go i H/\∃ N:St->Hp->Prop,(∀ σ' H',N σ' H'->∃ m',m'<m/\W (i+1) m' σ' H')/\∀ x H',J.yld i H x H'->g x σ H' λσ2 H2=>tb { D with nx:=N,ct:=N,bk:=D.nx } σ2 H2)
def Ec (fp:List Addr) (h:Heap):List (Addr×Obj):=fp.filterMap λb=>(h.get? b).map λo=>(b,o)
theorem HX {fp:List Addr} {h:Heap} {b:Addr} {o:Obj} (hb:b∈fp) (e:h.get? b=some o):(b,o)∈Ec fp h:=List.mem_filterMap.mpr ⟨b,hb,by rw [e]; rfl⟩
theorem OF {fp:List Addr} {h:Heap} {p:Addr×Obj} (hp:p∈Ec fp h):p.1∈fp/\h.get? p.1=some p.2:=by
 obtain ⟨b,hb,e⟩:=List.mem_filterMap.mp hp
 cases q:h.get? b with
 | none=>rw [q] at e; cases e
 | some o=>
  rw [q] at e
  have e':(b,o)=p:=Option.some.inj e
  subst e'
  exact ⟨hb,q⟩
theorem Inv.pinned {pins:List (Addr×Obj)} {σ:St} {H:Hp} {s:Shared} {fp:List Addr} (I:Inv X pins σ H s) (hf:∀ b∈fp,BS X pins H b) (ho:∀ b∈fp,∃ o,s.heap.get? b=some o/\∀ v,o.data≠.cell v):Inv X (pins++Ec fp s.heap) σ H s:=
 I.pins_of λp hp=>(List.mem_append.mp hp).elim (λz=>I.pin p (List.mem_append_right _ z)) λz=>by
  obtain ⟨hb,e⟩:=OF z
  obtain ⟨f0,f1,f2,_⟩:=hf p.1 hb
  obtain ⟨o,e',d⟩:=ho p.1 hb
  rw [e] at e'; cases e'
  exact ⟨e,f0,f1,f2,d⟩
theorem Inv.unpinned {pins pl:List (Addr×Obj)} {σ:St} {H:Hp} {s:Shared} (I:Inv X (pins++pl) σ H s):Inv X pins σ H s:=I.pins_of λp hp=>I.pin p (List.mem_append_right _ (List.mem_append_left _ hp))
theorem Uz {iter:Expr} {body:List Stmt} {wi:TI} {g:TG} {tb:TS} {pos:Pos} (hp:PassesOwn (model X.prog X.w) X.A X.env X.xe) (hc:X.calm=true) (hi:PI X tg iter wi) (hg:PG X tg g) (hb:PSs X body tb)
  (hs:∀ x,foldedSetIterable iter X.env x=pure x:=by intro _; rfl):PS X (.For tg iter body [] pos) (RR wi g tb):=by
 intro pins s σ H D I h
 refine wpAny_For (Al (hi pins s σ H _ I h) λv s1 h1=>Al h1 λitv s2 h2=>?_) hs
 obtain ⟨it,fp,tn,J,H2,e,I2,T,st2,f2,W,⟨m0,w0⟩,turn⟩:=h2
 subst e
 -- what stays true of the iterator's objects through the loop
 have stat:∀ {H':Hp},(∀ b∈fp,H' b=none)->∀ b∈fp,BS X pins H' b:=λhn b hb=>⟨hn b hb,(f2 b hb).2⟩
 refine codeAny_forLoop_any (λn s'=>∃ i σ' H',Inv X pins σ' H' s'/\tn i s'.heap/\(∀ b∈fp,H' b=none)/\W i n σ' H') ?_ m0 ⟨0,σ,H2,I2,st2,λb hb=>(f2 b hb).1,w0⟩
 rintro n s3 ⟨i,σ3,H3,I3,st3,fr3,w3⟩
 rcases turn i n σ3 H3 w3 with ⟨stop,qn⟩ | ⟨go,N,hN,step⟩
 ·refine wpAny_passesOwn hp (Al (T.done X rfl rfl rfl hc i pins s3 σ3 H3 X.xe I3 (stat fr3) st3 stop) λr s4 ⟨hr,I4⟩=>?_)
  subst hr
  exact wpAny_execs_nil ⟨σ3,H3,I4,qn⟩
 ·refine wpAny_passesOwn hp (Al (T.item X rfl rfl rfl hc i pins s3 σ3 H3 X.xe I3 (stat fr3) st3 go) λr s4 ⟨u,hr,h4⟩=>?_)
  subst hr
  refine wpAny_passesOwn hp (Al h4 λ_ s5 ⟨x,H5,I5,r5,y5,st5,fr5⟩=>?_)
  have I5':=I5.pinned (stat fr5) (T.obj _ _ st5)
  refine wpAny_passesOwn hp (Al (hg _ s5 σ3 H5 x u _ I5' r5 (step x H5 y5)) λ_ s6 ⟨σ6,H6,I6,q6⟩=>?_)
  refine wpAny_passesOwn hp (Al (hb _ s6 σ6 H6 _ I6 q6) λf s7 q7=>?_)
  have again:∀ {σ7:St} {H7:Hp},Inv X (pins++Ec fp s5.heap) σ7 H7 s7->N σ7 H7->∃ m,m<n/\∃ i σ' H',Inv X pins σ' H' s7/\tn i s7.heap/\(∀ b∈fp,H' b=none)/\W i m σ' H':=λ{σ7 H7} I7 n7=>by
   obtain ⟨m',hm,w7⟩:=hN σ7 H7 n7
   refine ⟨m',hm,i+1,σ7,H7,I7.unpinned,T.keep _ _ _ st5 λb hb o e=>(I7.pin (b,o) (List.mem_append_right _ (List.mem_append_right _ (HX hb e)))).1,λb hb=>?_,w7⟩
   obtain ⟨o,e,d⟩:=T.obj _ _ st5 b hb
   exact (I7.pin (b,o) (List.mem_append_right _ (List.mem_append_right _ (HX hb e)))).2.1
  cases f with
  | next=>obtain ⟨σ7,H7,I7,n7⟩:=q7; exact again I7 n7
  | cont=>obtain ⟨σ7,H7,I7,n7⟩:=q7; exact again I7 n7
  | brk=>obtain ⟨σ7,H7,I7,q7⟩:=q7; exact ⟨σ7,H7,I7.unpinned,q7⟩
  | ret v=>obtain ⟨x7,σ7,H7,I7,r7,q7⟩:=q7; exact ⟨x7,σ7,H7,I7.unpinned,r7,q7⟩
end
end L2
namespace L2
open PySem PySem.Spec PyProof.Rows
abbrev R2:=V->V->Hp->VK->Prop
def BH (X:Cx) (f:Value->Value->Sem Value) (r:R2):Prop:=
 ∀ (pins:List (Addr×Obj)) (s:Shared) (σ:St) (H:Hp) (x y:V) (v u:Value) (Q:VK),Inv X pins σ H s->AN x v->AN y u->r x y H Q->
  wpAny (model X.prog X.w) X.A (f v u) (EP X pins σ Q) X.xe s
def Ms (X:Cx) (f:Value->Sem Value) (r:V->Hp->VK->Prop):Prop:=
 ∀ (pins:List (Addr×Obj)) (s:Shared) (σ:St) (H:Hp) (x:V) (v:Value) (Q:VK),Inv X pins σ H s->AN x v->r x H Q->
  wpAny (model X.prog X.w) X.A (f v) (EP X pins σ Q) X.xe s
def DH (X:Cx) (f:Value) (r:List V->Hp->VK->Prop):Prop:=
 ∀ (pins:List (Addr×Obj)) (s:Shared) (σ:St) (H:Hp) (xs:List V) (us:List Value) (Q:VK),Inv X pins σ H s->Ar xs us->r xs H Q->
  wpAny (model X.prog X.w) X.A (call f us) (EP X pins σ Q) X.xe s
def Z8 (X:Cx) (r:V->Hp->(Bool->Hp->Prop)->Prop):Prop:=
 ∀ (pins:List (Addr×Obj)) (s:Shared) (σ:St) (H:Hp) (x:V) (v:Value) (Q:Bool->Hp->Prop),Inv X pins σ H s->AN x v->r x H Q->
  wpAny (model X.prog X.w) X.A (truthy v) (TP X pins σ Q) X.xe s
def tUn (r:V->Hp->VK->Prop) (ta:TE):TE:=λσ H Q=>ta σ H λx H1=>r x H1 Q
def rI (C:Int->Int->Prop) (g:Int->Int->V):R2:=λx y H Q=>∃ i j,x=.int i/\y=.int j/\C i j/\Q (g i j) H
def Eb (g:Int->Int->V):R2:=λx y H Q=>∃ i j,x=.int i/\y=.int j/\Q (g i j) H
def rU (g:Int->V):V->Hp->VK->Prop:=λx H Q=>∃ i,x=.int i/\Q (g i) H
section
variable {X:Cx} {a b c:Expr} {ta tb tc:TE} {pos:Pos}
theorem Fp (ha:PE X a ta) (hb:PE X b tb) {pins:List (Addr×Obj)} {s:Shared} {σ:St} {H:Hp} {R:V->V->Hp->Prop} (I:Inv X pins σ H s)
  (h:ta σ H λx H1=>tb σ H1 λy H2=>R x y H2) {Q:Value->Shared->Prop} {f:Value->Value->Sem Value}
  (hf:∀ v u s2 x y H2,Inv X pins σ H2 s2->AN x v->AN y u->R x y H2->wpAny (model X.prog X.w) X.A (f v u) Q X.xe s2) :
  wpAny (model X.prog X.w) X.A (eval a X.env) (λv s₁=>wpAny (model X.prog X.w) X.A (eval b X.env) (λu s₂=>wpAny (model X.prog X.w) X.A (f v u) Q X.xe s₂) X.xe s₁) X.xe s:=by
 refine Al (ha pins s σ H _ I h) λv s1 ⟨x,H1,I1,r1,q1⟩=>?_
 refine Al (hb pins s1 σ H1 _ I1 q1) λu s2 ⟨y,H2,I2,r2,q2⟩=>?_
 exact hf v u s2 x y H2 I2 r1 r2 q2
theorem UT {op:UnaryOp} {r:V->Hp->VK->Prop} (ho:Ms X (unaryOp op) r) (ha:PE X a ta):PE X (.UnaryOp op a pos) (tUn r ta):=by
 intro pins s σ H Q I h
 exact UnaryOp_ (Al (ha pins s σ H _ I h) λv s1 ⟨x,H1,I1,r1,q1⟩=>ho pins s1 σ H1 x v Q I1 r1 q1)
theorem Li {f:Value->Value->Sem Value} {C:Int->Int->Prop} {g:Int->Int->Int}
  (rule:∀ (i j:Int) (t u:Tok) (s:Shared) (Q:Value->Shared->Prop) (E:Value->Shared->Prop),C i j->Q (.int (g i j) s.toks) { s with toks:=s.toks+1 }->wpAny (model X.prog X.w) X.A (f (.int i t) (.int j u)) Q E s) :
  BH X f (rI C λi j=>.int (g i j)):=by
 intro pins s σ H x y v u Q I rx ry h
 obtain ⟨i,j,rfl,rfl,hc,q⟩:=h
 obtain ⟨t,rfl⟩:=rx
 obtain ⟨t',rfl⟩:=ry
 exact rule i j t t' s _ _ hc ⟨.int (g i j),H,I.tok _,⟨_,rfl⟩,q⟩
theorem OD {f:Value->Value->Sem Value} {g:Int->Int->Int}
  (rule:∀ (i j:Int) (t u:Tok) (s:Shared) (Q:Value->Shared->Prop) (E:Value->Shared->Prop),Q (.int (g i j) s.toks) { s with toks:=s.toks+1 }->wpAny (model X.prog X.w) X.A (f (.int i t) (.int j u)) Q E s) :
  BH X f (Eb λi j=>.int (g i j)):=by
 intro pins s σ H x y v u Q I rx ry h
 obtain ⟨i,j,rfl,rfl,q⟩:=h
 obtain ⟨t,rfl⟩:=rx
 obtain ⟨t',rfl⟩:=ry
 exact rule i j t t' s _ _ ⟨.int (g i j),H,I.tok _,⟨_,rfl⟩,q⟩
theorem Lj {f:Value->Value->Sem Value} {g:Int->Int->Bool}
  (rule:∀ (i j:Int) (t u:Tok) (s:Shared) (Q:Value->Shared->Prop) (E:Value->Shared->Prop),Q (.bool (g i j)) s->wpAny (model X.prog X.w) X.A (f (.int i t) (.int j u)) Q E s) :
  BH X f (Eb λi j=>.bl (g i j)):=by
 intro pins s σ H x y v u Q I rx ry h
 obtain ⟨i,j,rfl,rfl,q⟩:=h
 obtain ⟨t,rfl⟩:=rx
 obtain ⟨t',rfl⟩:=ry
 exact rule i j t t' s _ _ ⟨.bl (g i j),H,I,rfl,q⟩
def QP (i j:Int):Prop:=0<j/\j<1073741824
def C4 (i j:Int):Prop:=(-(2 ^ 64)<i/\i<2 ^ 64)\/(-(2 ^ 64)<j/\j<2 ^ 64)
theorem C4.ok {i j:Int} (h:C4 i j):IntMulOk i j:=by
 rcases h with ⟨h1,h2⟩ | ⟨h1,h2⟩
 ·exact .of_left (intBits_le_64 h1 h2)
 ·exact .of_right (intBits_le_64 h1 h2)
theorem Vq:BH X (binaryOp .Add) (Eb λi j=>.int (i+j)):=OD λ_ _ _ _ _ _ _ q=>add_int q
theorem Vd:BH X (binaryOp .Sub) (Eb λi j=>.int (i-j)):=OD λ_ _ _ _ _ _ _ q=>sub_int q
theorem Vm:BH X (binaryOp .FloorDiv) (rI QP λi j=>.int (i/j)):=Li λi j _ _ _ _ _ hc q=>by
 have h1:(0:Int)<j:=hc.1
 have h2:j<1073741824:=hc.2
 exact floordiv_int wF (by rw [Int.fdiv_eq_ediv_of_nonneg i wF]; exact q) (.inl (PyProof.noPylong_small wF))
theorem Vg:BH X (binaryOp .Mod) (rI (λ_ j=>0<j) λi j=>.int (i%j)):=Li λi j _ _ _ _ _ hc q=>by
 have h1:(0:Int)<j:=hc
 exact mod_int' wF (by rw [Int.fmod_eq_emod_of_nonneg i wF]; exact q)
theorem unI {f:Value->Sem Value} {g:Int->Int}
  (rule:∀ (i:Int) (t:Tok) (s:Shared) (Q:Value->Shared->Prop) (E:Value->Shared->Prop),Q (.int (g i) s.toks) { s with toks:=s.toks+1 }->wpAny (model X.prog X.w) X.A (f (.int i t)) Q E s) :
  Ms X f (rU λi=>.int (g i)):=by
 intro pins s σ H x v Q I rx h
 obtain ⟨i,rfl,q⟩:=h
 obtain ⟨t,rfl⟩:=rx
 exact rule i t s _ _ ⟨.int (g i),H,I.tok _,⟨_,rfl⟩,q⟩
theorem Rk:Ms X (unaryOp .USub) (rU λi=>.int (-i)):=unI λ_ _ _ _ _ q=>neg_int q
end
def NY:V->V->Bool
 | .non,.non=>true | .non,.int _=>true | .int _,.non=>true | .non,.bl _=>true | .bl _,.non=>true | .non,.str _=>true | .str _,.non=>true
 | .int _,.int _=>true | .bl _,.bl _=>true | .str _,.str _=>true | .byt _,.byt _=>true
 | .int _,.str _=>true | .str _,.int _=>true | .bl _,.str _=>true | .str _,.bl _=>true
 | _,_=>false
def rEq:R2:=λx y H Q=>NY x y=true/\Q (.bl (decide (x=y))) H
def rNe:R2:=λx y H Q=>NY x y=true/\Q (.bl (!decide (x=y))) H
theorem P4 {i j:Int}:decide (V.int i=V.int j)=(i==j):=by
 rw [Bool.eq_iff_iff]
 simp
theorem P6 {i j:Bool}:decide (V.bl i=V.bl j)=(i==j):=by
 rw [Bool.eq_iff_iff]
 simp
theorem IE {i j:Str}:decide (V.str i=V.str j)=(i==j):=by
 rw [Bool.eq_iff_iff]
 simp
theorem P5 {i j:Array UInt8}:decide (V.byt i=V.byt j)=(i.toList==j.toList):=by
 rw [Bool.eq_iff_iff]
 cases i
 cases j
 simp
section
variable {X:Cx} {a b c:Expr} {ta tb tc:TE} {pos:Pos}
theorem Bb {pins:List (Addr×Obj)} {σ:St} {H:Hp} {s:Shared} {Q:VK} {k k':Bool} (I:Inv X pins σ H s) (q:Q (.bl k) H) (e:k=k'):EP X pins σ Q (.bool k') s:=by
 subst e
 exact ⟨.bl k,H,I,rfl,q⟩
theorem OC:BH X (compareOp .Eq) rEq:=by
 intro pins s σ H x y v u Q I rx ry h
 obtain ⟨hs,q⟩:=h
 cases x with
 | non=>
  cases rx
  cases y with
  | non=>cases ry; exact PySem.EqNone.eq_none_none (Bb I q (by simp))
  | bl j=>cases ry; exact PySem.EqNone.eq_none_bool (Bb I q (by simp))
  | int j=>obtain ⟨t',rfl⟩:=ry; exact PySem.EqNone.eq_none_int (Bb I q (by simp))
  | str j=>obtain ⟨t',rfl⟩:=ry; exact PySem.EqNone.eq_none_str (Bb I q (by simp))
  | _=>exact absurd (show false=true from hs) Bool.false_ne_true
 | bl i=>
  cases rx
  cases y with
  | non=>cases ry; exact PySem.EqNone.eq_bool_none (Bb I q (by simp))
  | bl j=>cases ry; exact eq_bool (Bb I q P6)
  | str j=>obtain ⟨t',rfl⟩:=ry; exact PySem.EqMixed.eq_bool_str (Bb I q (by simp))
  | _=>exact absurd (show false=true from hs) Bool.false_ne_true
 | int i=>
  obtain ⟨t,rfl⟩:=rx
  cases y with
  | non=>cases ry; exact PySem.EqNone.eq_int_none (Bb I q (by simp))
  | int j=>obtain ⟨t',rfl⟩:=ry; exact eq_int (Bb I q P4)
  | str j=>obtain ⟨t',rfl⟩:=ry; exact PySem.EqMixed.eq_int_str (Bb I q (by simp))
  | _=>exact absurd (show false=true from hs) Bool.false_ne_true
 | str i=>
  obtain ⟨t,rfl⟩:=rx
  cases y with
  | non=>cases ry; exact PySem.EqNone.eq_str_none (Bb I q (by simp))
  | bl j=>cases ry; exact PySem.EqMixed.eq_str_bool (Bb I q (by simp))
  | int j=>obtain ⟨t',rfl⟩:=ry; exact PySem.EqMixed.eq_str_int (Bb I q (by simp))
  | str j=>obtain ⟨t',rfl⟩:=ry; exact eq_str (Bb I q IE)
  | _=>exact absurd (show false=true from hs) Bool.false_ne_true
 | byt i=>
  obtain ⟨t,rfl⟩:=rx
  cases y with
  | byt j=>obtain ⟨t',rfl⟩:=ry; exact PySem.W.eq_bytes (Bb I q P5)
  | _=>exact absurd (show false=true from hs) Bool.false_ne_true
 | _=>cases y <;> exact absurd (show false=true from hs) Bool.false_ne_true
theorem OB:BH X (compareOp .NotEq) rNe:=by
 intro pins s σ H x y v u Q I rx ry h
 obtain ⟨hs,q⟩:=h
 cases x with
 | non=>
  cases rx
  cases y with
  | non=>cases ry; exact PySem.EqNone.ne_none_none (Bb I q (by simp))
  | bl j=>cases ry; exact PySem.EqNone.ne_none_bool (Bb I q (by simp))
  | int j=>obtain ⟨t',rfl⟩:=ry; exact PySem.EqNone.ne_none_int (Bb I q (by simp))
  | str j=>obtain ⟨t',rfl⟩:=ry; exact PySem.EqNone.ne_none_str (Bb I q (by simp))
  | _=>exact absurd (show false=true from hs) Bool.false_ne_true
 | bl i=>
  cases rx
  cases y with
  | non=>cases ry; exact PySem.EqNone.ne_bool_none (Bb I q (by simp))
  | bl j=>cases ry; exact ne_bool (Bb I q (congrArg not P6))
  | str j=>obtain ⟨t',rfl⟩:=ry; exact PySem.EqMixed.ne_bool_str (Bb I q (by simp))
  | _=>exact absurd (show false=true from hs) Bool.false_ne_true
 | int i=>
  obtain ⟨t,rfl⟩:=rx
  cases y with
  | non=>cases ry; exact PySem.EqNone.ne_int_none (Bb I q (by simp))
  | int j=>obtain ⟨t',rfl⟩:=ry; exact ne_int (Bb I q (congrArg not P4))
  | str j=>obtain ⟨t',rfl⟩:=ry; exact PySem.EqMixed.ne_int_str (Bb I q (by simp))
  | _=>exact absurd (show false=true from hs) Bool.false_ne_true
 | str i=>
  obtain ⟨t,rfl⟩:=rx
  cases y with
  | non=>cases ry; exact PySem.EqNone.ne_str_none (Bb I q (by simp))
  | bl j=>cases ry; exact PySem.EqMixed.ne_str_bool (Bb I q (by simp))
  | int j=>obtain ⟨t',rfl⟩:=ry; exact PySem.EqMixed.ne_str_int (Bb I q (by simp))
  | str j=>obtain ⟨t',rfl⟩:=ry; exact ne_str (Bb I q (congrArg not IE))
  | _=>exact absurd (show false=true from hs) Bool.false_ne_true
 | byt i=>
  obtain ⟨t,rfl⟩:=rx
  cases y with
  | byt j=>obtain ⟨t',rfl⟩:=ry; exact PySem.W.ne_bytes (Bb I q (congrArg not P5))
  | _=>exact absurd (show false=true from hs) Bool.false_ne_true
 | _=>cases y <;> exact absurd (show false=true from hs) Bool.false_ne_true
theorem Vh:BH X (compareOp .Lt) (Eb λi j=>.bl (decide (i<j))):=Lj λ_ _ _ _ _ _ _ q=>lt_int q
theorem Vi:BH X (compareOp .LtE) (Eb λi j=>.bl (decide (i<=j))):=Lj λ_ _ _ _ _ _ _ q=>le_int q
theorem Vl:BH X (compareOp .GtE) (Eb λi j=>.bl (decide (j<=i))):=Lj λ_ _ _ _ _ _ _ q=>ge_int q
theorem Vj:BH X (compareOp .Is) (λx y H Q=>y=.non/\Q (.bl (decide (x=.non))) H):=by
 intro pins s σ H x y v u Q I rx ry h
 obtain ⟨rfl,q⟩:=h
 cases ry
 refine is_none_gen (Bb I q ?_)
 cases x <;> first
  | (cases rx; rfl)
  | (obtain ⟨t,rfl⟩:=rx; rfl)
theorem Ve:BH X (compareOp .IsNot) (λx y H Q=>y=.non/\Q (.bl (!decide (x=.non))) H):=by
 intro pins s σ H x y v u Q I rx ry h
 obtain ⟨rfl,q⟩:=h
 cases ry
 refine isnot_none_gen (Bb I q ?_)
 cases x <;> first
  | (cases rx; rfl)
  | (obtain ⟨t,rfl⟩:=rx; rfl)
theorem HQ (b:Expr) {op:CmpOp} (h:op≠.In:=by decide) (h2:op≠.NotIn:=by decide):behindInMarks op b=false:=by
 have e1:(op==CmpOp.In)=false:=by cases op <;> first | rfl | exact absurd rfl h
 have e2:(op==CmpOp.NotIn)=false:=by cases op <;> first | rfl | exact absurd rfl h2
 cases b <;> simp [behindInMarks,e1,e2]
def QB (K:PySem.W.Frag) (x:V) (H:Hp) (k:Bool):Prop:=
 match x with
 | .non=>k=false
 | .bl b=>k=b
 | .int i=>k=(i != 0)
 | .str y=>y.length<=sizeLine/\k=((y.length:Int) != 0)
 | .byt y=>y.size<=sizeLine/\k=((y.size:Int) != 0)
 | .ref p=>(∃ xs,A0 K H p xs/\k=!xs.isEmpty)\/(∃ xs,A1 K H p xs/\k=!xs.isEmpty)\/∃ kvs,H p=some (.dK kvs)/\k=!kvs.isEmpty
 | _=>False
theorem XH {κ:Type} {kvs:List (κ×V)} {vs:List (κ×Value)} (r:KV kvs vs):(!vs.isEmpty)=!kvs.isEmpty:=by
 cases r <;> rfl
theorem Pi {xs:List V} {its:List Value} (r:Ar xs its):(!its.toArray.isEmpty)=!xs.isEmpty:=by
 cases r <;> simp
theorem GF:(sizeLine:Nat)<2 ^ 63:=by rw [sizeLine_eq]; decide
theorem Rw:Z8 X (λx H Q=>∃ k,QB X.K x H k/\Q k H):=by
 intro pins s σ H x v Q I rx h
 obtain ⟨k,e,q⟩:=h
 have hl:=GF
 have hs:sizeLine=16777216:=sizeLine_eq
 cases x with
 | non=>
  cases rx
  have e':k=false:=e
  subst e'
  exact truthy_none ⟨H,I,q⟩
 | bl b=>
  cases rx
  have e':k=b:=e
  subst e'
  exact wpAny_truthy_bool ⟨H,I,q⟩
 | int i=>
  obtain ⟨t,rfl⟩:=rx
  have e':k=(i != 0):=e
  subst e'
  exact PySem.P.truthy_int ⟨H,I,q⟩
 | str y=>
  obtain ⟨t,rfl⟩:=rx
  obtain ⟨hy,e'⟩:y.length<=sizeLine/\k=((y.length:Int) != 0):=e
  subst e'
  exact PySem.P.truthy_str wF ⟨H,I.tok _,q⟩
 | byt y=>
  obtain ⟨t,rfl⟩:=rx
  obtain ⟨hy,e'⟩:y.size<=sizeLine/\k=((y.size:Int) != 0):=e
  subst e'
  exact PySem.W.truthy_bytes wF ⟨H,I.tok _,q⟩
 | ref p=>
  cases rx
  have e':(∃ xs,A0 X.K H p xs/\k=!xs.isEmpty)\/(∃ xs,A1 X.K H p xs/\k=!xs.isEmpty)\/∃ kvs,H p=some (.dK kvs)/\k=!kvs.isEmpty:=e
  rcases e' with ⟨xs,hx,e'⟩ | ⟨xs,hx,e'⟩ | ⟨kvs,hx,e'⟩
  ·subst e'
   obtain ⟨its,r,pl,hz⟩:=I.list hx
   have hlen:=r.length
   exact wpAny_truthy_list pl.isList (by simp only [List.size_toArray]; omega) ⟨H,I.tok _,by rw [Pi r]; exact q⟩
  ·subst e'
   obtain ⟨its,r,pl,hz⟩:=I.tuple hx
   have hlen:=r.length
   exact truthy_tuple pl (by simp only [List.size_toArray]; omega) ⟨H,I.tok _,by rw [Pi r]; exact q⟩
  ·subst e'
   obtain ⟨hz,hS,vs,r,m⟩:kvs.length<=sizeLine/\(p==sysModules)=false/\∃ vs,KV kvs vs/\s.heap.DictOf (Ls X.prog X.w) p vs:=I.hok p _ hx
   have hlen:kvs.length=vs.length:=Paired.length r
   exact wpAny_truthy_dict hS m wF ⟨H,I.tok _,by rw [XH r]; exact q⟩
 | _=>exact (show False from e).elim
theorem Op (ha:PE X a ta) (he:∀ whole,isTrue a X.env whole=(do let v <- whole; standAt a.pos; holding [v] (truthy v))) :
  PT X a (λσ H Q=>ta σ H λx H'=>∃ k,QB X.K x H' k/\Q k H'):=by
 intro pins s σ H Q I h
 exact isTrue_plain (Al (ha pins s σ H _ I h) λv s1 ⟨x,H1,I1,r1,q1⟩=>Rw pins s1 σ H1 x v Q I1 r1 q1) (he _)
theorem DI {x:V} {us:List Value} (r:Ar [x] us):∃ u,us=[u]/\AN x u:=by
 cases r with
 | cons r1 r2=>cases r2; exact ⟨_,rfl,r1⟩
theorem Ds {x y:V} {us:List Value} (r:Ar [x,y] us):∃ u w',us=[u,w']/\AN x u/\AN y w':=by
 cases r with
 | cons r1 r2=>
  cases r2 with
  | cons r3 r4=>cases r4; exact ⟨_,_,rfl,r1,r3⟩
theorem ZP:DH X (.builtin "abs") (λxs H Q=>∃ i,xs=[.int i]/\Q (.int (if i<0 then -i else i)) H):=by
 intro pins s σ H xs us Q I r h
 obtain ⟨i,rfl,q⟩:=h
 obtain ⟨u,rfl,t,rfl⟩:=DI r
 exact call_abs_int λu tk=>⟨.int (if i<0 then -i else i),H,I.tok _,⟨_,rfl⟩,q⟩
theorem ZJ (hc:X.calm=true):DH X (.builtin "max") (λxs H Q=>∃ i j,xs=[.int i,.int j]/\Q (.int (if j>i then j else i)) H):=by
 intro pins s σ H xs us Q I r h
 obtain ⟨i,j,rfl,q⟩:=h
 obtain ⟨u,w',rfl,⟨t,rfl⟩,⟨t',rfl⟩⟩:=Ds r
 refine max_two_ints (I.ok.hd hc) λh' tk k=>⟨_,H,I.kept k,?_,q⟩
 by_cases hj:j>i
 ·rw [if_pos hj,if_pos hj]; exact ⟨_,rfl⟩
 ·rw [if_neg hj,if_neg hj]; exact ⟨_,rfl⟩
theorem ZI (hc:X.calm=true):DH X (.builtin "min") (λxs H Q=>∃ i j,xs=[.int i,.int j]/\Q (.int (if j<i then j else i)) H):=by
 intro pins s σ H xs us Q I r h
 obtain ⟨i,j,rfl,q⟩:=h
 obtain ⟨u,w',rfl,⟨t,rfl⟩,⟨t',rfl⟩⟩:=Ds r
 refine min_two_ints (I.ok.hd hc) λh' tk k=>⟨_,H,I.kept k,?_,q⟩
 by_cases hj:j<i
 ·rw [if_pos hj,if_pos hj]; exact ⟨_,rfl⟩
 ·rw [if_neg hj,if_neg hj]; exact ⟨_,rfl⟩
theorem ZM:DH X (.type "int") (λxs H Q=>(∃ i,xs=[.int i]/\Q (.int i) H)\/∃ k,xs=[.bl k]/\Q (.int (if k then 1 else 0)) H):=by
 intro pins s σ H xs us Q I r h
 rcases h with ⟨i,rfl,q⟩ | ⟨k,rfl,q⟩
 ·obtain ⟨u,rfl,t,rfl⟩:=DI r
  exact call_int_int ⟨.int i,H,I,⟨_,rfl⟩,q⟩
 ·obtain ⟨u,rfl,r1⟩:=DI r
  cases r1
  exact call_int_bool ⟨.int (if k then 1 else 0),H,I.tok _,⟨_,rfl⟩,q⟩
end
end L2
namespace L2
open PySem PySem.Spec PyProof.Rows
structure Fu (h:Heap) (x dx C:Addr) (mA:Str->Option Value):Prop where
 obj:h.get? x=some (PySem.W.instObj C dx)
 ns:h.Ns1 dx mA
 ne:dx≠x
theorem OW {h:Heap} {dx:Addr} {mA:Str->Option Value} (n:h.Ns1 dx mA):∃ od,h.get? dx=some od/\∀ name,PySem.W.lookIn name od=some (mA name):=by
 obtain ⟨o,es,ep,ho,hd,hk,_,hm⟩:=n
 refine ⟨o,ho,λname=>?_⟩
 have e:=hm name
 unfold nsFind findBy at e
 rw [<- Array.find?_toList] at e
 unfold PySem.W.lookIn
 rw [hd]
 dsimp only
 split
 ·rename_i y q
  rw [q] at e
  exact congrArg some e
 ·rename_i q
  rw [q] at e
  have a:es.toList.any (·.refKey)=false:=by
   rw [List.any_eq_false]
   intro y hy
   obtain ⟨z,t,hkey⟩:=hk y (Array.mem_toList_iff.mp hy)
   simp [DictEntry.refKey,hkey]
  have a':¬ es.toList.any (·.refKey)=true:=by rw [a]; exact Bool.false_ne_true
  rw [if_neg a']
  exact congrArg some e
theorem Fu.look {h:Heap} {x dx C:Addr} {mA:Str->Option Value} (I:Fu h x dx C mA):∃ od,PySem.W.InstAt h x (PySem.W.instObj C dx) C (some od)/\∀ name,PySem.W.lookIn name od=some (mA name):=
 let ⟨od,ho,hl⟩:=OW I.ns
 ⟨od,⟨I.obj,rfl,rfl,ho⟩,hl⟩
section
variable {prog:Program} {w:World} {A:Around} {E:Value->Shared->Prop} {s:Shared} {K:PySem.W.Frag} {x dx C f:Addr} {mA:Str->Option Value} {name:Str} {v:Value}
theorem Ya {expr:Bool} {Q:Value->Shared->Prop} (X:K.In s.heap) (I:Fu s.heap x dx C mA) (hg:PySem.W.plainGet K C name=true) (hh:PySem.W.hasDictIn K C=true)
  (ha:PySem.W.findIn K (.ref C) name=some none) (hv:mA name=some v) (hv':PySem.W.handedIn v=true) (h:Q v { s with toks:=s.toks+1 }) :
  wpAny (model prog w) A (getAttr (.ref x) name expr) Q E s:=by
 obtain ⟨od,J,hl⟩:=I.look
 exact PySem.W.get_value X J (PySem.W.plainGet_of hg).1 (PySem.W.findObj_own hh ha rfl (by rw [hl,hv])) hv' h
theorem X9 {pl:Sem Bool} {Q:Value×List Value->Shared->Prop} (X:K.In s.heap) (I:Fu s.heap x dx C mA) (hg:PySem.W.plainGet K C name=true)
  (hf:PySem.W.findIn K (.ref C) name=some (some (.ref f))) (ht:PySem.W.isFn K (.ref f)=true) (hv:mA name=none) (h:Q (.ref f,[.ref x]) s) :
  wpAny (model prog w) A (getMethod (.ref x) name pl) Q E s:=by
 obtain ⟨od,J,hl⟩:=I.look
 exact PySem.W.method_fn X J (PySem.W.plainGet_of hg).1 (PySem.W.plainGet_of hg).2 hf (beq_iff_eq.mp ht) (by show (PySem.W.lookIn name od).map (·.isSome)=some false; rw [hl,hv]; rfl) h
theorem Sw {ns:List Str} {Q:Unit->Shared->Prop} (X:K.In s.heap) (I:Fu s.heap x dx C mA)
  (hs:PySem.W.findIn K (.ref C) "__setattr__" = some (some (.builtin "object.__setattr__"))) (hp:PySem.W.plainOver K C=true) (ht:PySem.W.takerIn K C name=some none) (hh:PySem.W.hasDictIn K C=true)
  (hw:PySem.Within mA ns) (hsz:ns.length<=sizeLine)
  (h:∀ h',Fu h' x dx C (λy=>if y=name then some v else mA y)->Heap.SameBut dx s.heap h'->Q () { s with heap:=h',toks:=s.toks+2 }) :
  wpAny (model prog w) A (setAttr (.ref x) name v) Q E s:=by
 obtain ⟨od,J,hl⟩:=I.look
 refine PySem.W.set_plain X J hs (PySem.W.osa_open (s:={ s with toks:=s.toks+1 }) (r:=none) X J hp ht λb=>?_)
 obtain ⟨cd,hc,hd'⟩:=PySem.W.any_some hh
 have hx:s.heap.get? x=some ⟨.ref C,some dx,.plain,#[]⟩:=I.obj
 refine wpAny_bind (wpAny_pure (wpAny_bind (wpAny_bind (wpAny_loadPart hx (wpAny_bind (PySem.W.Looks.here (s:={ s with toks:=s.toks+1 }) (PySem.W.looks_clsIn X hc) ?_))))))
 rw [hd']
 refine wpAny_pure (a:=some dx) (wpAny_bind (wpAny_pure (wpAny_bind ?_)))
 refine wpAny_nsSet1 (s:={ s with toks:=s.toks+1 }) I.ns λh' hn2 hs2=>?_
 obtain ⟨oD,esD,epD,hoD,hdD,hcD⟩:=hn2.count (PySem.Within.cons name v hw)
 refine wpAny_bind (wpAny_lookBehind hoD (by rw [hdD]; exact pastItsLine_dict (Nat.le_trans hcD (by rw [List.length_cons]; omega))) ?_)
 exact wpAny_pure (h _ ⟨(hs2.2 _ (Ne.symm I.ne)).trans I.obj,hn2,I.ne⟩ hs2)
theorem OS {R:Result->Shared->Prop} {vs:List Value} {kw:List (Str×Value)} (X:K.In s.heap) (hm:PySem.W.makesIn K C=true)
  (hi:PySem.W.findIn K (.ref C) "__init__" = some (some (.ref f))) (hf:PySem.W.typeIn K (.ref f)=some (.type "function"))
  (h:codeAny (model prog w) (A.under (.builtin "type.__call__" ⟨.ref C::vs,kw⟩)) (.call (.ref f) ⟨.ref (s.heap.objs.size+1)::vs,kw⟩) (PySem.W.InitBack (s.heap.objs.size+1) R)
   { s with heap:=(s.heap.push PySem.W.emptyDict).push (PySem.W.instObj C s.heap.objs.size) }) :
  codeAny (model prog w) A (.call (.ref C) ⟨vs,kw⟩) R s:=by
 obtain ⟨hh,g,d,t,os⟩:=s
 exact PySem.W.make_core (PySem.W.makes_of X hm) (PySem.W.looks_findIn X hi) (λself=>PySem.W.bind_fn X self hf) (.inl rfl) h
end
def Cg (f:Str) (v:V):List (Str×V)->List (Str×V)
 | []=>[(f,v)]
 | (g,x)::r=>if g=f then (g,v)::r else (g,x)::Cg f v r
theorem OV (f g:Str) (v:V):∀ fs:List (Str×V),(Cg f v fs).lookup g=if g=f then some v else fs.lookup g
 | []=>by
  show List.lookup g [(f,v)]=_
  by_cases h:g=f
  ·have hb:(g==f)=true:=beq_iff_eq.mpr h
   simp only [List.lookup,hb,if_pos h]
  ·have hb:(g==f)=false:=beq_eq_false_iff_ne.mpr h
   simp only [List.lookup,hb,if_neg h]
 | (k,x)::r=>by
  have ih:=OV f g v r
  rw [show Cg f v ((k,x)::r)=(if k=f then (k,v)::r else (k,x)::Cg f v r) from rfl]
  by_cases hk:k=f
  ·rw [if_pos hk]
   by_cases h:g=k
   ·have hb:(g==k)=true:=beq_iff_eq.mpr h
    simp only [List.lookup,hb,if_pos (h.trans hk)]
   ·have hb:(g==k)=false:=beq_eq_false_iff_ne.mpr h
    simp only [List.lookup,hb,if_neg (λe:g=f=>h (e.trans hk.symm))]
  ·rw [if_neg hk]
   by_cases h:g=k
   ·have hb:(g==k)=true:=beq_iff_eq.mpr h
    simp only [List.lookup,hb,if_neg (λe:g=f=>hk (h.symm.trans e))]
   ·have hb:(g==k)=false:=beq_eq_false_iff_ne.mpr h
    simp only [List.lookup,hb]
    exact ih
theorem LD (f:Str) (v:V):∀ fs:List (Str×V),f∈(Cg f v fs).map (·.1)/\∀ g,g∈fs.map (·.1)->g∈(Cg f v fs).map (·.1)
 | []=>⟨by simp [Cg],λg h=>by simp at h⟩
 | (k,x)::r=>by
  obtain ⟨i1,i2⟩:=LD f v r
  rw [show Cg f v ((k,x)::r)=(if k=f then (k,v)::r else (k,x)::Cg f v r) from rfl]
  by_cases hk:k=f
  ·rw [if_pos hk]
   subst hk
   exact ⟨by simp,λg h=>by simpa using h⟩
  ·rw [if_neg hk]
   refine ⟨?_,λg h=>?_⟩
   ·rw [List.map_cons]
    exact List.mem_cons_of_mem _ i1
   ·rw [List.map_cons] at h ⊢
    rcases List.mem_cons.mp h with e | e
    ·exact List.mem_cons.mpr (.inl e)
    ·exact List.mem_cons_of_mem _ (i2 g e)
theorem OX (f:Str) (v:V):∀ fs:List (Str×V),(Cg f v fs).length<=fs.length+1
 | []=>by simp [Cg]
 | (k,x)::r=>by
  have ih:=OX f v r
  rw [show Cg f v ((k,x)::r)=(if k=f then (k,v)::r else (k,x)::Cg f v r) from rfl]
  by_cases hk:k=f
  ·rw [if_pos hk,List.length_cons,List.length_cons]; omega
  ·rw [if_neg hk,List.length_cons,List.length_cons]; omega
theorem Dq.some_of {v:V} {o:Option Value} (r:Dq (some v) o):∃ u,o=some u/\AN v u:=by
 cases o with
 | none=>exact (show False from r).elim
 | some u=>exact ⟨u,rfl,r⟩
theorem Dq.none_of {o:Option Value} (r:Dq none o):o=none:=by
 cases o with
 | none=>rfl
 | some u=>exact (show False from r).elim
theorem Pk {v:V} {u:Value} (r:AN v u):PySem.W.handedIn u=true:=by
 cases v with
 | non=>cases (show u=Value.none from r); rfl
 | bl b=>cases (show u=Value.bool b from r); rfl
 | int i=>obtain ⟨t,e⟩:=(show ∃ t,u=Value.int i t from r); cases e; rfl
 | str x=>obtain ⟨t,e⟩:=(show ∃ t,u=Value.str x t from r); cases e; rfl
 | byt b=>obtain ⟨t,e⟩:=(show ∃ t,u=Value.bytes b t from r); cases e; rfl
 | flt b=>obtain ⟨t,e⟩:=(show ∃ t,u=Value.float b t from r); cases e; rfl
 | ref a=>cases (show u=Value.ref a from r); rfl
 | ty n=>cases (show u=Value.type n from r); rfl
section
variable {P:Program} {w:World} {H H':Hp} {h h':Heap} {a C dx:Addr} {fs fs':List (Str×V)}
theorem Ie (hok:Bg P w H h) (e:H a=some (.ins C dx fs)):∃ mA,Fu h a dx C mA/\(∀ f,Dq (fs.lookup f) (mA f))/\PySem.Within mA (fs.map (·.1))/\fs.length<=1000/\H dx=some (.own a):=by
 obtain ⟨d,z,ne,ob,mA,n,r,q⟩:=(show BI P w H h a (.ins C dx fs) from hok a _ e)
 exact ⟨mA,⟨ob,n,ne⟩,r,q,z,d⟩
end
structure Bn (K:PySem.W.Frag) (C:Addr):Prop where
 pg:PySem.W.plainGet K C Str.empty=true
 hd:PySem.W.hasDictIn K C=true
 po:PySem.W.plainOver K C=true
 sa:PySem.W.findIn K (.ref C) "__setattr__" = some (some (.builtin "object.__setattr__"))
theorem Bn.get {K:PySem.W.Frag} {C:Addr} (c:Bn K C) (f:Str):PySem.W.plainGet K C f=true:=c.pg
def Ao (K:PySem.W.Frag) (C:Addr) (f:Str):Prop:=PySem.W.findIn K (.ref C) f=some none
theorem Ao.taker {K:PySem.W.Frag} {C:Addr} {f:Str} (n:Ao K C f):PySem.W.takerIn K C f=some none:=by
 unfold PySem.W.takerIn
 rw [show PySem.W.findIn K (.ref C) f=some none from n]
 rfl
structure GX (K:PySem.W.Frag) (C:Addr) (m:Str) (f:Addr):Prop where
 at_:PySem.W.findIn K (.ref C) m=some (some (.ref f))
 fn:PySem.W.isFn K (.ref f)=true
 kp:PySem.W.keepIn K (.ref f)=true
section
variable {X:Cx} {pins:List (Addr×Obj)} {σ:St} {H:Hp} {s:Shared} {a C dx:Addr} {fs:List (Str×V)} {f:Str} {v:V} {A:Around} {E:Value->Shared->Prop}
theorem X8 {b:Bool} {Q:Value->Shared->Prop} (I:Inv X pins σ H s) (e:H a=some (.ins C dx fs)) (c:Bn X.K C) (n:Ao X.K C f) (l:fs.lookup f=some v)
  (h:∀ u s',Inv X pins σ H s'->AN v u->Q u s'):wpAny (model X.prog X.w) A (getAttr (.ref a) f b) Q E s:=by
 obtain ⟨mA,O,r,_,_,_⟩:=Ie I.hok e
 obtain ⟨u,hu,ru⟩:=Dq.some_of (v:=v) (o:=mA f) (by rw [<- l]; exact r f)
 exact Ya I.kIn O (c.get f) c.hd n hu (Pk ru) (h u _ (I.tok _) ru)
theorem LR {m:Str} {g:Addr} {pl:Sem Bool} {Q:Value×List Value->Shared->Prop} (I:Inv X pins σ H s) (e:H a=some (.ins C dx fs)) (c:Bn X.K C) (k:GX X.K C m g) (l:fs.lookup m=none)
  (h:Q (.ref g,[.ref a]) s):wpAny (model X.prog X.w) A (getMethod (.ref a) m pl) Q E s:=by
 obtain ⟨mA,O,r,_,_,_⟩:=Ie I.hok e
 have hn:mA m=none:=Dq.none_of (by rw [<- l]; exact r m)
 exact X9 I.kIn O (c.get m) k.at_ k.fn hn h
theorem NW {y:V} {u:Value} {Q:Unit->Shared->Prop} (I:Inv X pins σ H s) (e:H a=some (.ins C dx fs)) (c:Bn X.K C) (n:Ao X.K C f) (hl:fs.length<1000) (ry:AN y u)
  (h:∀ s',Inv X pins σ (Ap H a (.ins C dx (Cg f y fs))) s'->Q () s'):wpAny (model X.prog X.w) A (setAttr (.ref a) f u) Q E s:=by
 obtain ⟨mA,O,r,wi,_,ho⟩:=Ie I.hok e
 have hz:(fs.map (·.1)).length<=sizeLine:=by rw [List.length_map,sizeLine_eq]; omega
 refine Sw I.kIn O c.sa c.po n.taker c.hd wi hz λh' O' sb=>h _ ?_
 have hd:∃ o,h'.get? dx=some o:=let ⟨o,_,_,e',_⟩:=O'.ns; ⟨o,e'⟩
 refine I.write (x:=a) (e:=dx) (by rw [e]; exact True.intro) (.inr ho) (λb q hb z=>(sb.2 b hb).trans z) hd ?_
 refine ⟨by rw [AB O.ne]; exact ho,?_,O.ne,O'.obj,_,O'.ns,λg=>?_,λg hg=>?_⟩
 ·have:=OX f y fs; omega
 ·show Dq ((Cg f y fs).lookup g) (if g=f then some u else mA g)
  rw [OV]
  by_cases q:g=f
  ·rw [if_pos q,if_pos q]; exact ry
  ·rw [if_neg q,if_neg q]; exact r g
 ·by_cases q:g=f
  ·rw [q]; exact (LD f y fs).1
  ·refine (LD f y fs).2 g (wi g λz=>hg ?_)
   show (if g=f then some u else mA g)=none
   rw [if_neg q]; exact z
theorem Inv.made (I:Inv X pins σ H s):Inv X pins σ (Ap (Ap H s.heap.objs.size (.own (s.heap.objs.size+1))) (s.heap.objs.size+1) (.ins C s.heap.objs.size []))
  { s with heap:=(s.heap.push PySem.W.emptyDict).push (PySem.W.instObj C s.heap.objs.size) }:=by
 have e1:(s.heap.push PySem.W.emptyDict).get? s.heap.objs.size=some PySem.W.emptyDict:=Heap.get?_push_size s.heap rfl
 have e2:((s.heap.push PySem.W.emptyDict).push (PySem.W.instObj C s.heap.objs.size)).get? (s.heap.objs.size+1)=some (PySem.W.instObj C s.heap.objs.size):=by
  have:=Heap.get?_push_size (s.heap.push PySem.W.emptyDict) (o:=PySem.W.instObj C s.heap.objs.size) rfl
  rwa [Heap.size_push] at this
 have e3:(s.heap.push PySem.W.emptyDict).Ns s.heap.objs.size (λ_=>none):=⟨PySem.W.emptyDict,#[],_,e1,rfl,(λe he=>absurd he (by simp)),λ_=>rfl⟩
 have I1:=I.laid (a:=s.heap.objs.size) (o:=.own (s.heap.objs.size+1)) (h':=s.heap.push PySem.W.emptyDict) (t':=s.toks) (λb u q=>Heap.get?_push_of_some _ q) (Nat.le_refl _) ⟨_,e1⟩
 refine I1.laid (a:=s.heap.objs.size+1) (o:=.ins C s.heap.objs.size []) (t':=s.toks) (λb u q=>Heap.get?_push_of_some _ q) (Nat.le_of_eq (Heap.size_push _ _)) ?_
 have ne:s.heap.objs.size≠s.heap.objs.size+1:=Nat.ne_of_lt (Nat.lt_succ_self _)
 refine ⟨by rw [AB ne,AW],Nat.zero_le _,ne,e2,λ_=>none,(Heap.Ns1.of_empty e3).at λo q=>Heap.get?_push_of_some _ q,λ_=>True.intro,λy hy=>absurd rfl hy⟩
theorem Qt {prog:Program} {w:World} {env:Env} {e:Expr} {f:Str} {pos:Pos} {s:Shared} {Q:Value->Shared->Prop} (hb:attributeBase e f env (eval e env)=eval e env)
  (h:wpAny (model prog w) A (eval e env) (λo s₁=>wpAny (model prog w) A (getAttr o f true) Q E s₁) E s):wpAny (model prog w) A (eval (.Attribute e f pos) env) Q E s:=
 Attribute_any_ h (by rw [arm_eval_Attribute,hb])
end
def RS (K:PySem.W.Frag) (ta:TE) (f:Str):TE:=λσ H Q=>ta σ H λx H1=>∃ a C dx fs v,x=.ref a/\H1 a=some (.ins C dx fs)/\Bn K C/\Ao K C f/\fs.lookup f=some v/\Q v H1
section
variable {X:Cx} {o e value:Expr} {f:Str} {pos pos' tpos:Pos} {ta tv:TE}
theorem U3 (he:PE X e ta) (hb:attributeBase e f X.env (eval e X.env)=eval e X.env):PE X (.Attribute e f pos) (RS X.K ta f):=by
 intro pins s σ H Q I h
 refine Qt hb (Al (he pins s σ H _ I h) λu s1 ⟨x,H1,I1,rx,a,C,dx,fs,v,ex,ea,c,n,l,q⟩=>?_)
 subst ex
 obtain rfl:u=Value.ref a:=rx
 exact X8 I1 ea c n l λu' s2 I2 ru=>⟨v,H1,I2,ru,q⟩
end
section
variable {X:Cx} {pins:List (Addr×Obj)} {σ:St} {H:Hp} {s:Shared} {A:Around} {E:Value->Shared->Prop} {Q:Value->Shared->Prop} {c:Value} {b:Bool}
inductive Dp (K:PySem.W.Frag) (H:Hp):V->Value->Prop where
 | non:Dp K H .non (.type "NoneType")
 | bl (x:Bool):Dp K H (.bl x) (.type "bool")
 | int (i:Int):Dp K H (.int i) (.type "int")
 | str (x:Str):Dp K H (.str x) (.type "str")
 | flt (x:UInt64):Dp K H (.flt x) (.type "float")
 | lst {a:Addr} {xs:List V} (e:H a=some (.lst xs)):Dp K H (.ref a) (.type "list")
 | frz {a:Addr} {o:Obj} {xs:List V} (e:H a=some (.frz o (.lst xs))):Dp K H (.ref a) (.type "list")
 | tup {a:Addr} {xs:List V} (e:H a=some (.tup xs)):Dp K H (.ref a) (.type "tuple")
 | dK {a:Addr} {kvs:List (AS×V)} (e:H a=some (.dK kvs)):Dp K H (.ref a) (.type "dict")
 | dT {a:Addr} {kvs:List (List AS×V)} (e:H a=some (.dT kvs)):Dp K H (.ref a) (.type "dict")
 | ins {a C dx:Addr} {fs:List (Str×V)} (e:H a=some (.ins C dx fs)) (cl:Bn K C) (ha:PySem.W.findIn K (.ref C) "__class__" = some (some (.builtin "object.__class__")))
   (hn:PySem.W.specialIn K (.builtin "object.__class__") "__get__" = some (some (.builtin "getset_descriptor.__get__"))) (htk:PySem.W.takesIn K (.builtin "object.__class__")=some true)
   (hm:PySem.W.mroIn K C (.type "object")=some true):Dp K H (.ref a) (.ref C)
theorem Pf {x:V} {u t:Value} (I:Inv X pins σ H s) (rx:AN x u) (ty:Dp X.K H x t) (e:PySem.W.kitOne X.K t c=some b) (h:∀ tk,Q (.bool b) { s with toks:=tk }) :
  wpAny (model X.prog X.w) A (call (.builtin "isinstance") [u,c]) Q E s:=by
 cases ty with
 | non=>cases (show u=Value.none from rx); exact PySem.W.kia_one PySem.W.kitx_none I.kIn True.intro e (λz=>nomatch z) h
 | bl y=>cases (show u=Value.bool y from rx); exact PySem.W.kia_one PySem.W.kitx_bool I.kIn True.intro e (λz=>nomatch z) h
 | int i=>obtain ⟨t,q⟩:=(show ∃ t,u=Value.int i t from rx); cases q; exact PySem.W.kia_one PySem.W.kitx_int I.kIn True.intro e (λz=>nomatch z) h
 | str y=>obtain ⟨t,q⟩:=(show ∃ t,u=Value.str y t from rx); cases q; exact PySem.W.kia_one PySem.W.kitx_str I.kIn True.intro e (λz=>nomatch z) h
 | flt y=>obtain ⟨t,q⟩:=(show ∃ t,u=Value.float y t from rx); cases q; exact PySem.W.kia_one PySem.W.kitx_float I.kIn True.intro e (λz=>nomatch z) h
 | @lst a xs ea=>
  cases (show u=Value.ref a from rx)
  obtain ⟨_,_,n,_,h1⟩:=(show BI X.prog X.w H s.heap a (.lst xs) from I.hok a _ ea)
  exact PySem.W.kia_one PySem.W.kitx_list I.kIn ⟨_,h1,rfl⟩ e (λz=>nomatch z) h
 | @frz a ob xs ea=>
  cases (show u=Value.ref a from rx)
  obtain ⟨_,_,_,n,_,h1⟩:=(show BI X.prog X.w H s.heap a (.frz ob (.lst xs)) from I.hok a _ ea)
  exact PySem.W.kia_one PySem.W.kitx_list I.kIn ⟨_,h1,rfl⟩ e (λz=>nomatch z) h
 | @tup a xs ea=>
  cases (show u=Value.ref a from rx)
  obtain ⟨_,_,_,p⟩:=(show BI X.prog X.w H s.heap a (.tup xs) from I.hok a _ ea)
  obtain ⟨o,h1,h2,_⟩:=p.t
  exact PySem.W.kia_one PySem.W.kitx_tuple I.kIn ⟨o,h1,h2⟩ e (λz=>nomatch z) h
 | @dK a kvs ea=>
  cases (show u=Value.ref a from rx)
  obtain ⟨_,_,vs,_,p⟩:=(show BI X.prog X.w H s.heap a (.dK kvs) from I.hok a _ ea)
  obtain ⟨o,es,ep,h1,h2,_⟩:=p
  exact PySem.W.kia_one PySem.W.kitx_dict I.kIn ⟨o,h1,h2.1⟩ e (λz=>nomatch z) h
 | @dT a kvs ea=>
  cases (show u=Value.ref a from rx)
  obtain ⟨_,_,xs,_,o,es,ep,h1,h2,_⟩:=(show BI X.prog X.w H s.heap a (.dT kvs) from I.hok a _ ea)
  exact PySem.W.kia_one PySem.W.kitx_dict I.kIn ⟨o,h1,h2.1⟩ e (λz=>nomatch z) h
 | @ins a C dx fs ea cl ha hn htk hm=>
  cases (show u=Value.ref a from rx)
  obtain ⟨mA,O,_⟩:=Ie I.hok ea
  obtain ⟨od,J,_⟩:=O.look
  exact PySem.W.kia_one (PySem.W.kitx_own (cl.get _) cl.hd ha hn htk hm) I.kIn J e (λz=>nomatch z) h
end
end L2
namespace L2
open PySem PySem.Spec PyProof.Rows
structure AM (k:Nat) (A:Around):Prop where
 hd:A.handled=none
 dp:A.depth+3*k+5<recursionLimit
 un:A.units+16*k+200<cLine
theorem AM.mono {j k:Nat} {A:Around} (r:AM k A) (h:j<=k):AM j A:=⟨r.hd,by have:=r.dp; omega,by have:=r.un; omega⟩
theorem AM.deeper {k:Nat} {A:Around} (r:AM (k+1) A) (env:Env):AM k (A.deeper env):=
 ⟨r.hd,by have:=r.dp; show A.depth+1+3*k+5<_; omega,by have:=r.un; show A.units+3+16*k+200<_; omega⟩
theorem Xl {A:Around} {C:Addr} {us:List Value} {kw:List (Str×Value)}:(A.under (.builtin "type.__call__" ⟨.ref C::us,kw⟩)).depth=A.depth+1:=by
 first | rfl | simp [Around.under,Code.weight,Code.isCreation,Code.isGuard,Code.isCaller,Code.frames,Code.isFrame,guardIds]
theorem Xk {A:Around} {C:Addr} {us:List Value} {kw:List (Str×Value)}:(A.under (.builtin "type.__call__" ⟨.ref C::us,kw⟩)).units=A.units+1:=by
 first | rfl | simp [Around.under,Code.cUnits,Code.frames,Code.isFrame]
theorem AM.make {k:Nat} {A:Around} (r:AM (k+1) A) (C:Addr) (us:List Value) (kw:List (Str×Value)):AM k (A.under (.builtin "type.__call__" ⟨.ref C::us,kw⟩)):=
 ⟨r.hd,by have:=r.dp; rw [Xl]; omega,by have:=r.un; rw [Xk]; omega⟩
theorem AM.depth {k:Nat} {A:Around} (r:AM k A):A.depth<recursionLimit:=by have:=r.dp; omega
theorem AM.units {k:Nat} {A:Around} (r:AM k A):A.units+64<cLine:=by have:=r.un; omega
def Nh:TA:=λ_ H Q=>Q [] H
def RW (ta:TE) (tr:TA):TA:=λσ H Q=>ta σ H λx H1=>tr σ H1 λxs H2=>Q (x::xs) H2
section
variable {X:Cx} {e:Expr} {es:List Expr} {te:TE} {t:TA} {pos:Pos}
theorem DN:PA X [] Nh:=λ_ _ _ _ H Q I h=>Calls.spliced_nil ⟨[],H,I,.nil,h⟩
theorem Cq (ha:PE X e te) (hr:PA X es t) (hs:starEach (e::es) X.env=(false,eval e X.env)::starEach es X.env:=by rfl):PA X (e::es) (RW te t):=by
 intro pos pins s σ H Q I h
 rw [hs]
 show wpAny _ _ (spliced ((false,eval e X.env)::backTo pos (starEach es X.env))) _ _ s
 refine Calls.spliced_cons (Al (ha pins s σ H _ I h) λu s1 ⟨x,H1,I1,r1,q1⟩=>?_)
 exact Al (hr pos pins s1 σ H1 _ I1 q1) λus s2 ⟨xs,H2,I2,r2,q2⟩=>⟨x::xs,H2,I2,.cons r1 r2,q2⟩
def RC (t:TA):TE:=λσ H Q=>t σ H λxs H1=>xs.length<=sizeLine/\∀ p,H1 p=none->Q (.ref p) (Ap H1 p (.tup xs))
def RO (t:TA):TE:=λσ H Q=>t σ H λxs H1=>xs.length<=sizeLine/\∀ p,H1 p=none->Q (.ref p) (Ap H1 p (.lst xs))
theorem Ox {x1} (h:PA X es t):PE X (.Tuple es x1 pos) (RC t):=by
 intro pins s σ H Q I hq
 refine wpAny_Tuple_spliced (Al (h pos pins s σ H _ I hq) λus s1 ⟨xs,H1,I1,r,z,q⟩=>⟨by rw [<- r.length]; exact z,?_⟩)
 have hf:H1 s1.heap.objs.size=none:=I1.hok.fresh (Nat.le_refl _)
 refine ⟨.ref s1.heap.objs.size,Ap H1 s1.heap.objs.size (.tup xs),I1.laid (t':=s1.toks) (λb u e=>Heap.get?_push_of_some _ e) (Nat.le_refl _) ?_,rfl,q _ hf⟩
 exact ⟨z,us,r,DF.new _ _⟩
theorem Lg (h:PA X es t):PE X (.List es pos) (RO t):=by
 intro pins s σ H Q I hq
 refine wpAny_List_spliced (Al (h pos pins s σ H _ I hq) λus s1 ⟨xs,H1,I1,r,z,q⟩=>⟨by rw [<- r.length]; exact z,?_⟩)
 have hf:H1 s1.heap.objs.size=none:=I1.hok.fresh (Nat.le_refl _)
 refine ⟨.ref s1.heap.objs.size,Ap H1 s1.heap.objs.size (.lst xs),I1.laid (t':=s1.toks) (λb u e=>Heap.get?_push_of_some _ e) (Nat.le_refl _) ?_,rfl,q _ hf⟩
 exact ⟨z,us,0,r,Heap.get?_push_size _ rfl⟩
end
abbrev Sp:=List V->Hp->VK->XK->Prop
abbrev Cz:=List Env->Hp->Shared->XK->Value->Shared->Prop
structure Et (P:Program) (w:World) (K:PySem.W.Frag) (mg:Str->Option Value) (base:Heap) (A:Around) (outer:List Env) (s:Shared) (H:Hp):Prop where
 frames:A.frames=some outer
 mod:Mod K mg base
 bs:∀ b o,base.get? b=some o->s.heap.get? b=some o/\H b=none
 bsz:base.objs.size<=s.heap.objs.size
 funs:s.heap.FunFrames base outer
 frf:∀ b∈AZ outer,H b=none
 hok:Bg P w H s.heap
 bare:AllBare s.gens
def CE (outer:List Env) (P:Program) (w:World) (H:Hp) (s:Shared) (Q:VK) (u:Value) (s':Shared):Prop:=
 ∃ v H',s'.os=s.os/\AllBare s'.gens/\Un (AZ outer) [] H H' s.heap s'.heap/\Bg P w H' s'.heap/\AN v u/\Q v H'
def CR (CX:Cz) (outer:List Env) (P:Program) (w:World) (H:Hp) (s:Shared) (Q:VK) (E:XK) (r:Result) (s':Shared):Prop:=
 match r with
 | .ok (.ret u)=>CE outer P w H s Q u s'
 | .ok _=>False
 | .error e=>CX outer H s E e s'
structure AC (P:Program) (w:World) (K:PySem.W.Frag) (mg:Str->Option Value) (base:Heap) (CX:Cz) (k:Nat) (f:Addr) (fd:FuncData) (ps:List Str) (sp:Sp):Prop where
 len:∀ vs H Q E,sp vs H Q E->vs.length=ps.length
 run:∀ (A:Around) (outer:List Env) (s:Shared) (H:Hp) (args:Args) (us:List Value) (vs:List V) (Q:VK) (E:XK),AM k A->Et P w K mg base A outer s H->BindsTo s fd args (ps.zip us)->Ar vs us->sp vs H Q E->
  codeAny (model P w) A (.call (.ref f) args) (CR CX outer P w H s Q E) s
theorem AC.mono {P:Program} {w:World} {K:PySem.W.Frag} {mg:Str->Option Value} {base:Heap} {CX:Cz} {j k:Nat} {f:Addr} {fd:FuncData} {ps:List Str} {sp:Sp} (F:AC P w K mg base CX j f fd ps sp) (h:j<=k) :
  AC P w K mg base CX k f fd ps sp:=⟨F.len,λA outer s H args us vs Q E hr=>F.run A outer s H args us vs Q E (hr.mono h)⟩
theorem Et.make {P:Program} {w:World} {K:PySem.W.Frag} {mg:Str->Option Value} {base:Heap} {A:Around} {outer:List Env} {s:Shared} {H:Hp} (e:Et P w K mg base A outer s H) (C:Addr) (us:List Value) (kw:List (Str×Value)) :
  Et P w K mg base (A.under (.builtin "type.__call__" ⟨.ref C::us,kw⟩)) outer s H:=⟨by first | exact e.frames | (simpa [Around.under,Code.envs,Code.isFrame,pushEnvs] using e.frames),e.mod,e.bs,e.bsz,e.funs,e.frf,e.hok,e.bare⟩
section
variable {X:Cx} {pins:List (Addr×Obj)} {σ:St} {H:Hp} {s s':Shared}
theorem Inv.env0 (I:Inv X pins σ H s):Et X.prog X.w X.K X.mg X.base X.A X.stack s H:=
 ⟨I.ok.frames,I.ok.mod,I.bs,Nat.le_trans I.ok.bsz I.sz,I.stack,I.stkFree,I.hok,I.bare⟩
theorem Inv.after {Q:VK} {u:Value} (I:Inv X pins σ H s) (h:CE X.stack X.prog X.w H s Q u s'):EP X pins σ Q u s':=by
 obtain ⟨v,H',os,bare,un,hok,r,q⟩:=h
 obtain ⟨hh,g,d,t,os'⟩:=s'
 obtain rfl:os'=s.os:=os
 exact ⟨v,H',I.call (h':=hh) (g':=g) (d':=d) (t':=t) (ch:=[]) un hok bare (λb z=>absurd z (by simp)),r,q⟩
end
def RY (sp:Sp) (dvs:List V) (E:XK) (t:TA):TE:=λσ H Q=>t σ H λvs H1=>sp (vs++dvs) H1 Q E
def Ni (C:Addr) (m:Str) (sp:Sp) (dvs:List V) (E:XK) (ta:TE) (t:TA):TE:=λσ H Q=>ta σ H λx H1=>∃ a dx fs,x=.ref a/\H1 a=some (.ins C dx fs)/\fs.lookup m=none /\
 t σ H1 λvs H2=>sp (x::(vs++dvs)) H2 Q E
def RN (C:Addr) (sp:Sp) (dvs:List V) (E:XK) (t:TA):TE:=λσ H Q=>t σ H λvs H1=>∀ x dx,H1 x=none->H1 dx=none->dx≠x->
 sp (.ref x::(vs++dvs)) (Ap (Ap H1 dx (.own x)) x (.ins C dx [])) (λv H2=>v=.non/\Q (.ref x) H2) E
def Binds (K:PySem.W.Frag) (fd:FuncData) (ps:List Str) (ds:List Value):Prop:=
 ∀ (s:Shared) (us:List Value),K.In s.heap->(us++ds).length=ps.length->BindsTo s fd ⟨us,[]⟩ (ps.zip (us++ds))
theorem Binds.all {K:PySem.W.Frag} {fd:FuncData} {ps:List Str} (h:∀ us:List Value,us.length=ps.length->bindArgs fd ⟨us,[]⟩=pure (ps.zip us)):Binds K fd ps []:=λs us _ hl=>by
 rw [List.append_nil] at hl ⊢
 exact .of_eq (h us hl)
def EK (CX:Cz) (X:Cx) (E:XK):Prop:=∀ (pins:List (Addr×Obj)) (σ:St) (H:Hp) (s:Shared) (e:Value) (s':Shared),Inv X pins σ H s->CX X.stack H s E e s'->X.xe e s'
section
variable {X:Cx} {CX:Cz} {k:Nat} {f C:Addr} {fd:FuncData} {ps:List Str} {sp:Sp} {dvs:List V} {ds:List Value} {E:XK} {x m:Str} {p pos apos:Pos} {e o:Expr} {es:List Expr} {ta:TE} {t:TA}
theorem HD {pins:List (Addr×Obj)} {σ:St} {H:Hp} {s:Shared} {Q:VK} {us:List Value} {vs:List V} (F:AC X.prog X.w X.K X.mg X.base CX k f fd ps sp) (hr:AM k X.A) (hb:Binds X.K fd ps ds) (hd:Ar dvs ds) (hx:EK CX X E)
  (I:Inv X pins σ H s) (r:Ar vs us) (h:sp (vs++dvs) H Q E):wpAny (model X.prog X.w) X.A (call (.ref f) us) (EP X pins σ Q) X.xe s:=by
 have r2:Ar (vs++dvs) (us++ds):=r.append hd
 have hl:(us++ds).length=ps.length:=by rw [<- r2.length]; exact F.len _ _ _ _ h
 refine wpAny_call (codeAny_mono (F.run X.A X.stack s H ⟨us,[]⟩ (us++ds) (vs++dvs) Q E hr I.env0 (hb s us I.kIn hl) r2 h) λr s' hq=>?_)
 cases r with
 | error e=>exact hx pins σ H s e s' I hq
 | ok fl=>
  cases fl with
  | ret u=>exact I.after hq
  | next=>exact False.elim hq
  | brk=>exact False.elim hq
  | cont=>exact False.elim hq
theorem U5 (F:AC X.prog X.w X.K X.mg X.base CX k f fd ps sp) (hr:AM k X.A) (hg:Gl X x) (hm:X.mg x=some (.ref f)) (hk:PySem.W.keepIn X.K (.ref f)=true) (hb:Binds X.K fd ps ds) (hd:Ar dvs ds) (hx:EK CX X E)
  (ha:PA X (e::es) t) (hdb:(x==("__debug__" : Str))=false:=by decide) (he:starEach (e::es) X.env=(false,eval e X.env)::starEach es X.env:=by rfl) (hpl:(backTo pos (starEach es X.env)).any (·.1)=false:=by rfl) :
  PE X (.Call (.Name x p) (e::es) [] pos) (RY sp dvs E t):=by
 intro pins s σ H Q I h
 refine wpAny_Call_Name_kw (DQ I hg hm ?_ hdb)
 refine PySem.W.callWith_K (h₀:=X.base) I.ok.mod.kin hk (Al (ha pos pins s σ H _ I h) λus s1 ⟨vs,H1,I1,r,q⟩=>⟨I1.kIn,?_⟩) he hpl
 exact HD F hr hb hd hx I1 r q
theorem U0 {pl:Sem Bool} (he:PE X o ta) (c:Bn X.K C) (hm:GX X.K C m f) (F:AC X.prog X.w X.K X.mg X.base CX k f fd ps sp) (hr:AM k X.A) (hb:Binds X.K fd ps ds) (hd:Ar dvs ds) (hx:EK CX X E) (ha:PA X (e::es) t)
  (hst:starEach (e::es) X.env=(false,eval e X.env)::starEach es X.env:=by rfl) (hpl:(backTo pos (starEach es X.env)).any (·.1)=false:=by rfl)
  (ht:eval (.Call (.Attribute o m apos) (e::es) [] pos) X.env=(do
   let ov <- eval o X.env
   standAt apos.atName
   let (f,first) <- holding [ov] (getMethod ov m pl)
   callWith pos f first (backTo pos (starEach (e::es) X.env)) (backToKw pos (keywordEach [] X.env))):=by rfl) :
  PE X (.Call (.Attribute o m apos) (e::es) [] pos) (Ni C m sp dvs E ta t):=by
 intro pins s σ H Q I h
 refine PySem.W.methodCall_KW (pl:=pl) (Al (he pins s σ H _ I h) λu s1 ⟨x,H1,I1,rx,a,dx,fs,ex,ea,l,q⟩=>?_) ht
 subst ex
 obtain rfl:u=Value.ref a:=rx
 refine LR I1 ea c hm l ?_
 refine PySem.W.callWith_K (first:=[.ref a]) (h₀:=X.base) I.ok.mod.kin hm.kp (Al (ha pos pins s1 σ H1 _ I1 q) λus s2 ⟨vs,H2,I2,r,q2⟩=>⟨I2.kIn,?_⟩) hst hpl
 exact HD (us:=.ref a::us) (vs:=.ref a::vs) F hr hb hd hx I2 (.cons rfl r) q2
theorem UZ {pl:Sem Bool} (he:PE X o ta) (c:Bn X.K C) (hm:GX X.K C m f) (F:AC X.prog X.w X.K X.mg X.base CX k f fd ps sp) (hr:AM k X.A) (hb:Binds X.K fd ps ds) (hd:Ar dvs ds) (hx:EK CX X E)
  (ht:eval (.Call (.Attribute o m apos) [] [] pos) X.env=(do
   let ov <- eval o X.env
   standAt apos.atName
   let (f,first) <- holding [ov] (getMethod ov m pl)
   callWith pos f first (backTo pos (starEach [] X.env)) (backToKw pos (keywordEach [] X.env))):=by rfl) :
  PE X (.Call (.Attribute o m apos) [] [] pos) (Ni C m sp dvs E ta Nh):=by
 intro pins s σ H Q I h
 refine PySem.W.methodCall_KW (pl:=pl) (Al (he pins s σ H _ I h) λu s1 ⟨x,H1,I1,rx,a,dx,fs,ex,ea,l,q⟩=>?_) ht
 subst ex
 obtain rfl:u=Value.ref a:=rx
 refine LR I1 ea c hm l ?_
 exact PySem.W.callWith_K0 (first:=[.ref a]) I1.kIn hm.kp (HD (us:=[.ref a]) (vs:=[.ref a]) F hr hb hd hx I1 (.cons rfl .nil) q)
structure Mk (K:PySem.W.Frag) (C f:Addr):Prop where
 makes:PySem.W.makesIn K C=true
 init:PySem.W.findIn K (.ref C) "__init__" = some (some (.ref f))
 fn:PySem.W.isFn K (.ref f)=true
 kp:PySem.W.keepIn K (.ref C)=true
theorem TL {pins:List (Addr×Obj)} {σ:St} {H:Hp} {s:Shared} {Q:VK} {us:List Value} {vs:List V} (M:Mk X.K C f) (F:AC X.prog X.w X.K X.mg X.base CX k f fd ps sp) (hr:AM (k+1) X.A) (hb:Binds X.K fd ps ds) (hd:Ar dvs ds)
  (hx:EK CX X E) (I:Inv X pins σ H s) (r:Ar vs us)
  (h:∀ x dx,H x=none->H dx=none->dx≠x->sp (.ref x::(vs++dvs)) (Ap (Ap H dx (.own x)) x (.ins C dx [])) (λv H2=>v=.non/\Q (.ref x) H2) E) :
  wpAny (model X.prog X.w) X.A (call (.ref C) us) (EP X pins σ Q) X.xe s:=by
 have hq:=h (s.heap.objs.size+1) s.heap.objs.size (I.hok.fresh (Nat.le_succ _)) (I.hok.fresh (Nat.le_refl _)) (Nat.ne_of_lt (Nat.lt_succ_self _))
 have I2:=Inv.made (C:=C) I
 have r2:Ar (V.ref (s.heap.objs.size+1)::(vs++dvs)) (Value.ref (s.heap.objs.size+1)::(us++ds)):=.cons rfl (r.append hd)
 have hl:(Value.ref (s.heap.objs.size+1)::us++ds).length=ps.length:=by
  have e:=r2.length
  rw [F.len _ _ _ _ hq] at e
  exact e.symm
 refine wpAny_call (OS (f:=f) I.kIn M.makes M.init (beq_iff_eq.mp M.fn) (codeAny_mono (F.run _ X.stack _ _ ⟨Value.ref (s.heap.objs.size+1)::us,[]⟩ (Value.ref (s.heap.objs.size+1)::(us++ds)) _ _ E (hr.make C us [])
  (I2.env0.make C us []) (hb _ (Value.ref (s.heap.objs.size+1)::us) I2.kIn hl) r2 hq) λr s' hq'=>?_))
 cases r with
 | error e=>exact hx pins σ _ _ e s' I2 hq'
 | ok fl=>
  cases fl with
  | ret u=>
   obtain ⟨v,H',I3,rv,ev,q3⟩:=I2.after hq'
   subst ev
   exact ⟨rv,⟨V.ref (s.heap.objs.size+1),H',I3,rfl,q3⟩⟩
  | next=>exact False.elim hq'
  | brk=>exact False.elim hq'
  | cont=>exact False.elim hq'
theorem U1 (M:Mk X.K C f) (F:AC X.prog X.w X.K X.mg X.base CX k f fd ps sp) (hr:AM (k+1) X.A) (hg:Gl X x) (hm:X.mg x=some (.ref C)) (hb:Binds X.K fd ps ds) (hd:Ar dvs ds) (hx:EK CX X E)
  (ha:PA X (e::es) t) (hdb:(x==("__debug__" : Str))=false:=by decide) (he:starEach (e::es) X.env=(false,eval e X.env)::starEach es X.env:=by rfl) (hpl:(backTo pos (starEach es X.env)).any (·.1)=false:=by rfl) :
  PE X (.Call (.Name x p) (e::es) [] pos) (RN C sp dvs E t):=by
 intro pins s σ H Q I h
 refine wpAny_Call_Name_kw (DQ I hg hm ?_ hdb)
 refine PySem.W.callWith_K (h₀:=X.base) I.ok.mod.kin M.kp (Al (ha pos pins s σ H _ I h) λus s1 ⟨vs,H1,I1,r,q⟩=>⟨I1.kIn,?_⟩) he hpl
 exact TL M F hr hb hd hx I1 r q
end
section
variable {X:Cx} {CX:Cz} {k:Nat} {f C:Addr} {fd:FuncData} {ps ks:List Str} {sp:Sp} {E:XK} {x m:Str} {p pos apos kpos:Pos} {e o:Expr} {es:List Expr} {kws:List Keyword} {te ta:TE} {t tk:TA} {nm:Option Str}
variable {g:List Value->List Value->List Value} {gV:List V->List V->List V}
end
structure Ax (N P:List Str) (sc:Scope):Prop where
 kind:sc.kind=.function
 co:sc.isCoroutine=false
 gen:sc.isGenerator=false
 nd:N.Nodup
 pre:N.take P.length=P
 par:∀ x∈P,sc.names.lookup x=some .local\/sc.names.lookup x=some .cell
 nofree:∀ y∈sc.names,y.2≠.free
theorem Ql {kindOf:Str->Option NameKind} {x:Str}:∀ {binds:List (Str×Value)} {m:Str->Option Value},(∀ v,(x,v)∉binds)->bindL kindOf binds m x=m x
 | [],_,_=>rfl
 | (n,v)::r,m,h=>by
  unfold bindL
  rw [Ql λw hw=>h w (List.mem_cons_of_mem _ hw)]
  split
  ·have:x≠n:=by rintro rfl; exact h v List.mem_cons_self
   simp [this]
  ·rfl
theorem Qn {kindOf:Str->Option NameKind} {x:Str}:∀ {binds:List (Str×Value)} {m:Str->Option Value},(∀ v,(x,v)∉binds)->bindC kindOf binds m x=m x
 | [],_,_=>rfl
 | (n,v)::r,m,h=>by
  unfold bindC
  rw [Qn λw hw=>h w (List.mem_cons_of_mem _ hw)]
  split
  ·rfl
  ·have:x≠n:=by rintro rfl; exact h v List.mem_cons_self
   simp [this]
theorem Qm {kindOf:Str->Option NameKind} {x:Str} {v:Value}:∀ {P:List Str} {vs:List Value} {i:Nat} {m:Str->Option Value},P.Nodup->P[i]?=some x->vs[i]?=some v->kindOf x=some .local->
  bindL kindOf (P.zip vs) m x=some v
 | [],_,_,_,_,h,_,_=>by simp at h
 | _::_,[],_,_,_,_,h,_=>by simp at h
 | p::P,w::vs,0,m,nd,h1,h2,hk=>by
  simp at h1 h2; subst h1; subst h2
  show bindL kindOf ((p,w)::P.zip vs) m p=_
  unfold bindL
  rw [Ql λv hv=>(List.nodup_cons.mp nd).1 (List.of_mem_zip hv).1,if_pos hk]
  simp
 | p::P,w::vs,i+1,m,nd,h1,h2,hk=>by
  show bindL kindOf ((p,w)::P.zip vs) m x=_
  unfold bindL
  exact Qm (i:=i) (List.nodup_cons.mp nd).2 (by simpa using h1) (by simpa using h2) hk
theorem Qo {kindOf:Str->Option NameKind} {x:Str} {v:Value}:∀ {P:List Str} {vs:List Value} {i:Nat} {m:Str->Option Value},P.Nodup->P[i]?=some x->vs[i]?=some v->kindOf x≠some .local->
  bindC kindOf (P.zip vs) m x=some v
 | [],_,_,_,_,h,_,_=>by simp at h
 | _::_,[],_,_,_,_,h,_=>by simp at h
 | p::P,w::vs,0,m,nd,h1,h2,hk=>by
  simp at h1 h2; subst h1; subst h2
  show bindC kindOf ((p,w)::P.zip vs) m p=_
  unfold bindC
  rw [Qn λv hv=>(List.nodup_cons.mp nd).1 (List.of_mem_zip hv).1,if_neg hk]
  simp
 | p::P,w::vs,i+1,m,nd,h1,h2,hk=>by
  show bindC kindOf ((p,w)::P.zip vs) m x=_
  unfold bindC
  exact Qo (i:=i) (List.nodup_cons.mp nd).2 (by simpa using h1) (by simpa using h2) hk
def start (N:List Str) (vs:List V):St:=vs.map some++List.replicate (N.length-vs.length) none
def CZ (CX:Cz) (P:Program) (w:World) (K:PySem.W.Frag) (mg:Str->Option Value) (base:Heap) (N:List Str) (qual:Str) (scope:Scope) (f:Addr) (cd:Value) (A:Around) (outer:List Env) (s:Shared) (H:Hp) (E:XK):Cx where
 prog:=P
 w:=w
 K:=K
 mg:=mg
 base:=base
 A:=A.deeper (envOfC qual scope s.heap.objs.size f cd)
 N:=N
 s₀:=s
 H₀:=H
 env:=envOfC qual scope s.heap.objs.size f cd
 outer:=outer
 stack:=envOfC qual scope s.heap.objs.size f cd::outer
 ex:=[]
 calm:=true
 fn:=λ_=>true
 pn:=[]
 xe:=λe s'=>wpAny (model P w) (A.deeper (envOfC qual scope s.heap.objs.size f cd)) (leaving (envOfC qual scope s.heap.objs.size f cd) e) (λ_ s''=>CX outer H s E e s'') (λe' s''=>CX outer H s E e' s'') s'
theorem Qh {sc:Scope} {n:Nat} {x:Str} (h:sc.names.lookup x=some .cell):∃ c,(cellsFrom n sc.names []).lookup x=some c:=by
 have q:=PySem.W.cellsFrom_some sc.names n [] (.inl h)
 exact Option.isSome_iff_exists.mp q
theorem Pj {CX:Cz} {P:Program} {w:World} {K:PySem.W.Frag} {mg:Str->Option Value} {base:Heap} {N ps:List Str} {qual:Str} {scope:Scope} {f:Addr} {cd:Value} {A:Around} {outer:List Env} {s s1:Shared} {H:Hp} {E:XK} {us:List Value} {vs:List V}
  (S:Ax N ps scope) (hd:A.handled=none) (e0:Et P w K mg base A outer s H) (hl:vs.length=ps.length) (r:Ar vs us)
  (x:InCallC s s.heap.objs.size (bindL (envOfC qual scope s.heap.objs.size f cd).kindOf (ps.zip us) λ_=>none) (cellsFrom (s.heap.objs.size+1) scope.names []) (bindC (envOfC qual scope s.heap.objs.size f cd).kindOf (ps.zip us) λ_=>none) s1) :
  Inv (CZ CX P w K mg base N qual scope f cd A outer s H E) [] (start N vs) H s1:=by
 have hpl:ps.length<=N.length:=by have:=congrArg List.length S.pre; rw [List.length_take] at this; omega
 obtain ⟨h1,tk,rfl,hk⟩:=x.done
 have noA:∀ b:Addr,b∉(CZ CX P w K mg base N qual scope f cd A outer s H E).ex:=λb z=>absurd (show b∈([]:List Addr) from z) (by simp)
 refine ⟨⟨e0.mod,S.kind,rfl,rfl,Nat.le_refl _,λy z c h1 h2=>?_,λy hy=>?_,λy c _ h=>?_,λ_=>hd,Around.frames_deeper e0.frames,.inr ⟨rfl,rfl⟩,λb z=>absurd z (noA b),e0.bs,e0.bsz,λb _ _=>noA b,λb z=>absurd z (noA b),e0.funs,e0.frf⟩,
  rfl,e0.bare,Un.kept hk,⟨_,x.toInCall.ns,λi y v h1 h2 h3=>?_⟩,λy c h=>⟨_,x.cell y c h⟩,e0.hok.fresh (Nat.le_refl _),λy c h=>?_,λp hp=>absurd (show p∈([]:List (Addr×Obj)) from hp) (by simp),e0.hok.kept hk,?_⟩
 ·exact name_of_addr x.apart (PySem.mem_of_lookup h1) (PySem.mem_of_lookup h2)
 ·have hy:scope.names.lookup y=some .cell\/scope.names.lookup y=some .free:=hy
  rcases hy with hy | hy
  ·exact Qh hy
  ·exact absurd rfl (S.nofree _ (PySem.mem_of_lookup hy))
 ·exact Nat.le_of_lt (x.above y c (PySem.mem_of_lookup h))
 ·have hi:i<vs.length:=by
   unfold start at h2
   by_cases hi:i<vs.length
   ·exact hi
   ·rw [List.getElem?_append_right (by simpa using hi)] at h2
    rw [List.getElem?_replicate] at h2
    split at h2 <;> cases h2
  have ha:vs[i]?=some v:=by
   unfold start at h2
   rw [List.getElem?_append_left (by simpa using hi),List.getElem?_map] at h2
   cases e:vs[i]? with
   | none=>rw [e] at h2; cases h2
   | some a=>rw [e] at h2; cases h2; rfl
  obtain ⟨u,hu,rv⟩:=r.get ha
  have hp:ps[i]?=some y:=by
   rw [<- S.pre,List.getElem?_take_of_lt wF]; exact h1
  have ndP:ps.Nodup:=by rw [<- S.pre]; exact S.nd.sublist (List.take_sublist _ _)
  refine ⟨u,rv,?_⟩
  rcases S.par y (List.mem_of_getElem? hp) with k | k
  ·exact .inl ⟨k,Qm ndP hp hu k⟩
  ·obtain ⟨c,e⟩:=Qh (n:=s.heap.objs.size+1) k
   refine .inr ⟨.inl k,c,e,?_⟩
   have q:=x.cell y c e
   rw [Qo ndP hp hu (by show scope.names.lookup y≠_; rw [k]; decide)] at q
   exact q
 ·exact e0.hok.fresh (Nat.le_of_lt (x.above y c (PySem.mem_of_lookup h)))
 ·unfold start
  show _=N.length
  rw [List.length_append,List.length_map,List.length_replicate]
  omega
theorem L0 {CX:Cz} {P:Program} {w:World} {K:PySem.W.Frag} {mg:Str->Option Value} {base:Heap} {k:Nat} {f:Addr} {name qual:Str} {params:Arguments} {body:List Stmt} {scope:Scope} {dV kV doc pm cdv ct oc:Value} {an od:Option Addr}
  {osl:Array (Option Value)} {N ps:List Str} {sp:Sp} (lk:K.lookup f=some ⟨oc,od,.func (PySem.W.fnOf name qual params body scope dV kV doc pm an cdv ct),osl⟩) (hcd:PySem.W.codeIn K cdv qual=true) (S:Ax N ps scope)
  (len:∀ vs H Q E,sp vs H Q E->vs.length=ps.length)
  (hbody:∀ (A:Around) (outer:List Env) (s:Shared) (H:Hp) (vs:List V) (Q:VK) (E:XK),AM k (A.deeper (envOfC qual scope s.heap.objs.size f cdv))->sp vs H Q E->
   ∃ t,PSs (CZ CX P w K mg base N qual scope f cdv A outer s H E) body t/\t { nx:=λ_ H'=>Q .non H',rt:=Q } (start N vs) H) :
  AC P w K mg base CX (k+1) f (PySem.W.fnOf name qual params body scope dV kV doc pm an cdv ct) ps sp:=by
 refine ⟨len,λA outer s H args us vs Q E hr e0 hb r hsp=>?_⟩
 have hl:=len _ _ _ _ hsp
 have KX:K.In s.heap:=e0.mod.kin.keeps λb o e=>(e0.bs b o e).1
 have lim:s.heap.NoLimit:=e0.mod.nolimit.keeps λb o e=>(e0.bs b o e).1
 have hkind:∀ y∈ps.zip us,scope.names.lookup y.1=some .local\/(scope.names.lookup y.1=some .cell/\((cellsFrom (s.heap.objs.size+1) scope.names []).lookup y.1).isSome=true):=λ⟨n,v⟩ hy=>by
  rcases S.par n (List.of_mem_zip hy).1 with q | q
  ·exact .inl q
  ·exact .inr ⟨q,PySem.W.cellsFrom_some _ _ _ (.inl q)⟩
 refine codeAny_call_function hr.depth (KX _ _ lk) rfl S.co S.gen rfl (PySem.W.codeRec_of KX hcd) (hb _ _ _ _ ?_)
 refine wpAny_newFunctionEnv_cells S.kind hkind λenv he s1 x=>?_
 subst he
 refine ⟨lim.keeps x.toInCall.keep,codeAny_func ?_⟩
 obtain ⟨t,ht,hq⟩:=hbody A outer s H vs Q E (hr.deeper _) hsp
 have I:Inv (CZ CX P w K mg base N qual scope f cdv A outer s H E) [] (start N vs) H s1:=Pj S hr.hd e0 hl r x
 refine wpAny_mono (ht [] s1 (start N vs) H _ I hq) (λfl s' hs=>?_) λe s' hs=>hs
 have fin:∀ {σ':St} {H':Hp} {v:V} {u:Value},Inv (CZ CX P w K mg base N qual scope f cdv A outer s H E) [] σ' H' s'->AN v u->Q v H'->CE outer P w H s Q u s':=
  λ{σ' H' v u} J rv q=>⟨v,H',J.os,J.bare,J.base,J.hok,rv,q⟩
 cases fl with
 | ret u=>
  obtain ⟨v,σ',H',J,rv,q⟩:=hs
  exact fin J rv q
 | next=>
  obtain ⟨σ',H',J,q⟩:=hs
  exact fin (v:=V.non) (u:=Value.none) J rfl q
 | brk=>
  obtain ⟨_,_,_,q⟩:=hs
  exact False.elim q
 | cont=>
  obtain ⟨_,_,_,q⟩:=hs
  exact False.elim q
end L2
namespace L2
open PySem PySem.Spec PyProof.Rows
section
variable {X:Cx} {x:Str} {p pos:Pos} {e:Expr} {es:List Expr} {t:TA} {id T:String} {r:List V->Hp->VK->Prop}
def tCB (r:List V->Hp->VK->Prop) (t:TA):TE:=λσ H Q=>t σ H λvs H1=>r vs H1 Q
theorem FO (hc:DH X (.builtin id) r) (hg:Gl X x) (hm:X.mg x=none) (hv:bootBuiltins x=some (.builtin id)) (ha:PA X (e::es) t) (hn:x ≠ "__name__" := by decide) (hdb:(x==("__debug__" : Str))=false:=by decide)
  (he:starEach (e::es) X.env=(false,eval e X.env)::starEach es X.env:=by rfl) (hpl:(backTo pos (starEach es X.env)).any (·.1)=false:=by rfl):PE X (.Call (.Name x p) (e::es) [] pos) (tCB r t):=by
 intro pins s σ H Q I h
 refine wpAny_Call_Name_kw (EE I hg hm hv ?_ hn hdb)
 exact PyProof.Rows.callWith_builtin1 (Al (ha pos pins s σ H _ I h) λus s1 ⟨vs,H1,I1,r1,q1⟩=>hc pins s1 σ H1 vs us Q I1 r1 q1) he hpl
theorem Oz (hc:DH X (.type T) r) (hg:Gl X x) (hm:X.mg x=none) (hv:bootBuiltins x=some (.type T)) (ha:PA X (e::es) t) (hn:x ≠ "__name__" := by decide) (hdb:(x==("__debug__" : Str))=false:=by decide)
  (he:starEach (e::es) X.env=(false,eval e X.env)::starEach es X.env:=by rfl) (hpl:(backTo pos (starEach es X.env)).any (·.1)=false:=by rfl):PE X (.Call (.Name x p) (e::es) [] pos) (tCB r t):=by
 intro pins s σ H Q I h
 refine wpAny_Call_Name_kw (EE I hg hm hv ?_ hn hdb)
 exact PyProof.Rows.callWith_type1 (Al (ha pos pins s σ H _ I h) λus s1 ⟨vs,H1,I1,r1,q1⟩=>hc pins s1 σ H1 vs us Q I1 r1 q1) he hpl
end
end L2
namespace HT
open PySem PyProof.Rows
def Xn:List Int->List Int->Bool
 | [],[]=>false
 | [],_::_=>true
 | _::_,[]=>false
 | x::xs,y::ys=>if x=y then Xn xs ys else decide (x<y)
section
open PySem.SeqAt
open PySem.AutoSeq1 (wpAny_loadPart')
open PySem.MeetsSeq PySem.MeetsSeq2 PySem.MeetsSeq3
end
section
variable {prog:Program} {w:World} {A:Around} {E:Value->Shared->Prop} {s:Shared}
theorem cat_tup {t b:Addr} {vs ws:List Value} {Q:Value->Shared->Prop} (ht:IsTup s.heap t vs.toArray) (hb:IsTup s.heap b ws.toArray) (hv:vs≠[])
  (h1:ws=[]->Q (.ref t) s) (h2:ws≠[]->Q (.ref s.heap.objs.size) { s with heap:=s.heap.push { cls:=.type "tuple",data:=.seq (vs++ws).toArray } })
  (hsz:vs.length+ws.length<=sizeLine):wpAny (model prog w) A (binaryOp .Add (.ref t) (.ref b)) Q E s:=by
 obtain ⟨⟨cls,dd,data,sl⟩,ho,hc,n,hd⟩:=id ht
 obtain ⟨⟨cls2,dd2,data2,sl2⟩,ho2,hc2,n2,hd2⟩:=id hb
 simp only at hc hd hc2 hd2
 subst hc hd hc2 hd2
 have e:vs.toArray++ws.toArray=(vs++ws).toArray:=by simp
 by_cases hw:ws=[]
 ·exact concat_meets ⟨_,ho,rfl⟩ ⟨_,ho2,rfl⟩ noFill_tuple_add seq_tuple_add PySem.F.slot_tuple_add PySem.F.entry_tuple_add (PySem.F.args_tuple_add_2 _ _)
   (tuple_addW1 t b vs.toArray ws.toArray n n2 dd dd2 sl sl2 (by simpa using hv) (by simp [hw])) ⟨ho,ho2,h1 hw⟩
 ·refine concat_meets ⟨_,ho,rfl⟩ ⟨_,ho2,rfl⟩ noFill_tuple_add seq_tuple_add PySem.F.slot_tuple_add PySem.F.entry_tuple_add (PySem.F.args_tuple_add_2 _ _)
   (tuple_addW2 t b vs.toArray ws.toArray n n2 dd dd2 sl sl2 (by simpa using hv) (by simpa using hw) (by rw [List.size_toArray,List.size_toArray]; exact hsz)) ⟨ho,ho2,?_⟩
  rw [e]
  exact h2 hw
def sIx (n d:Nat):Option Int->Nat
 | none=>d
 | some v=>if v<0 then (v+(n:Int)).toNat else min v.toNat n
theorem sIx_none (n d:Nat):sIx n d none=d:=rfl
theorem sIx_nat (n d k:Nat):sIx n d (some (k:Int))=min k n:=by
 show (if (k:Int)<0 then ((k:Int)+(n:Int)).toNat else min (k:Int).toNat n)=min k n
 rw [if_neg wF,Int.toNat_natCast]
theorem TH (n d:Nat) (hd:d<=n) (o:Option Int):sIx n d o<=n:=by
 cases o with
 | none=>exact hd
 | some v=>
  show (if v<0 then (v+(n:Int)).toNat else min v.toNat n)<=n
  by_cases hv:v<0
  ·rw [if_pos hv]; omega
  ·rw [if_neg hv]; exact Nat.min_le_right _ _
theorem Qg (v:Int) (n d:Nat):(if v<0 then max (v+(n:Int)) 0 else min v (n:Int))=((sIx n d (some v):Nat):Int):=by
 show (if v<0 then max (v+(n:Int)) 0 else min v (n:Int))=(((if v<0 then (v+(n:Int)).toNat else min v.toNat n):Nat):Int)
 by_cases hv:v<0
 ·simp only [if_pos hv]; omega
 ·simp only [if_neg hv]; omega
theorem Z4 (lo hi:Option Int) (n:Nat):Builtin.Slice.sliceAdjust lo hi 1 (n:Int)=(((sIx n 0 lo:Nat):Int),((sIx n n hi:Nat):Int)):=by
 have h1:¬ ((1:Int)<0):=by omega
 unfold Builtin.Slice.sliceAdjust
 simp only [h1,if_false]
 refine Prod.ext ?_ ?_
 ·cases lo with
  | none=>rfl
  | some v=>exact Qg v n 0
 ·cases hi with
  | none=>rfl
  | some v=>exact Qg v n n
theorem UG (i j:Nat):Builtin.Slice.slicePlaces (i:Int) (j:Int) 1=j-i:=by
 unfold Builtin.Slice.slicePlaces
 have h1:(1:Int)>0:=by omega
 simp only [h1,if_true,Int.ediv_one]
 split <;> omega
theorem NV {v:Value} {o:Option Int} {Q:Option Int->Shared->Prop} (p:IsPart v o) (h:Q o s):wpAny (model prog w) A (Builtin.Slice.slicePartIndex v) Q E s:=by
 cases p with
 | none=>exact slicePart_none h
 | int i t=>exact slicePart_int h
theorem sliceApplied_gen {sl:Addr} {vl vu:Value} {lo hi:Option Int} {n:Nat} {Q:Int×Int×Nat->Shared->Prop} (hs:s.heap.IsSliceOf sl vl vu .none) (pl:IsPart vl lo) (pu:IsPart vu hi)
  (h:Q (((sIx n 0 lo:Nat):Int),1,sIx n n hi-sIx n 0 lo) s):wpAny (model prog w) A (Builtin.Slice.sliceApplied (.ref sl) (pure (n:Int))) Q E s:=by
 obtain ⟨os,hos,hcs,hds⟩:=id hs
 unfold Builtin.Slice.sliceApplied Builtin.Slice.sliceFields
 refine wpAny_bind (wpAny_bind (wpAny_field hos hds (x:=vl) rfl (wpAny_bind (wpAny_field hos hds (x:=vu) rfl (wpAny_bind (wpAny_field hos hds (x:=.none) rfl (wpAny_pure ?_)))))))
 refine wpAny_bind (slicePart_none ?_)
 show wpAny _ _ (if ((1:Int)==0)=true then _ else _) _ _ s
 rw [if_neg wE]
 refine wpAny_bind (NV pl (wpAny_bind (NV pu (wpAny_bind (wpAny_pure ?_)))))
 show wpAny _ _ (match Builtin.Slice.sliceAdjust lo hi 1 (n:Int) with | (lo,hi)=>pure (lo,(1:Int),Builtin.Slice.slicePlaces lo hi 1)) _ _ s
 rw [Z4 lo hi n]
 show wpAny _ _ (pure (((sIx n 0 lo:Nat):Int),(1:Int),Builtin.Slice.slicePlaces ((sIx n 0 lo:Nat):Int) ((sIx n n hi:Nat):Int) 1)) _ _ s
 rw [UG]
 exact wpAny_pure h
theorem UK (xs:Array Value) (i k:Nat):((List.range k).filterMap λ(m:Nat)=>xs[((i:Int)+(m:Int)*1).toNat]?).toArray=((xs.toList.drop i).take k).toArray:=by
 have e:(λ(m:Nat)=>xs[((i:Int)+(m:Int)*1).toNat]?)=λm=>xs[i+m]?:=by
  funext m
  have:((i:Int)+(m:Int)*1).toNat=i+m:=by omega
  rw [this]
 rw [e]
 have:=pick_run xs i k
 rw [List.filterMap_map] at this
 have e2:((λx=>xs[x]?) ∘ λx=>i+x)=λm=>xs[i+m]?:=rfl
 rw [e2] at this
 rw [this]
theorem getItem_tuple_cut {t sl:Addr} {items:Array Value} {vl vu:Value} {lo hi:Option Int} {Q:Value->Shared->Prop} (ht:IsTup s.heap t items) (hs:s.heap.IsSliceOf sl vl vu .none) (pl:IsPart vl lo) (pu:IsPart vu hi)
  (hw:¬ (sIx items.size 0 lo=0/\sIx items.size items.size hi=items.size))
  (h:Q (.ref s.heap.objs.size) { s with heap:=s.heap.push { cls:=.type "tuple",data:=.seq ((items.toList.drop (sIx items.size 0 lo)).take (sIx items.size items.size hi-sIx items.size 0 lo)).toArray } })
  (hsz:items.size<=sizeLine):wpAny (model prog w) A (getItem (.ref t) (.ref sl)) Q E s:=by
 have htake:sizeOk (.seq ((items.toList.drop (sIx items.size 0 lo)).take (sIx items.size items.size hi-sIx items.size 0 lo)).toArray):=by
  show ((items.toList.drop (sIx items.size 0 lo)).take (sIx items.size items.size hi-sIx items.size 0 lo)).toArray.size<=sizeLine
  rw [List.size_toArray,List.length_take,List.length_drop,Array.length_toList]
  omega
 have hj:sIx items.size items.size hi<=items.size:=TH _ _ (Nat.le_refl _) hi
 obtain ⟨os,hos,hcs,hds⟩:=id hs
 have hTs:s.TypeIs (.ref sl) "slice" :=⟨os,hos,hcs⟩
 unfold getItem
 try with_reducible refine wpAny_holding ?_
 first | refine wpAny_bind (wpAny_pure ?_) | skip
 refine wpAny_bind (wpAny_sequenceKey ht.typeIs wE ?_)
 refine wpAny_bind (wpAny_callSpecial?_slot (name:=Str.ofString "__getitem__") ht.typeIs PyProof.Rows.slot_tuple_getitem
  (wpAny_call_entry PyProof.Rows.slot_tuple_getitem ht.typeIs entry_tuple_getitem ?_ (args_tuple_getitem _ _)))
 show wpAny _ _ (Builtin.Tuple.tupleItemsOf (.ref t) >>= _) _ _ s
 refine wpAny_bind (tupleItemsOf_ ht ?_)
 refine wpAny_bind (wpAny_typeOf hTs ?_)
 rw [if_pos wE]
 refine wpAny_bind (sliceApplied_gen hs pl pu ?_)
 have hno:¬ ((((sIx items.size 0 lo:Nat):Int)==0&&(1:Int)==1&&(sIx items.size items.size hi-sIx items.size 0 lo)==items.size)=true):=by
  intro q
  rw [Bool.and_eq_true,Bool.and_eq_true] at q
  have q1:((sIx items.size 0 lo:Nat):Int)=0:=eq_of_beq q.1.1
  have q2:sIx items.size items.size hi-sIx items.size 0 lo=items.size:=eq_of_beq q.2
  exact hw ⟨by omega,by omega⟩
 show wpAny _ _ (if (((sIx items.size 0 lo:Nat):Int)==0&&(1:Int)==1&&(sIx items.size items.size hi-sIx items.size 0 lo)==items.size)=true then _ else _) _ _ s
 rw [if_neg hno,UK]
 first
  | exact wpAny_bind (m:=Builtin.Tuple.tupleExact _) (wpAny_newObj_type (wpAny_pure ⟨_,rfl,wpAny_pure h⟩) htake)
  | exact wpAny_bind (m:=Builtin.Tuple.tupleExact _) (wpAny_newObj_type (wpAny_bind (wpAny_pure (wpAny_pure ⟨_,rfl,wpAny_pure h⟩))) htake)
  | exact wpAny_bind (wpAny_bind (m:=Builtin.Tuple.tupleExact _) (wpAny_newObj_type (wpAny_pure (wpAny_pure ⟨_,rfl,wpAny_pure h⟩)) htake))
  | exact wpAny_bind (wpAny_bind (m:=Builtin.Tuple.tupleExact _) (wpAny_newObj_type (wpAny_pure ⟨_,rfl,wpAny_pure h⟩) htake))
end
end HT
namespace L2
open PySem PySem.Spec PyProof.Rows
abbrev TO:=St->Hp->(Option Int->Hp->Prop)->Prop
def PO (X:Cx) (e:Option Expr) (t:TO):Prop:=
 ∀ (pins:List (Addr×Obj)) (s:Shared) (σ:St) (H:Hp) (Q:Option Int->Hp->Prop),Inv X pins σ H s->t σ H Q->
  wpAny (model X.prog X.w) X.A (evalPart e X.env) (λu s'=>∃ o H',Inv X pins σ H' s'/\IsPart u o/\Q o H') X.xe s
def RL:TO:=λ_ H Q=>Q none H
def RH (t:TE):TO:=λσ H Q=>t σ H λx H1=>∃ i,x=.int i/\Q (some i) H1
section
variable {X:Cx} {e:Expr} {te:TE} {lo hi:Option Expr} {tl th:TO} {pos p2:Pos}
theorem UF:PO X none RL:=by
 intro pins s σ H Q I h
 rw [evalPart_none]
 exact wpAny_pure ⟨none,H,I,.none,h⟩
theorem UE (h:PE X e te):PO X (some e) (RH te):=by
 intro pins s σ H Q I hw
 rw [evalPart_some]
 refine Al (h pins s σ H _ I hw) λu s1 ⟨x,H1,I1,r1,q1⟩=>?_
 obtain ⟨i,rfl,q⟩:=q1
 obtain ⟨t,rfl⟩:=r1
 exact ⟨some i,H1,I1,.int i t,q⟩
def Fs (X:Cx) (r:V->Option Int->Option Int->Hp->VK->Prop):Prop:=
 ∀ (pins:List (Addr×Obj)) (s:Shared) (σ:St) (H:Hp) (x:V) (v vl vu:Value) (lo hi:Option Int) (sl:Addr) (Q:VK),Inv X pins σ H s->AN x v->s.heap.IsSliceOf sl vl vu .none->IsPart vl lo->IsPart vu hi->r x lo hi H Q->
  ∃ T id,typeLookup (.type T) "__getitem__" = pure (some (.builtin id))/\s.TypeIs v T/\wpAny (model X.prog X.w) X.A (getItem v (.ref sl)) (EP X pins σ Q) X.xe s
theorem Fs.or {r r':V->Option Int->Option Int->Hp->VK->Prop} (h:Fs X r) (h':Fs X r'):Fs X (λx lo hi H Q=>r x lo hi H Q\/r' x lo hi H Q):=by
 intro pins s σ H x v vl vu lo hi sl Q I rx hs pl pu q
 rcases q with q | q
 ·exact h pins s σ H x v vl vu lo hi sl Q I rx hs pl pu q
 ·exact h' pins s σ H x v vl vu lo hi sl Q I rx hs pl pu q
def tSl (r:V->Option Int->Option Int->Hp->VK->Prop) (te:TE) (tl th:TO):TE:=λσ H Q=>te σ H λx H1=>tl σ H1 λl H2=>th σ H2 λu H3=>r x l u H3 Q
theorem UV {r:V->Option Int->Option Int->Hp->VK->Prop} (hr:Fs X r) (he:PE X e te) (hl:PO X lo tl) (hu:PO X hi th):PE X (.Subscript e (.Slice lo hi none p2) pos) (tSl r te tl th):=by
 intro pins s σ H Q I h
 refine Subscript_ (Al (he pins s σ H _ I h) λv s1 ⟨x,H1,I1,r1,q1⟩=>?_)
 refine wpAny_Slice (Al (hl pins s1 σ H1 _ I1 q1) λvl s2 ⟨l,H2,I2,pl,q2⟩=>Al (hu pins s2 σ H2 _ I2 q2) λvu s3 ⟨u,H3,I3,pu,q3⟩=>?_)
 rw [evalPart_none]
 refine wpAny_pure ?_
 have I4:Inv X pins σ H3 { s3 with heap:=s3.heap.push { cls:=.type "slice",data:=.fields #[vl,vu,.none] } }:=I3.kept (t':=s3.toks) λb ob q=>Heap.get?_push_of_some _ q
 obtain ⟨T,id,hT,ht,hg⟩:=hr pins { s3 with heap:=s3.heap.push { cls:=.type "slice",data:=.fields #[vl,vu,.none] } } σ H3 x v vl vu l u s3.heap.objs.size Q I4 r1 (Heap.IsSliceOf.new ..) pl pu q3
 show wpAny (model X.prog X.w) X.A (subscriptTail e (.Slice lo hi none p2) v (.ref s3.heap.objs.size)) (EP X pins σ Q) X.xe { s3 with heap:=s3.heap.push { cls:=.type "slice",data:=.fields #[vl,vu,.none] } }
 exact tail_any (ops:=[.ref s3.heap.objs.size,v]) ht hT hg (by with_unfolding_all rfl)
def Fl (xs:List V) (lo hi:Option Int):List V:=(xs.drop (HT.sIx xs.length 0 lo)).take (HT.sIx xs.length xs.length hi-HT.sIx xs.length 0 lo)
theorem Zl (xs:List V) (lo hi:Option Int):(Fl xs lo hi).length<=xs.length:=by
 unfold Fl
 rw [List.length_take,List.length_drop]
 omega
def T2 (K:PySem.W.Frag):V->Option Int->Option Int->Hp->VK->Prop:=λx lo hi H Q=>∃ a xs,x=.ref a/\A1 K H a xs /\
 ¬ (HT.sIx xs.length 0 lo=0/\HT.sIx xs.length xs.length hi=xs.length)/\∀ p,H p=none->Q (.ref p) (Ap H p (.tup (Fl xs lo hi)))
theorem Sr:Fs X (T2 X.K):=by
 intro pins s σ H x v vl vu lo hi sl Q I rx hs pl pu h
 obtain ⟨a,xs,rfl,hx,hw,q⟩:=h
 cases rx
 obtain ⟨its,r,ht,hz⟩:=I.tuple hx
 have hlen:its.toArray.size=xs.length:=by rw [List.size_toArray]; exact r.length.symm
 refine ⟨"tuple",_,PyProof.Rows.slot_tuple_getitem.lookup,ht.typeIs,?_⟩
 refine HT.getItem_tuple_cut ht hs pl pu (by rw [hlen]; exact hw) ?_ (by rw [hlen]; exact hz)
 rw [hlen]
 refine ⟨.ref s.heap.objs.size,_,I.laid (t':=s.toks) (o:=.tup (Fl xs lo hi)) (λb ob q=>Heap.get?_push_of_some _ q) (Nat.le_refl _) ?_,rfl,q _ (I.hok.fresh (Nat.le_refl _))⟩
 exact ⟨Nat.le_trans (Zl xs lo hi) hz,_,(r.drop (HT.sIx xs.length 0 lo)).take (HT.sIx xs.length xs.length hi-HT.sIx xs.length 0 lo),DF.new _ _⟩
def Uc (K:PySem.W.Frag):R2:=λx y H Q=>∃ a b xs ys,x=.ref a/\y=.ref b/\A1 K H a xs/\A1 K H b ys/\xs≠[]/\xs.length+ys.length<=sizeLine /\
 (ys=[]->Q (.ref a) H)/\(ys≠[]->∀ p,H p=none->Q (.ref p) (Ap H p (.tup (xs++ys))))
theorem Ar.nil_iff {xs:List V} {us:List Value} (r:Ar xs us):us=[] ↔ xs=[]:=by
 cases r with
 | nil=>simp
 | cons _ _=>simp
theorem Vo:BH X (binaryOp .Add) (Uc X.K):=by
 intro pins s σ H x y v u Q I rx ry h
 obtain ⟨a,b,xs,ys,rfl,rfl,ha,hb,hx,hz,q1,q2⟩:=h
 cases rx
 cases ry
 obtain ⟨its,r1,p1,_⟩:=I.tuple ha
 obtain ⟨its2,r2,p2,_⟩:=I.tuple hb
 refine HT.cat_tup p1 p2 (λz=>hx (r1.nil_iff.mp z)) (λz=>⟨.ref a,H,I,rfl,q1 (r2.nil_iff.mp z)⟩) (λz=>?_) (by rw [<- r1.length,<- r2.length]; exact hz)
 refine ⟨.ref s.heap.objs.size,_,I.laid (t':=s.toks) (o:=.tup (xs++ys)) (λb ob q=>Heap.get?_push_of_some _ q) (Nat.le_refl _) ?_,rfl,q2 (λw=>z (r2.nil_iff.mpr w)) _ (I.hok.fresh (Nat.le_refl _))⟩
 exact ⟨by rw [List.length_append]; exact hz,_,r1.append r2,DF.new _ _⟩
end
end L2
namespace L2
open PySem PySem.Spec PyProof.Rows
def Dw (n:Nat) (i:Int):Option Nat:=if 0<=i then (if i<n then some i.toNat else none) else if -(n:Int)<=i then some (i+n).toNat else none
def Bf {α:Type} (xs:List α) (i:Int):Option α:=(Dw xs.length i).bind λj=>xs[j]?
theorem Pc {n:Nat} {i:Int} {j:Nat} (h:Dw n i=some j):seqIndex? i n=some j/\j<n/\-(n:Int)<=i/\i<n:=by
 unfold Dw at h
 by_cases h0:0<=i
 ·rw [if_pos h0] at h
  by_cases h1:i<n
  ·rw [if_pos h1] at h
   have e:i.toNat=j:=Option.some.inj h
   exact ⟨by rw [seqIndex_of h0 h1,e],by omega,by omega,h1⟩
  ·rw [if_neg h1] at h; cases h
 ·rw [if_neg h0] at h
  by_cases h1:-(n:Int)<=i
  ·rw [if_pos h1] at h
   have e:(i+n).toNat=j:=Option.some.inj h
   exact ⟨by rw [seqIndex_neg wF h1,e],by omega,h1,by omega⟩
  ·rw [if_neg h1] at h; cases h
theorem Qx {α:Type} {xs:List α} {i:Int} {v:α} (h:Bf xs i=some v):∃ j,seqIndex? i xs.length=some j/\xs[j]?=some v/\j<xs.length/\-(xs.length:Int)<=i/\i<xs.length:=by
 unfold Bf at h
 cases e:Dw xs.length i with
 | none=>rw [e] at h; cases h
 | some j=>
  rw [e] at h
  obtain ⟨h1,h2,h3,h4⟩:=Pc e
  exact ⟨j,h1,h,h2,h3,h4⟩
theorem Fq {α:Type} {xs:List α} {j:Nat} {v:α} (h:xs[j]?=some v):Bf xs (j:Int)=some v:=by
 have hj:j<xs.length:=(List.getElem?_eq_some_iff.mp h).1
 have e:Dw xs.length (j:Int)=some j:=by
  unfold Dw
  rw [if_pos wF,if_pos wF]; simp
 unfold Bf; rw [e]; exact h
def Mw (b:Expr):Prop:=∀ o i,subscripted b false o i=operate [o,i] (getItem o i)
def IxR (X:Cx) (r:R2):Prop:=
 ∀ (value slice:Expr) (pins:List (Addr×Obj)) (s:Shared) (σ:St) (H:Hp) (x y:V) (v u:Value) (Q:VK),Inv X pins σ H s->AN x v->AN y u->r x y H Q->
  subscripted slice false v u=operate [v,u] (getItem v u)->wpAny (model X.prog X.w) X.A (subscriptTail value slice v u) (EP X pins σ Q) X.xe s
def IS (X:Cx) (id:String) (r:V->List V->Hp->VK->Prop):Prop:=
 ∀ (pins:List (Addr×Obj)) (s:Shared) (σ:St) (H:Hp) (x:V) (xs:List V) (v:Value) (us:List Value) (Q:VK),Inv X pins σ H s->AN x v->Ar xs us->r x xs H Q->
  wpAny (model X.prog X.w) X.A (call (.builtin id) (v::us)) (EP X pins σ Q) X.xe s
section
variable {X:Cx} {a b:Expr} {ta tb:TE} {pos:Pos}
def T7 (K:PySem.W.Frag):R2:=λx y H Q=>∃ p xs i v,x=.ref p/\y=.int i/\A0 K H p xs/\Bf xs i=some v/\Q v H
def T6 (K:PySem.W.Frag):R2:=λx y H Q=>∃ p xs i v,x=.ref p/\y=.int i/\A1 K H p xs/\Bf xs i=some v/\Q v H
theorem Pb:IxR X (T7 X.K):=by
 intro value slice pins s σ H x y v u Q I rx ry h hs
 obtain ⟨p,xs,i,z,rfl,rfl,hq,he,q⟩:=h
 cases rx
 obtain ⟨t,rfl⟩:=ry
 obtain ⟨its,r,pl,hz⟩:=I.list hq
 obtain ⟨j,h1,h2,h3,h4,h5⟩:=Qx he
 obtain ⟨w,ew,rw'⟩:=r.get h2
 have hl:=r.length
 have hn:=GF
 have fin:EP X pins σ Q w s:=⟨z,H,I,rw',q⟩
 by_cases h0:0<=i
 ·have hj:i.toNat=j:=by
   rw [seqIndex_of h0 h5] at h1
   exact Option.some.inj h1
  exact item_listR pl.isList h0 wF (by rw [hj]; simpa using ew) fin hs
 ·have hj:(i+(its.toArray.size:Int)).toNat=j:=by
   rw [seqIndex_neg wF h4] at h1
   rw [List.size_toArray,<- hl]
   exact Option.some.inj h1
  exact subscriptTail_builtinR (x:=w) pl.isList.typeIs slot_list_getitem.lookup
   (wpAny_getItem_list_neg (Q:=λr s'=>r=w/\EP X pins σ Q r s') pl.isList wF (by rw [List.size_toArray] <;> omega) wF (by rw [hj]; simpa using ew) ⟨rfl,fin⟩) hs
theorem XA:IxR X (T6 X.K):=by
 intro value slice pins s σ H x y v u Q I rx ry h hs
 obtain ⟨p,xs,i,z,rfl,rfl,hq,he,q⟩:=h
 cases rx
 obtain ⟨t,rfl⟩:=ry
 obtain ⟨its,r,pl,hz⟩:=I.tuple hq
 obtain ⟨j,h1,h2,h3,h4,h5⟩:=Qx he
 obtain ⟨w,ew,rw'⟩:=r.get h2
 have hl:=r.length
 have hn:=GF
 have fin:EP X pins σ Q w s:=⟨z,H,I,rw',q⟩
 exact subscriptTail_builtinR (x:=w) pl.typeIs slot_tuple_getitem.lookup
  (getItem_tuple (j:=j) (Q:=λr s'=>r=w/\EP X pins σ Q r s') pl wF wF (by rw [List.size_toArray,<- hl]; exact h1) (by simpa using ew) ⟨rfl,fin⟩) hs
theorem Xj (its:List Value) (n j:Nat) (u:Value):Obj.mapSeq (·.setIfInBounds j u) { cls:=.type "list",data:=.seq its.toArray n }={ cls:=.type "list",data:=.seq (its.set j u).toArray n }:=by
 simp [Obj.mapSeq]
theorem Inv.lst {pins:List (Addr×Obj)} {σ:St} {H:Hp} {s:Shared} {p:Addr} {xs:List V} (I:Inv X pins σ H s) (h:H p=some (.lst xs)) :
  ∃ (its:List Value) (n:Nat),Ar xs its/\s.heap.get? p=some { cls:=.type "list",data:=.seq its.toArray n }/\xs.length<=sizeLine:=by
 obtain ⟨z,its,n,r,e⟩:=I.hok p _ h
 exact ⟨its,n,r,e,z⟩
theorem Inv.lstUpd {pins:List (Addr×Obj)} {σ:St} {H:Hp} {s:Shared} {p:Addr} {xs ys:List V} {its its':List Value} {n n':Nat} {f:Obj->Obj} (I:Inv X pins σ H s) (h:H p=some (.lst xs))
  (ho:s.heap.get? p=some { cls:=.type "list",data:=.seq its.toArray n }) (hf:f { cls:=.type "list",data:=.seq its.toArray n }={ cls:=.type "list",data:=.seq its'.toArray n' }) (r:Ar ys its') (hz:ys.length<=sizeLine) (t:Nat) :
  Inv X pins σ (Ap H p (.lst ys)) { s with heap:=s.heap.update p f,toks:=t }:=by
 have e:(s.heap.update p f).get? p=some { cls:=.type "list",data:=.seq its'.toArray n' }:=by
  rw [Heap.get?_update_self f ho (by rw [hf] <;> rfl),hf]
 refine I.write (x:=p) (e:=p) (by rw [h]; trivial) (.inl rfl) (λb u hb q=>(Heap.get?_update_other _ _ (Ne.symm hb)).trans q) ⟨_,e⟩ ?_
 exact ⟨hz,its',n',r,e⟩
def T3:V->V->V->Hp->(Hp->Prop)->Prop:=λo i v H Q=>∃ p xs k j,o=.ref p/\i=.int k/\H p=some (.lst xs)/\Dw xs.length k=some j/\Q (Ap H p (.lst (xs.set j v)))
theorem Sx:QD X T3:=by
 intro pins s σ H o i v ov iv u Q I ro ri rv h
 obtain ⟨p,xs,k,j,rfl,rfl,hp,hj,q⟩:=h
 cases ro
 obtain ⟨t,rfl⟩:=ri
 obtain ⟨its,n,r,ho,hz⟩:=I.lst hp
 obtain ⟨h1,h2,h3,h4⟩:=Pc hj
 have hl:=r.length
 have hn:=GF
 have I':Inv X pins σ (Ap H p (.lst (xs.set j v))) { s with heap:=s.heap.update p (Obj.mapSeq (·.setIfInBounds j u)) }:=
  I.lstUpd hp ho (Xj its n j u) (r.set rv j) (by rw [List.length_set]; exact hz) s.toks
 by_cases h0:0<=k
 ·have hk:k.toNat=j:=by
   rw [seqIndex_of h0 h4] at h1
   exact Option.some.inj h1
  exact PySem.W.ki_setAt ho h0 wF (by rw [List.size_toArray,<- hl]; exact h4) (by rw [hk]; exact ⟨_,I',q⟩)
 ·have hk:(k+(its.toArray.size:Int)).toNat=j:=by
   rw [seqIndex_neg wF h3] at h1
   rw [List.size_toArray,<- hl]
   exact Option.some.inj h1
  exact PySem.W.ki_setBack ho wF (by rw [List.size_toArray,<- hl]; exact h3) wF (by rw [hk]; exact ⟨_,I',q⟩)
def Em:V->Bool
 | .non=>true
 | .bl _=>true
 | .int _=>true
 | .str _=>true
 | _=>false
def DU:V->V->Bool
 | .non,.non=>true
 | .bl a,.bl b=>a==b
 | .bl a,.int b=>(if a then 1 else 0)==b
 | .int a,.bl b=>a==(if b then 1 else 0)
 | .int a,.int b=>a==b
 | .str a,.str b=>a==b
 | _,_=>false
theorem Y4 {A:Around} {s:Shared} {y x:V} {u v:Value} (ry:AN y u) (rx:AN x v) (fy:Em y=true) (fx:Em x=true):SeqAt.EqAt A s u v (DU y x):=by
 cases y with
 | non=>
  cases ry
  cases x with
  | non=>cases rx; exact SeqAt.EqAt.same _
  | bl b=>cases rx; exact SeqAt.EqAt.none_bool b
  | int b=>obtain ⟨t,rfl⟩:=rx; exact SeqAt.EqAt.none_int b t
  | str b=>obtain ⟨t,rfl⟩:=rx; exact SeqAt.EqAt.none_str b t
  | _=>exact absurd (show false=true from fx) Bool.false_ne_true
 | bl a=>
  cases ry
  cases x with
  | non=>cases rx; exact SeqAt.EqAt.bool_none a
  | bl b=>cases rx; exact SeqAt.EqAt.bool_bool a b
  | int b=>obtain ⟨t,rfl⟩:=rx; exact SeqAt.EqAt.bool_int a b t
  | str b=>obtain ⟨t,rfl⟩:=rx; exact SeqAt.EqAt.bool_str a b t
  | _=>exact absurd (show false=true from fx) Bool.false_ne_true
 | int a=>
  obtain ⟨t',rfl⟩:=ry
  cases x with
  | non=>cases rx; exact SeqAt.EqAt.int_none a t'
  | bl b=>cases rx; exact SeqAt.EqAt.int_bool a t' b
  | int b=>obtain ⟨t,rfl⟩:=rx; exact SeqAt.EqAt.int_int a t' b t
  | str b=>obtain ⟨t,rfl⟩:=rx; exact SeqAt.EqAt.int_str a t' b t
  | _=>exact absurd (show false=true from fx) Bool.false_ne_true
 | str a=>
  obtain ⟨t',rfl⟩:=ry
  cases x with
  | non=>cases rx; exact SeqAt.EqAt.str_none a t'
  | bl b=>cases rx; exact SeqAt.EqAt.str_bool a t' b
  | int b=>obtain ⟨t,rfl⟩:=rx; exact SeqAt.EqAt.str_int a t' b t
  | str b=>obtain ⟨t,rfl⟩:=rx; exact SeqAt.EqAt.str_str a t' b t
  | _=>exact absurd (show false=true from fx) Bool.false_ne_true
 | _=>exact absurd (show false=true from fy) Bool.false_ne_true
def En (x:V) (u:Value):Bool:=match u with
 | .none=>DU .non x
 | .bool b=>DU (.bl b) x
 | .int i _=>DU (.int i) x
 | .str z _=>DU (.str z) x
 | _=>false
theorem PU {x y:V} {u:Value} (r:AN y u) (f:Em y=true):En x u=DU y x:=by
 cases y with
 | non=>cases r; rfl
 | bl b=>cases r; rfl
 | int i=>obtain ⟨t,rfl⟩:=r; rfl
 | str z=>obtain ⟨t,rfl⟩:=r; rfl
 | _=>exact absurd (show false=true from f) Bool.false_ne_true
theorem Mq {x:V}:∀ {xs:List V} {us:List Value},Ar xs us->xs.all Em=true->us.any (En x)=xs.any λy=>DU y x
 | _,_,.nil,_=>rfl
 | y::xs,u::us,.cons r t,f=>by
  rw [List.all_cons,Bool.and_eq_true] at f
  rw [List.any_cons,List.any_cons,PU r f.1,Mq t f.2]
theorem LA {A:Around} {s:Shared} {x:V} {v:Value} (rx:AN x v) (fx:Em x=true):∀ {xs:List V} {us:List Value},Ar xs us->xs.all Em=true->∀ u∈us,SeqAt.EqAt A s u v (En x u)
 | _,_,.nil,_=>λu hu=>by cases hu
 | y::xs,u::us,.cons r t,f=>λu' hu=>by
  rw [List.all_cons,Bool.and_eq_true] at f
  rcases List.mem_cons.mp hu with rfl | hu
  ·rw [PU r f.1]; exact Y4 r rx f.1 fx
  ·exact LA rx fx t f.2 u' hu
def Ig (x:V) (xs:List V):Bool:=xs.any λy=>DU y x
def rIn (K:PySem.W.Frag) (neg:Bool):R2:=λx y H Q=>∃ p xs,y=.ref p/\(A0 K H p xs\/A1 K H p xs)/\Em x=true/\xs.all Em=true/\Q (.bl (if neg then !Ig x xs else Ig x xs)) H
theorem Vk:BH X (compareOp .In) (rIn X.K false):=by
 intro pins s σ H x y v u Q I rx ry h
 obtain ⟨p,xs,rfl,hq,fx,fs,q⟩:=h
 cases ry
 rcases hq with hq | hq
 ·obtain ⟨its,r,pl,hz⟩:=I.list hq
  refine SeqAt.in_listAt (En x) pl.isList (λw hw=>LA rx fx r fs w (by simpa using hw)) ⟨.bl _,H,I,rfl,?_⟩
  rw [show its.toArray.any (En x)=its.any (En x) by simp,Mq r fs]
  exact q
 ·obtain ⟨its,r,pl,hz⟩:=I.tuple hq
  refine SeqAt.in_tupleAt (En x) pl (λw hw=>LA rx fx r fs w (by simpa using hw)) ⟨.bl _,H,I,rfl,?_⟩
  rw [show its.toArray.any (En x)=its.any (En x) by simp,Mq r fs]
  exact q
theorem ZL:DH X (.builtin "len") (λxs H Q=>∃ p ys,xs=[.ref p]/\(A0 X.K H p ys\/A1 X.K H p ys)/\Q (.int ys.length) H):=by
 intro pins s σ H xs us Q I r h
 obtain ⟨p,ys,rfl,hq,q⟩:=h
 obtain ⟨u,rfl,rx⟩:=DI r
 cases rx
 have hn:=GF
 rcases hq with hq | hq
 ·obtain ⟨its,r',pl,hz⟩:=I.list hq
  have hlen:=r'.length
  exact Calls.call_len_list pl.isList (by simp only [List.size_toArray] <;> omega) ⟨.int ys.length,H,I.tok _,⟨s.toks+1,by rw [List.size_toArray,hlen]⟩,q⟩
 ·obtain ⟨its,r',pl,hz⟩:=I.tuple hq
  have hlen:=r'.length
  exact len_tuple pl (by simp only [List.size_toArray] <;> omega) ⟨.int ys.length,H,I.tok _,⟨s.toks+1,by rw [List.size_toArray,hlen]⟩,q⟩
theorem ZK:DH X (.type "list") (λxs H Q=>∃ p ys,xs=[.ref p]/\(A0 X.K H p ys\/A1 X.K H p ys)/\∀ l,H l=none->Q (.ref l) (Ap H l (.lst ys))):=by
 intro pins s σ H xs us Q I r h
 obtain ⟨p,ys,rfl,hq,q⟩:=h
 obtain ⟨u,rfl,rx⟩:=DI r
 cases rx
 have fin:∀ (its:List Value),Ar ys its->ys.length<=sizeLine->∀ (h':Heap) (c':Nat),(∀ b o',s.heap.get? b=some o'->h'.get? b=some o')->
   h'.get? s.heap.objs.size=some { cls:=.type "list",dict:=none,data:=.seq its.toArray c',slots:=#[] }->EP X pins σ Q (.ref s.heap.objs.size) { s with heap:=h' }:=λits r' hz h' c' kp e=>
  ⟨.ref s.heap.objs.size,_,I.laid (t':=s.toks) kp (Nat.le_refl _) (show BI X.prog X.w _ h' _ (.lst ys) from ⟨hz,its,c',r',e⟩),rfl,q _ (I.hok.fresh (Nat.le_refl _))⟩
 rcases hq with hq | hq
 ·obtain ⟨its,r',pl,hz⟩:=I.list hq
  have hlen:=r'.length
  obtain ⟨o,ho,hc,n,hd⟩:=pl.isList
  exact call_list_seq p (.inl rfl) ho hc hd (λh' c' kp e=>fin its r' hz h' c' kp e) (by simp only [List.size_toArray] <;> omega)
 ·obtain ⟨its,r',pl,hz⟩:=I.tuple hq
  have hlen:=r'.length
  obtain ⟨o,ho,hc,n,hd⟩:=pl
  exact call_list_seq p (.inr rfl) ho hc hd (λh' c' kp e=>fin its r' hz h' c' kp e) (by simp only [List.size_toArray] <;> omega)
theorem ZC:DH X (.type "tuple") (λxs H Q=>∃ p ys,xs=[.ref p]/\((A0 X.K H p ys/\∀ l,H l=none->Q (.ref l) (Ap H l (.tup ys)))\/(A1 X.K H p ys/\Q (.ref p) H))):=by
 intro pins s σ H xs us Q I r h
 obtain ⟨p,ys,rfl,h⟩:=h
 obtain ⟨u,rfl,rx⟩:=DI r
 cases rx
 rcases h with ⟨hq,q⟩ | ⟨hq,q⟩
 ·obtain ⟨its,r',pl,hz⟩:=I.list hq
  have hlen:=r'.length
  refine call_tuple_list pl.isList (λh' kp=>?_) (by simp only [List.size_toArray] <;> omega)
  have I1:Inv X pins σ H { s with heap:=h' }:=I.kept (t':=s.toks) kp
  have I2:Inv X pins σ (Ap H h'.objs.size (.tup ys)) { s with heap:=h'.push { cls:=.type "tuple",data:=.seq its.toArray } }:=
   I1.laid (t':=s.toks) (λb o e=>Heap.get?_push_of_some _ e) (Nat.le_refl _) (show BI X.prog X.w _ _ _ (.tup ys) from ⟨hz,its,r',DF.new _ _⟩)
  exact ⟨.ref h'.objs.size,_,I2,rfl,q _ (I1.hok.fresh (Nat.le_refl _))⟩
 ·obtain ⟨its,r',pl,hz⟩:=I.tuple hq
  exact call_tuple_same pl ⟨.ref p,H,I,rfl,q⟩
def Jg (K:PySem.W.Frag) (T:String) (x:V) (H:Hp):Prop:=match x with
 | .str _=>T = "str"
 | .int _=>T = "int"
 | .ref p=>(T = "list" /\ ∃ xs,A0 K H p xs)\/(T = "tuple" /\ ∃ xs,A1 K H p xs) \/
   (T = "dict" /\ ((∃ kvs,H p=some (.dK kvs))\/∃ kvs,H p=some (.dT kvs)))\/(T = "set" /\ ∃ S n,H p=some (.set S n))
 | _=>False
theorem M7 {pins:List (Addr×Obj)} {σ:St} {H:Hp} {s:Shared} {T:String} {x:V} {v:Value} (I:Inv X pins σ H s) (r:AN x v) (ty:Jg X.K T x H) :
  s.TypeIs v T/\∀ a,v=.ref a->∃ ob,s.heap.get? a=some ob/\ob.dict=none:=by
 cases x with
 | str z=>
  obtain ⟨t,rfl⟩:=r
  cases (show T = "str" from ty)
  exact ⟨typeIs_str s z t,λ_ e=>nomatch e⟩
 | int i=>
  obtain ⟨t,rfl⟩:=r
  cases (show T = "int" from ty)
  exact ⟨typeIs_int s i t,λ_ e=>nomatch e⟩
 | ref p=>
  cases r
  rcases ty with ⟨rfl,xs,hq⟩ | ⟨rfl,xs,hq⟩ | ⟨rfl,hk⟩ | ⟨rfl,S,n,hk⟩
  ·obtain ⟨its,_,pl,_⟩:=I.list hq
   refine ⟨pl.isList.typeIs,λa e=>?_⟩
   cases e
   obtain ⟨o,n,e,c,hd,_⟩:=pl
   exact ⟨o,e,hd⟩
  ·obtain ⟨its,_,⟨o,e1,hd,hc,_⟩,_⟩:=I.tupN hq
   refine ⟨⟨o,e1,hc⟩,λa e=>?_⟩
   cases e
   exact ⟨o,e1,hd⟩
  ·have z:∃ o,s.heap.get? p=some o/\o.ExactDict:=by
    rcases hk with ⟨kvs,hk⟩ | ⟨kvs,hk⟩
    ·obtain ⟨_,_,_,_,o,_,_,e,ex,_⟩:=I.hok p _ hk
     exact ⟨o,e,ex⟩
    ·obtain ⟨_,_,_,_,o,_,_,e,ex,_⟩:=I.hok p _ hk
     exact ⟨o,e,ex⟩
   obtain ⟨o,e,ex⟩:=z
   refine ⟨⟨o,e,ex.1⟩,λa e2=>?_⟩
   cases e2
   exact ⟨o,e,ex.2.1⟩
  ·obtain ⟨o,_,_,_,e,ex,_⟩:=I.hok p _ hk
   refine ⟨⟨o,e,ex.1⟩,λa e2=>?_⟩
   cases e2
   exact ⟨o,e,ex.2.1⟩
 | _=>exact False.elim ty
def RZ (K:PySem.W.Frag) (T:String) (r:V->List V->Hp->VK->Prop) (to:TE):TE:=λσ H Q=>to σ H λx H1=>Jg K T x H1/\r x [] H1 Q
def tBM (K:PySem.W.Frag) (T:String) (r:V->List V->Hp->VK->Prop) (to:TE) (t:TA):TE:=λσ H Q=>to σ H λx H1=>Jg K T x H1/\t σ H1 λxs H2=>r x xs H2 Q
variable {o e:Expr} {es:List Expr} {to:TE} {t:TA} {name:Str} {apos cpos:Pos} {T id:String} {r:V->List V->Hp->VK->Prop}
theorem U6 (pa:PlainAttrs T) (slot:Slot T name id) (hty:typeOf (.builtin id)=pure (.type "method_descriptor")) (hm:IS X id r) (ho:PE X o to)
  (hbase:attributeBase o name X.env (eval o X.env)=eval o X.env:=by rfl) (hline:(apos.endLine==cpos.line)=true:=by rfl):PE X (.Call (.Attribute o name apos) [] [] cpos) (RZ X.K T r to):=by
 intro pins s σ H Q I h
 refine wpAny_Call_method0_late hbase hline (Al (ho pins s σ H _ I h) λv s1 ⟨x,H1,I1,r1,ty,q1⟩=>?_)
 obtain ⟨h1,h2⟩:=M7 I1 r1 ty
 exact ⟨T,id,pa,slot,hty,h1,h2,Calls.callWith_builtin rfl (PySem.evalArgs_none (hm pins s1 σ H1 x [] v [] Q I1 r1 .nil q1))⟩
theorem HK (pa:PlainAttrs T) (slot:Slot T name id) (hty:typeOf (.builtin id)=pure (.type "method_descriptor")) (hm:IS X id r) (ho:PE X o to) (ha:PA X (e::es) t)
  (hbase:attributeBase o name X.env (eval o X.env)=eval o X.env:=by rfl)
  (hfew:((backTo cpos (starEach (e::es) X.env)).all (λx=>!x.1)&&(backToKw cpos (keywordEach [] X.env)).all (λx=>x.1.isSome)
   && decide ((e::es).length+([]:List Keyword).length+(if ([]:List Keyword).isEmpty then 0 else 1)<30))=true:=by rfl)
  (hline:(apos.endLine==cpos.line)=true:=by rfl) (hs:starEach (e::es) X.env=(false,eval e X.env)::starEach es X.env:=by rfl) (hplain:(backTo cpos (starEach es X.env)).any (·.1)=false:=by rfl) :
  PE X (.Call (.Attribute o name apos) (e::es) [] cpos) (tBM X.K T r to t):=by
 intro pins s σ H Q I h
 refine wpAny_Call_method_late hbase hfew hline rfl (Al (ho pins s σ H _ I h) λv s1 ⟨x,H1,I1,r1,ty,q1⟩=>?_)
 obtain ⟨h1,h2⟩:=M7 I1 r1 ty
 refine ⟨T,id,pa,slot,hty,h1,h2,?_⟩
 have hA:=ha cpos pins s1 σ H1 _ I1 q1
 rw [hs] at hA ⊢
 refine Calls.callWith_builtin (by show (false||(backTo cpos (starEach es X.env)).any (·.1))=false; rw [hplain] <;> rfl) (Calls.evalArgs_plain ?_)
 exact Al hA λus s2 ⟨vs,H2,I2,r2,q2⟩=>hm pins s2 σ H2 x vs v us Q I2 r1 r2 q2
end
end L2
namespace L2
open PySem PySem.Spec PyProof.Rows
def MtM (X:Cx) (id:String) (r:V->List V->Hp->VK->Prop):Prop:=
 ∀ (pins:List (Addr×Obj)) (s:Shared) (σ:St) (H:Hp) (x:V) (xs:List V) (v:Value) (us:List Value) (Q:VK),Inv X pins σ H s->AN x v->Ar xs us->r x xs H Q->
  wpAny (model X.prog X.w) X.A (call (.builtin id) (v::us)) (EP X pins σ Q) X.xe s
theorem Ar.one:∀ {x:V} {us:List Value},Ar [x] us->∃ u,us=[u]/\AN x u
 | _,_,.cons r .nil=>⟨_,rfl,r⟩
theorem Ar.zero:∀ {us:List Value},Ar [] us->us=[]
 | _,.nil=>rfl
theorem Ar.dropLast {xs:List V} {us:List Value} (h:Ar xs us):Ar xs.dropLast us.dropLast:=by
 induction h with
 | nil=>exact .nil
 | cons r t ih=>
  cases t with
  | nil=>exact .nil
  | cons q t'=>exact .cons r ih
theorem Ar.rep {xs:List V} {us:List Value} (h:Ar xs us):∀ k:Nat,Ar (List.replicate k xs).flatten (List.replicate k us).flatten
 | 0=>.nil
 | k+1=>by
  rw [List.replicate_succ,List.replicate_succ,List.flatten_cons,List.flatten_cons]
  exact Ar.append h (Ar.rep h k)
theorem YY {α:Type} (l:List α):l.eraseIdx (l.length-1)=l.dropLast:=by
 induction l with
 | nil=>rfl
 | cons a r ih=>
  cases r with
  | nil=>rfl
  | cons b r=>
   have e:(a::b::r).length-1=((b::r).length-1)+1:=by
    have h1:(a::b::r).length=r.length+2:=rfl
    have h2:(b::r).length=r.length+1:=rfl
    omega
   rw [e,List.eraseIdx_cons_succ,ih]
   all_goals rfl
theorem Pq (its:List Value):∀ (k:Nat) (acc:List Value),
  List.foldl (λx1 x2=>x1++x2) acc.toArray (List.replicate k its.toArray)=(acc++(List.replicate k its).flatten).toArray
 | 0,acc=>by simp
 | k+1,acc=>by
  have e:acc.toArray++its.toArray=(acc++its).toArray:=by simp
  have e2:(acc++its)++(List.replicate k its).flatten=acc++(List.replicate (k+1) its).flatten:=by
   rw [List.replicate_succ,List.flatten_cons,List.append_assoc]
  rw [<- e2,<- Pq its k (acc++its),<- e,List.replicate_succ,List.foldl_cons]
section
variable {X:Cx} {pins:List (Addr×Obj)} {σ:St} {H:Hp} {s:Shared} {l b:Addr} {xs ys zs:List V}
theorem Inv.lset {its its':List Value} {n:Nat} {f:Array Value->Array Value} {t':Nat} (I:Inv X pins σ H s) (hH:H l=some (.lst xs))
  (e:s.heap.get? l=some { cls:=.type "list",data:=.seq its.toArray n }) (hf:f its.toArray=its'.toArray) (hv:Ar ys its') (hz:ys.length<=sizeLine) :
  Inv X pins σ (Ap H l (.lst ys)) { s with heap:=s.heap.update l (Obj.mapSeq f),toks:=t' }:=by
 have q:=PySem.IsL.update e f
 rw [hf] at q
 refine I.write (x:=l) (e:=l) (by rw [hH]; exact trivial) (.inl rfl) (λb' u hb hu=>(Heap.get?_update_other s.heap (Obj.mapSeq f) (Ne.symm hb)).trans hu) ⟨_,q⟩ ?_
 exact ⟨hz,its',_,hv,q⟩
theorem Inv.lnew {its:List Value} {t':Nat} (I:Inv X pins σ H s) (hv:Ar ys its) (hz:ys.length<=sizeLine) :
  Inv X pins σ (Ap H s.heap.objs.size (.lst ys)) { s with heap:=s.heap.push { cls:=.type "list",data:=.seq its.toArray },toks:=t' }:=
 I.laid (λ_ _ q=>Heap.get?_push_of_some _ q) (Nat.le_refl _) ⟨hz,its,0,hv,Heap.get?_push_size _ rfl⟩
theorem Inv.fresh (I:Inv X pins σ H s):H s.heap.objs.size=none:=I.hok.fresh (Nat.le_refl _)
theorem Inv.lstM (I:Inv X pins σ H s) (hH:H l=some (.lst xs)):xs.length<=sizeLine/\∃ (its:List Value) (n:Nat),Ar xs its/\xs.length=its.length/\s.heap.get? l=some { cls:=.type "list",data:=.seq its.toArray n }:=by
 obtain ⟨z,its,n,r,e⟩:=I.hok l _ hH
 exact ⟨z,its,n,r,r.length,e⟩
end
section
variable {X:Cx}
def Ue:V->List V->Hp->VK->Prop:=λx vs H Q=>∃ l xs y,x=.ref l/\vs=[y]/\H l=some (.lst xs)/\xs.length<sizeLine/\Q .non (Ap H l (.lst (xs++[y])))
theorem OO:MtM X "list.append" Ue:=by
 intro pins s σ H x vs v us Q I rx rv h
 obtain ⟨l,xs,y,rfl,rfl,hH,hz,q⟩:=h
 cases rx
 obtain ⟨u,rfl,ru⟩:=rv.one
 obtain ⟨z,its,n,r,hl,e⟩:=I.lstM hH
 refine call_meets F.slot_list_append ⟨_,e,rfl⟩ F.entry_list_append (F.args_list_append_2 _ _) (PySem.list_append l its.toArray n u (by rw [List.size_toArray]; omega)) ⟨e,?_⟩
 refine ⟨.non,_,I.lset (its':=its++[u]) hH e (by simp) (r.append (.cons ru .nil)) ?_,rfl,q⟩
 rw [List.length_append,List.length_singleton]
 omega
def T4:V->List V->Hp->VK->Prop:=λx vs H Q=>∃ l xs y,x=.ref l/\vs=[]/\H l=some (.lst xs)/\xs[xs.length-1]?=some y/\Q y (Ap H l (.lst xs.dropLast))
theorem W9:MtM X "list.pop" T4:=by
 intro pins s σ H x vs v us Q I rx rv h
 obtain ⟨l,xs,y,rfl,rfl,hH,hy,q⟩:=h
 cases rx
 have hus:=rv.zero
 subst hus
 obtain ⟨z,its,n,r,hl,e⟩:=I.lstM hH
 obtain ⟨u,hu,ru⟩:=r.get hy
 have hy':its.toArray[its.toArray.size-1]?=some u:=by
  show its.toArray[its.length-1]?=some u
  rw [<- Array.getElem?_toList,<- hl]
  exact hu
 refine call_meets F.slot_list_pop ⟨_,e,rfl⟩ F.entry_list_pop (F.args_list_pop_1 _) (MeetsSeq.list_pop_last l its.toArray n u hy' (by rw [List.size_toArray]; omega)) ⟨e,?_⟩
 refine ⟨y,_,I.lset (its':=its.dropLast) hH e ?_ r.dropLast ?_,ru,q⟩
 ·show its.toArray.eraseIdxIfInBounds (its.toArray.size-1)=its.dropLast.toArray
  rw [List.size_toArray,List.eraseIdxIfInBounds_toArray,YY]
 ·rw [List.length_dropLast]
  omega
def Ud:R2:=λx y H Q=>∃ l b xs zs,x=.ref l/\y=.ref b/\H l=some (.lst xs)/\H b=some (.lst zs)/\xs.length+zs.length<=sizeLine/\∀ p,H p=none->Q (.ref p) (Ap H p (.lst (xs++zs)))
theorem Vp:BH X (binaryOp .Add) Ud:=by
 intro pins s σ H x y v u Q I rx ry h
 obtain ⟨l,b,xs,zs,rfl,rfl,hH,hB,hz,q⟩:=h
 cases rx
 cases ry
 obtain ⟨z,its,n,r,hl,e⟩:=I.lstM hH
 obtain ⟨z2,its2,n2,r2,hl2,e2⟩:=I.lstM hB
 refine PySem.P.add_list e e2 ?_ (by rw [List.size_toArray,List.size_toArray]; omega)
 have ea:its.toArray++its2.toArray=(its++its2).toArray:=by simp
 rw [ea]
 exact ⟨.ref _,_,I.lnew (t':=s.toks) (r.append r2) (by rw [List.length_append]; omega),rfl,q _ I.fresh⟩
theorem OY {α:Type} (xs:List α) (k:Nat):(List.replicate k xs).flatten.length=k*xs.length:=by
 induction k with
 | zero=>simp
 | succ k ih=>rw [List.replicate_succ,List.flatten_cons,List.length_append,ih,Nat.succ_mul,Nat.add_comm]
end
section
variable {prog:Program} {w:World} {A:Around} {E:Value->Shared->Prop} {s:Shared}
end
section
variable {X:Cx}
end
end L2
namespace Att
open PySem PySem.W PySem.Calls PyProof.Rows
theorem XJ {P:Params} {h:Heap}:∀ (ns:List Int) (vs:List Value),WellAll P h vs (ns.map WData.int)->IntsAre vs ns:=by
 intro ns
 induction ns with
 | nil=>
  intro vs w
  rw [List.map_nil] at w
  cases w
  exact .nil
 | cons n ns ih=>
  intro vs w
  rw [List.map_cons] at w
  cases w with
  | cons a b=>
   cases a
   exact .cons _ _ (ih _ b)
theorem Sy {l:OpenLaw} {n:Nat} (hn:l.most=some n) {P:Params} {h:Heap} {args:List WData} {vals:List Value}
  (hpre:l.row.toRowW.claim.pre args=true) (hwl:WellAll P h vals args) :
  ∃ a vs ns,vals=[Value.ref a]/\args=[WData.list (ns.map WData.int)]/\h.get? a=some { cls:=.type "list",data:=.seq vs.toArray }/\IntsAre vs ns/\ns.length<=n:=by
 have hsh:WShape.hasAll [] args [.list .int]=true:=(pre_splitW hpre).1
 have hc:l.pre.holds [] { args:=args }=true:=(pre_splitW hpre).2
 obtain ⟨d,r,rfl,h1,h2⟩:=hasAllW_cons hsh
 obtain rfl:=hasAllW_nil h2
 obtain ⟨xs,rfl,h3⟩:=hasW_list h1
 obtain ⟨ns,rfl⟩:=items_int h3
 have hlen:ns.length<=n:=by
  unfold OpenLaw.pre at hc
  have h4:(WTm.not (.lt (.lit (.int (n:Int))) (.len (.arg 0)))).holds [] { args:=[.list (ns.map .int)] }=true:=by
   have h4:=(holds_andW hc).1
   rw [hn] at h4
   exact h4
  have h5:=condW_of h4 (w_not (w_lt w_lit (w_len_list (w_arg rfl))))
  rw [List.length_map] at h5
  refine Nat.le_of_not_lt λq=>?_
  have q':(n:Int)<((ns.length:Nat):Int):=by omega
  first
   | (rw [decide_eq_true q'] at h5; exact absurd h5 wE)
   | (simp at h5; omega)
 cases hwl with
 | cons w1 w2=>
  cases w2
  cases w1 with
  | list ho hall=>exact ⟨_,_,ns,rfl,rfl,ho,XJ ns _ hall,hlen⟩
theorem UD (l:OpenLaw) (args:List WData):l.row.toRowW.claim.post args (.bool true) args=true:=
 postW_of (r:=l.row.toRowW) (X:=(true==true))
  (show WShape.has [] (.bool true) .bool=true by first | rfl | decide | simp [WShape.has,WShape.arms,WShape.armsAll])
  (show (WTm.eq .res (.lit (.bool true))).value [] { args:=args,res:=some (.bool true),after:=args }=some (.bool (true==true)) from w_eq_bool (w_res rfl) w_lit) rfl
theorem attach_call {l:OpenLaw} {n:Nat} {q:Program} {loose:List Str} {XP:(Str->Option Value)->Heap->Prop} {YP:World->Heap->Prop} {d:DefRec}
  (hn:l.most=some n) (hdf:d.params.defaults=[])
  (call:∀ (w:World) (s₀ s₁:Shared) (mg mb:Str->Option Value) (fa:Addr) (o:Obj) (pm cd doc:Value) (a:Addr) (vs:List Value) (ns:List Int),
   Ground q loose [] XP w s₀ mg mb s₁.heap->YP w s₁.heap->
   s₁.heap.get? fa=some o->o.data=.func (docDef d.name d.params d.body d.scope pm cd doc)->s₁.heap.CodeRec cd d.name->mg d.name=some (.ref fa)->
   s₁.heap.get? a=some { cls:=.type "list",data:=.seq vs.toArray }->IntsAre vs ns->ns.length<=n->s₁.gens=#[]->
   codeAny (model l.prog w) callerA (.call (.ref fa) ⟨[.ref a],[]⟩) (λr s'=>r=.ok (.ret (.bool true))/\OldK s₁.heap s'.heap/\s'.os=s₁.os/\AllBare s'.gens) s₁) :
  WalkO q loose XP YP l.row.toRowW d [] (λf vs=>PySem.call f vs):=by
 intro w s₀ s₁ mg mb G Y fa o pm cd doc dV kV ho hd hcd hD hmg hg args vals as hpre hlay hrd hwl hlo
 obtain rfl:dV=.none:=Dflts.none hD hdf
 obtain rfl:kV=.none:=Dflts.noKw hD
 obtain ⟨a,vs,ns,rfl,rfl,hobj,hints,hlen⟩:=Sy hn hpre hwl
 refine enter_call (codeAny_mono (call w s₀ s₁ mg mb fa o pm cd doc a vs ns G Y ho (fd_plain hd) hcd hmg hobj hints hlen hg) λr s' hq=>?_)
 obtain ⟨rfl,h2,h3,h4⟩:=hq
 exact ⟨.inl ⟨.bool true,.bool true,[],rfl,λ_=>rfl,.bool true,UD l _,λ_=>⟨List.Pairwise.nil,λ_ hm=>(nomatch hm)⟩⟩,h2,h3,h4⟩
section
variable {prog:Program} {w:World} {A:Around} {E:Value->Shared->Prop} {s:Shared} {K:Frag}
end
end Att
namespace L2
open PySem PySem.Spec PyProof.Rows
theorem M5:∀ {vs:List Value} {ns:List Int},IntsAre vs ns->Ar (ns.map V.int) vs
 | _,_,.nil=>.nil
 | _,_,.cons n t h=>.cons ⟨t,rfl⟩ (M5 h)
def Mz (H:Hp):Prop:=∀ b,H b=none\/∃ o xs,H b=some (.frz o (.lst xs))
theorem Xq {P:Program} {w:World} {K:PySem.W.Frag} {mg mb:Str->Option Value} {CX:Cz} {k:Nat} {fa a:Addr} {fd:FuncData} {x:Str} {sp:Sp} {s₁:Shared} {vs:List Value} {ns:List Int}
  (KX:K.In s₁.heap) (hns:s₁.heap.Ns mainGlobals mg) (hb:s₁.heap.Ns builtinsNs mb) (hbb:∀ x:Str,x ≠ "__name__" -> mb x=bootBuiltins x) (hlim:s₁.heap.NoLimit) (hg:s₁.gens=#[])
  (ha:s₁.heap.get? a=some { cls:=.type "list",data:=.seq vs.toArray }) (hi:IntsAre vs ns) (hl:ns.length<=sizeLine) (hr:AM k callerA)
  (F:∀ base:Heap,K.In base->base.Ns mainGlobals mg->AC P w K mg base CX k fa fd [x] sp) (hbind:∀ (s:Shared) (u:Value),BindsTo s fd ⟨[u],[]⟩ [(x,u)])
  (hsp:∀ H:Hp,Mz H->A0 K H a (ns.map V.int)->sp [.ref a] H (λv _=>v=.bl true) λ_ _ _=>False)
  (hCX:∀ H e s',CX [] H s₁ (λ_ _ _=>False) e s'->False) :
  codeAny (model P w) callerA (.call (.ref fa) ⟨[.ref a],[]⟩) (λr s'=>r=.ok (.ret (.bool true))/\OldK s₁.heap s'.heap/\s'.os=s₁.os/\AllBare s'.gens) s₁:=by
 have rv:=M5 hi
 have lenV:=hi.length
 -- from an abstract heap in which nothing but the script may be tracked
 have core:∀ H:Hp,Mz H->A0 K H a (ns.map V.int)->Bg P w H s₁.heap->(∀ b,H b≠none->b=a)->(H a≠none->K.lookup a=none)->
   codeAny (model P w) callerA (.call (.ref fa) ⟨[.ref a],[]⟩) (λr s'=>r=.ok (.ret (.bool true))/\OldK s₁.heap s'.heap/\s'.os=s₁.os/\AllBare s'.gens) s₁:=by
  intro H hO hS hok hA hK
  have base_of:∀ {b:Addr} {o:Obj},s₁.heap.get? b=some o->H b=none->(Ek s₁.heap H).get? b=some o:=λe n=>X2 e n
  have noA:∀ {b:Addr} {o:Obj} {es:Array DictEntry} {ep:Nat},s₁.heap.get? b=some o->o.data=.dict es ep->H b=none:=λ{b o es ep} e d=>by
   cases q:H b with
   | none=>rfl
   | some u=>
    have e':b=a:=hA b (by rw [q]; simp)
    subst e'
    rw [ha] at e; cases e
    have d':Data.seq vs.toArray _=Data.dict es ep:=d
    cases d'
  have nsK:∀ {b:Addr} {m:Str->Option Value},s₁.heap.Ns b m->(Ek s₁.heap H).Ns b m:=λ{b m} ⟨o,es,ep,e,d,r⟩=>⟨o,es,ep,base_of e (noA e d),d,r⟩
  have hKb:K.In (Ek s₁.heap H):=λb o e=>base_of (KX b o e) (by
   cases q:H b with
   | none=>rfl
   | some u=>
    have e':b=a:=hA b (by rw [q]; simp)
    subst e'
    rw [hK (by rw [q]; simp)] at e; cases e)
  have hM:Mod K mg (Ek s₁.heap H):=⟨hKb,nsK hns,⟨mb,nsK hb,hbb⟩,let ⟨mc,h1,h2⟩:=hlim; ⟨mc,nsK h1,h2⟩⟩
  have e0:Et P w K mg (Ek s₁.heap H) callerA [] s₁ H:=⟨rfl,hM,λb o e=>WK e,Nat.le_of_eq (X0 _ _),trivial,λb hb=>absurd (show b∈([]:List Addr) from hb) (by simp),hok,.of_eq hg⟩
  refine codeAny_mono ((F _ hKb (nsK hns)).run callerA [] s₁ H ⟨[.ref a],[]⟩ [.ref a] [.ref a] _ _ hr e0 (hbind s₁ (.ref a)) (.cons rfl .nil) (hsp H hO hS)) λr s' h=>?_
  cases r with
  | error e=>exact (hCX H e s' h).elim
  | ok fl=>
   cases fl with
   | next=>exact False.elim h
   | brk=>exact False.elim h
   | cont=>exact False.elim h
   | ret u=>
    obtain ⟨v,H',os,bare,un,hok',r',q⟩:=h
    have q':v=.bl true:=q
    subst q'
    obtain rfl:u=Value.bool true:=r'
    refine ⟨rfl,OldK.of_keep λb o e=>?_,os,bare⟩
    cases q:H b with
    | none=>exact un.keep b o e q (by intro z; exact absurd (show b∈([]:List Addr) from z) (by simp)) (by simp)
    | some u=>
     rcases hO b with z | ⟨ob,xs,z⟩
     ·rw [q] at z; cases z
     ·have z2:=un.frzs b ob _ z
      obtain ⟨e1,_⟩:=hok b _ z
      obtain ⟨e2,_⟩:=hok' b _ z2
      rw [e] at e1; cases e1
      exact e2
 cases hk:K.lookup a with
 | some o=>
  -- the script is one of the module's own objects
  have e:=KX a o hk
  rw [ha] at e
  cases e
  refine core (λ_=>none) (λ_=>.inl rfl) (.inr ⟨_,vs.toArray,_,hk,rfl,rfl,rfl,by rw [List.size_toArray,lenV]; exact hl,by simpa using rv⟩) (λb u z=>by have z':(none:Option HO)=some u:=z; cases z') (λb z=>absurd rfl z) λz=>absurd rfl z
 | none=>
  refine core (λb=>if b=a then some (.frz { cls:=.type "list",data:=.seq vs.toArray } (.lst (ns.map V.int))) else none) (λb=>?_) (.inl (.inr ⟨{ cls:=.type "list",data:=.seq vs.toArray },if_pos rfl⟩)) (λb u z=>?_) (λb z=>?_) λ_=>hk
  ·by_cases hb:b=a
   ·exact .inr ⟨_,_,if_pos hb⟩
   ·exact .inl (if_neg hb)
  ·by_cases hb:b=a
   ·have z':=(if_pos hb).symm.trans z
    cases z'
    subst hb
    exact ⟨ha,by rw [List.length_map]; exact hl,vs,_,rv,ha⟩
   ·have z':=(if_neg hb).symm.trans z
    cases z'
  ·by_cases hb:b=a
   ·exact hb
   ·exact absurd (if_neg hb) z
end L2
namespace L2
open PySem PySem.Spec PyProof.Rows
theorem walk_of {l:PySem.W.OpenLaw} {n k:Nat} {q:Program} {loose:List Str} {XP:(Str->Option Value)->Heap->Prop} {YP:World->Heap->Prop} {d:DefRec} {K:Params->PySem.W.Frag} {CX:World->Cz} {sp:World->Sp} {x:Str}
  (hn:l.most=some n) (hn2:n<=sizeLine) (hdf:d.params.defaults=[]) (hr:AM k callerA)
  (hY:∀ (w:World) (h:Heap),YP w h->(K w.params).In h)
  (F:∀ (w:World) (mg:Str->Option Value) (fa:Addr) (h:Heap),(K w.params).In h->h.Ns mainGlobals mg->mg d.name=some (.ref fa)->
   ∃ fd:FuncData,(∀ (s:Shared) (u:Value),BindsTo s fd ⟨[u],[]⟩ [(x,u)]) /\
    ∀ base:Heap,(K w.params).In base->base.Ns mainGlobals mg->AC l.prog w (K w.params) mg base (CX w) k fa fd [x] (sp w))
  (hsp:∀ (w:World) (H:Hp) (a:Addr) (ns:List Int),ns.length<=n->Mz H->A0 (K w.params) H a (ns.map V.int)->sp w [.ref a] H (λv _=>v=.bl true) λ_ _ _=>False)
  (hCX:∀ (w:World) (H:Hp) (s:Shared) (e:Value) (s':Shared),CX w [] H s (λ_ _ _=>False) e s'->False) :
  PySem.W.WalkO q loose XP YP l.row.toRowW d [] (λf vs=>PySem.call f vs):=by
 refine Att.attach_call hn hdf λw s₀ s₁ mg mb fa o pm cd doc a vs ns G Y ho hd hcd hmg hobj hints hlen hg=>?_
 have KX:=hY w _ Y
 obtain ⟨fd,hb,hF⟩:=F w mg fa _ KX G.T.g hmg
 exact Xq KX G.T.g G.T.b G.T.builtins G.T.nolimit hg hobj hints (Nat.le_trans hlen hn2) hr hF hb (λH hO hS=>hsp w H a ns hlen hO hS) λH e s'=>hCX w H s₁ e s'
end L2
namespace L2
open PySem PySem.Spec PyProof.Rows
def Bk (s:Stmt) (j:Nat):Stmt:=match s with
 | .ClassDef _ _ _ body _ _ _ _ _ _ _=>body.getD j (.Pass ⟨0,0,0,0⟩)
 | _=>.Pass ⟨0,0,0,0⟩
def CY (s:Stmt):Arguments:=match s with
 | .FunctionDef _ a _ _ _ _ _ _ _ _=>a
 | _=>{ posonlyargs:=[],args:=[],vararg:=none,kwonlyargs:=[],kw_defaults:=[],kwarg:=none,defaults:=[] }
def BR (s:Stmt):List Stmt:=match s with
 | .FunctionDef _ _ b _ _ _ _ _ _ _=>b
 | _=>[]
def Ak (s:Stmt):Scope:=match s with
 | .FunctionDef _ _ _ _ _ _ sc _ _ _=>sc
 | _=>{ kind:=.function,names:=[],isGenerator:=false,isCoroutine:=false }
abbrev AO:Cz:=λ_ _ _ _ _ _=>False
abbrev E0:XK:=λ_ _ _=>False
theorem Gz {X:Cx}:EK AO X E0:=λ_ _ _ _ _ _ _ h=>h.elim
structure Av (K:PySem.W.Frag) (x qual:Str) (st:Stmt) (f:Addr) (fd:FuncData):Prop where
 ex:∃ (oc:Value) (od:Option Addr) (kV doc pm:Value) (an:Option Addr) (cdv ct:Value) (osl:Array (Option Value)),
  fd=PySem.W.fnOf x qual (CY st) (BR st) (Ak st) .none kV doc pm an cdv ct/\K.lookup f=some ⟨oc,od,.func fd,osl⟩/\PySem.W.codeIn K cdv qual=true
 kp:PySem.W.keepIn K (.ref f)=true
section
variable {P:Program} {w:World} {K:PySem.W.Frag} {mg:Str->Option Value} {base:Heap}
theorem Av.ok {x qual:Str} {st:Stmt} {f:Addr} {fd:FuncData} {N ps:List Str} {k:Nat} {sp:Sp} (F:Av K x qual st f fd) (S:Ax N ps (Ak st)) (len:∀ vs H Q E,sp vs H Q E->vs.length=ps.length)
  (hbody:∀ (cdv:Value) (A:Around) (outer:List Env) (s:Shared) (H:Hp) (vs:List V) (Q:VK) (E:XK),AM k (A.deeper (envOfC qual (Ak st) s.heap.objs.size f cdv))->sp vs H Q E->
   ∃ t,PSs (CZ AO P w K mg base N qual (Ak st) f cdv A outer s H E).nox (BR st) t/\t { nx:=λ_ H'=>Q .non H',rt:=Q } (start N vs) H):AC P w K mg base AO (k+1) f fd ps sp:=by
 obtain ⟨oc,od,kV,doc,pm,an,cdv,ct,osl,rfl,lk,hcd⟩:=F.ex
 refine L0 lk hcd S len λA outer s H vs Q E hr hsp=>?_
 obtain ⟨t,h,q⟩:=hbody cdv A outer s H vs Q E hr hsp
 exact ⟨t,h.nox,q⟩
theorem Av.binds {x qual:Str} {st:Stmt} {f:Addr} {fd:FuncData} {ps:List Str} (F:Av K x qual st f fd)
  (h:∀ (kV doc pm:Value) (an:Option Addr) (cdv ct:Value) (us:List Value),us.length=ps.length->bindArgs (PySem.W.fnOf x qual (CY st) (BR st) (Ak st) .none kV doc pm an cdv ct) ⟨us,[]⟩=pure (ps.zip us)):Binds K fd ps []:=by
 obtain ⟨oc,od,kV,doc,pm,an,cdv,ct,osl,rfl,lk,hcd⟩:=F.ex
 exact .all (h kV doc pm an cdv ct)
theorem LU {x qual:Str} {st:Stmt} {f:Addr} {oc:Value} {od an:Option Addr} {osl:Array (Option Value)} {kV doc pm cdv ct:Value} (l:K.lookup f=some ⟨oc,od,.func (PySem.W.fnOf x qual (CY st) (BR st) (Ak st) .none kV doc pm an cdv ct),osl⟩)
  (c:PySem.W.codeIn K cdv qual=true) (k:PySem.W.keepIn K (.ref f)=true):Av K x qual st f (PySem.W.fnOf x qual (CY st) (BR st) (Ak st) .none kV doc pm an cdv ct):=⟨⟨oc,od,kV,doc,pm,an,cdv,ct,osl,rfl,l,c⟩,k⟩
end
theorem XW {A:Around} {k:Nat} (hr:AM k A):A.units+1<cLine:=Nat.lt_of_le_of_lt (Nat.add_le_add_left (by decide:1<=64) _) hr.units
theorem Sg {n:Nat} (h:n<=1000):n<sizeLine:=Nat.lt_of_le_of_lt h wE
section
variable {X:Cx}
end
theorem H0 {A B:Prop} (h:B):if false=true then A else B:=by
 rw [if_neg Bool.false_ne_true]
 exact h
theorem HZ {A B:Prop} (h:A):if true=true then A else B:=by
 rw [if_pos rfl]
 exact h
def Bm (H H':Hp):Prop:=∀ b o,H b=some o->H' b=some o
theorem Bm.refl (H:Hp):Bm H H:=λ_ _ h=>h
theorem Bm.trans {H H1 H2:Hp} (a:Bm H H1) (b:Bm H1 H2):Bm H H2:=λc o h=>b c o (a c o h)
theorem Bm.free {H H':Hp} (e:Bm H H') {l:Addr} (h:H' l=Option.none):H l=Option.none:=by
 cases q:H l with
 | none=>rfl
 | some o=>
  rw [e l o q] at h
  cases h
theorem Bm.seq {K:PySem.W.Frag} {H H':Hp} {a:Addr} {xs:List V} (e:Bm H H') (h:A0 K H a xs):A0 K H' a xs:=by
 rcases h with (h | ⟨o,h⟩) | h
 ·exact .inl (.inl (e _ _ h))
 ·exact .inl (.inr ⟨o,e _ _ h⟩)
 ·exact .inr h
end L2
namespace L2
open PySem PySem.Spec PyProof.Rows
section
variable {κ:Type} [DecidableEq κ]
end
section
variable {P:Program} {w:World} {H:Hp} {h:Heap} {a:Addr}
end
section
variable {X:Cx} {pins:List (Addr×Obj)} {σ:St} {H:Hp} {s:Shared} {a:Addr} {y v:V} {u r:Value} {o:Option V} {A:Around} {E:Value->Shared->Prop}
theorem Inv.big (I:Inv X pins σ H s):sysModules<s.heap.objs.size:=by
 have h:mainGlobals<s.heap.objs.size:=(I.mod.glob.keeps I.bk).lt
 exact Nat.lt_trans wE h
end
section
variable {X:Cx} {pins:List (Addr×Obj)} {σ:St} {H:Hp} {s:Shared} {a:Addr} {kvs:List (AS×V)} {k:AS} {u:Value} {A:Around} {E:Value->Shared->Prop}
end
section
variable {X:Cx} {o i e value:Expr} {pos pos' tpos:Pos} {td ty tv:TE}
end
theorem Zh {P:Program} {w:World} {H:Hp} (h:Heap) (hb:sysModules<h.objs.size):BI P w H (h.push { cls:=.type "dict",data:=.dict #[] }) h.objs.size (.dK []):=
 ⟨Nat.zero_le _,beq_eq_false_iff_ne.mpr (Ne.symm (Nat.ne_of_lt hb)),[],.nil,Heap.DictOf.new h⟩
def RV:TE:=λ_ H Q=>∀ p,H p=none->Q (.ref p) (Ap H p (.dK []))
section
variable {X:Cx} {pos:Pos}
theorem U4:PE X (.Dict [] [] pos) RV:=λpins s σ H Q I h=>
 wpAny_Dict_empty ⟨.ref s.heap.objs.size,_,I.laid (a:=s.heap.objs.size) (o:=.dK []) (t':=s.toks) (λ_ _ q=>Heap.get?_push_of_some _ q) (Nat.le_refl _) (Zh s.heap I.big),rfl,h _ (I.hok.fresh (Nat.le_refl _))⟩
end
def RI:List (TE×TE)->St->Hp->(List (V×V)->Hp->Prop)->Prop
 | [],_,H,Q=>Q [] H
 | (tk,tv)::r,σ,H,Q=>tk σ H λx H1=>tv σ H1 λy H2=>RI r σ H2 λps H3=>Q ((x,y)::ps) H3
structure M1 (X:Cx) (o:Expr) (m:Str) (apos:Pos) (e:Expr) (cpos:Pos):Prop where
 base:attributeBase o m X.env (eval o X.env)=eval o X.env
 few:((backTo cpos (starEach [e] X.env)).all (λx=>!x.1)&&(backToKw cpos (keywordEach [] X.env)).all (λx=>x.1.isSome)
  && decide (([e]:List Expr).length+([]:List Keyword).length+(if ([]:List Keyword).isEmpty then 0 else 1)<30))=true
 line:(apos.endLine==cpos.line)=true
 trees:backTo cpos (starEach [e] X.env)=[(false,eval e X.env)]
structure M2 (X:Cx) (o:Expr) (m:Str) (apos:Pos) (e f:Expr) (cpos:Pos):Prop where
 base:attributeBase o m X.env (eval o X.env)=eval o X.env
 few:((backTo cpos (starEach [e,f] X.env)).all (λx=>!x.1)&&(backToKw cpos (keywordEach [] X.env)).all (λx=>x.1.isSome)
  && decide (([e,f]:List Expr).length+([]:List Keyword).length+(if ([]:List Keyword).isEmpty then 0 else 1)<30))=true
 line:(apos.endLine==cpos.line)=true
 trees:backTo cpos (starEach [e,f] X.env)=[(false,eval e X.env),(false,eval f X.env)]
section
variable {X:Cx} {pins:List (Addr×Obj)} {σ:St} {H:Hp} {s:Shared} {a:Addr} {y d:V} {u r:Value} {o:Option V} {A:Around} {E:Value->Shared->Prop}
end
section
variable {X:Cx} {o e f:Expr} {apos cpos:Pos} {td ty tx:TE}
end
section
variable {X:Cx} {pins:List (Addr×Obj)} {σ:St} {H:Hp} {s:Shared} {a:Addr} {kvs:List (AS×V)} {A:Around} {E:Value->Shared->Prop}
end
section
variable {X:Cx} {pins:List (Addr×Obj)} {σ:St} {H:Hp} {s:Shared} {a:Addr} {y:V} {u:Value} {A:Around} {E:Value->Shared->Prop}
end
section
variable {X:Cx}
end
section
variable {κ:Type} [DecidableEq κ]
end
end L2
namespace DL
open PySem PySem.Spec PyProof.Rows L2
inductive D where
 | non | bl (b:Bool) | int (i:Int) | str (x:Str) | tup (xs:List D) | lst (xs:List D) | scr (xs:List D) | ptr (n:Nat) | ty (n:String) | fn (a:Addr) | dct (ks:List AS) (xs:List D)
structure Wd where
 g:Hp
 l:List Addr
structure Ah (G G':Wd):Prop where
 g:Bm G.g G'.g
 l:∃ t,G'.l=G.l++t
theorem Ah.refl (G:Wd):Ah G G:=⟨Bm.refl _,[],(List.append_nil _).symm⟩
theorem Ah.trans {G G' G'':Wd} (a:Ah G G') (b:Ah G' G''):Ah G G'':=⟨a.g.trans b.g,by
 obtain ⟨t,e⟩:=a.l; obtain ⟨u,e'⟩:=b.l; exact ⟨t++u,by rw [e',e,List.append_assoc]⟩⟩
theorem Ah.at {G G':Wd} {n:Nat} {a:Addr} (e:Ah G G') (h:G.l[n]?=some a):G'.l[n]?=some a:=by
 obtain ⟨t,e⟩:=e.l
 rw [e,List.getElem?_append_left (List.getElem?_eq_some_iff.mp h).1,h]
mutual
inductive Is (K:PySem.W.Frag) (G:Wd):D->V->Prop
 | non:Is K G .non .non
 | bl (b:Bool):Is K G (.bl b) (.bl b)
 | int (i:Int):Is K G (.int i) (.int i)
 | str (x:Str):Is K G (.str x) (.str x)
 | tup {a:Addr} {ds:List D} {vs:List V} (h:A1 K G.g a vs) (r:Aj K G ds vs):Is K G (.tup ds) (.ref a)
 | lst {a:Addr} {ds:List D} {vs:List V} (h:G.g a=some (.lst vs)) (r:Aj K G ds vs):Is K G (.lst ds) (.ref a)
 | scr {a:Addr} {ds:List D} {vs:List V} (h:A0 K G.g a vs) (r:Aj K G ds vs):Is K G (.scr ds) (.ref a)
 | ptr {a:Addr} (n:Nat) (h:G.l[n]?=some a):Is K G (.ptr n) (.ref a)
 | ty (n:String):Is K G (.ty n) (.ty n)
 | fn (a:Addr):Is K G (.fn a) (.ref a)
 | dct {a:Addr} {ks:List AS} {ds:List D} {vs:List V} {ob:Obj} (h:G.g a=some (.frz ob (.dK (ks.zip vs)))) (hl:ks.length=vs.length) (r:Aj K G ds vs):Is K G (.dct ks ds) (.ref a)
inductive Aj (K:PySem.W.Frag) (G:Wd):List D->List V->Prop
 | nil:Aj K G [] []
 | cons {d:D} {v:V} {ds:List D} {vs:List V} (h:Is K G d v) (r:Aj K G ds vs):Aj K G (d::ds) (v::vs)
end
theorem C6 {K:PySem.W.Frag} {H H':Hp} {a:Addr} {xs:List V} (e:Bm H H') (h:A1 K H a xs):A1 K H' a xs:=by
 rcases h with (h | ⟨o,h⟩) | h
 ·exact .inl (.inl (e _ _ h))
 ·exact .inl (.inr ⟨o,e _ _ h⟩)
 ·exact .inr h
mutual
theorem Is.ext {K:PySem.W.Frag} {G G':Wd} (e:Ah G G'):∀ {d:D} {v:V},Is K G d v->Is K G' d v
 | _,_,.non=>.non
 | _,_,.bl b=>.bl b
 | _,_,.int i=>.int i
 | _,_,.str x=>.str x
 | _,_,.tup h r=>.tup (C6 e.g h) (Aj.ext e r)
 | _,_,.lst h r=>.lst (e.g _ _ h) (Aj.ext e r)
 | _,_,.scr h r=>.scr (e.g.seq h) (Aj.ext e r)
 | _,_,.ptr n h=>.ptr n (e.at h)
 | _,_,.ty n=>.ty n
 | _,_,.fn n=>.fn n
 | _,_,.dct h hl r=>.dct (e.g _ _ h) hl (Aj.ext e r)
theorem Aj.ext {K:PySem.W.Frag} {G G':Wd} (e:Ah G G'):∀ {ds:List D} {vs:List V},Aj K G ds vs->Aj K G' ds vs
 | _,_,.nil=>.nil
 | _,_,.cons h r=>.cons (Is.ext e h) (Aj.ext e r)
end
section
variable {K:PySem.W.Frag} {G G':Wd}
theorem Aj.length:∀ {ds:List D} {vs:List V},Aj K G ds vs->ds.length=vs.length
 | _,_,.nil=>rfl
 | _,_,.cons _ r=>by rw [List.length_cons,List.length_cons,r.length]
theorem Aj.append:∀ {ds es:List D} {vs us:List V},Aj K G ds vs->Aj K G es us->Aj K G (ds++es) (vs++us)
 | _,_,_,_,.nil,q=>q
 | _,_,_,_,.cons h r,q=>.cons h (Aj.append r q)
theorem Aj.get:∀ {ds:List D} {vs:List V} {i:Nat} {d:D},Aj K G ds vs->ds[i]?=some d->∃ v,vs[i]?=some v/\Is K G d v
 | _,_,_,_,.nil,e=>by simp at e
 | _,_,0,_,.cons h r,e=>by simp at e; subst e; exact ⟨_,rfl,h⟩
 | _,_,i+1,d,.cons h r,e=>by
  obtain ⟨v,e1,h1⟩:=Aj.get (i:=i) (d:=d) r (by simpa using e)
  exact ⟨v,by simpa using e1,h1⟩
theorem Aj.getV:∀ {ds:List D} {vs:List V} {i:Nat} {v:V},Aj K G ds vs->vs[i]?=some v->∃ d,ds[i]?=some d/\Is K G d v
 | _,_,_,_,.nil,e=>by simp at e
 | _,_,0,_,.cons h r,e=>by simp at e; subst e; exact ⟨_,rfl,h⟩
 | _,_,i+1,d,.cons h r,e=>by
  obtain ⟨v,e1,h1⟩:=Aj.getV (i:=i) (v:=d) r (by simpa using e)
  exact ⟨v,by simpa using e1,h1⟩
theorem Aj.take:∀ {ds:List D} {vs:List V} (n:Nat),Aj K G ds vs->Aj K G (ds.take n) (vs.take n)
 | _,_,0,_=>.nil
 | _,_,_+1,.nil=>.nil
 | _,_,n+1,.cons h r=>.cons h (Aj.take n r)
theorem Aj.drop:∀ {ds:List D} {vs:List V} (n:Nat),Aj K G ds vs->Aj K G (ds.drop n) (vs.drop n)
 | _,_,0,h=>h
 | _,_,_+1,.nil=>.nil
 | _,_,n+1,.cons h r=>Aj.drop n r
theorem Aj.set {d:D} {v:V} (q:Is K G d v):∀ {ds:List D} {vs:List V} (i:Nat),Aj K G ds vs->Aj K G (ds.set i d) (vs.set i v)
 | _,_,_,.nil=>.nil
 | _,_,0,.cons _ r=>.cons q r
 | _,_,i+1,.cons h r=>.cons h (Aj.set q i r)
theorem Aj.ints:∀ {ns:List Int},Aj K G (ns.map D.int) (ns.map V.int)
 | []=>.nil
 | n::ns=>.cons (.int n) (Aj.ints (ns:=ns))
theorem Aj.toInts:∀ {ns:List Int} {vs:List V},Aj K G (ns.map D.int) vs->vs=ns.map V.int
 | [],_,.nil=>rfl
 | n::ns,_,.cons h r=>by cases h; rw [Aj.toInts r]; rfl
end
def _root_.L2.ctxOf (o:Obj):Option Value:=match o.data with | .fields vs=>vs[2]? | _=>none
inductive MO where
 | lst (xs:List D)
 | ins (C:Addr) (fs:List (Str×D))
 | exc (C:Addr) (fs:List (Str×D)) (h:Option Addr:=none)
 | dct (ks:List AS) (xs:List D)
 | pin (ob:Obj) (vs:List V) (ks:List AS) (xs:List D)
abbrev Ae:=List (Option MO)
inductive Bc (K:PySem.W.Frag) (G:Wd):List (Str×D)->List (Str×V)->Prop
 | nil:Bc K G [] []
 | cons {f:Str} {d:D} {v:V} {fs:List (Str×D)} {vs:List (Str×V)} (h:Is K G d v) (r:Bc K G fs vs):Bc K G ((f,d)::fs) ((f,v)::vs)
theorem Bc.ext {K:PySem.W.Frag} {G G':Wd} (e:Ah G G'):∀ {fs:List (Str×D)} {vs:List (Str×V)},Bc K G fs vs->Bc K G' fs vs
 | _,_,.nil=>.nil
 | _,_,.cons h r=>.cons (h.ext e) (Bc.ext e r)
def EN (K:PySem.W.Frag) (G:Wd) (H:Hp) (p:Addr):MO->Prop
 | .lst xs=>∃ vs,H p=some (.lst vs)/\Aj K G xs vs
 | .ins C fs=>∃ dx vs,H p=some (.ins C dx vs)/\Bc K G fs vs
 | .exc C fs h=>∃ ob,H p=some (.ext λh=>h.get? p=some ob)/\(ob.cls=.ref C/\∃ ws,ob.data=.fields ws)/\(fs=[]\/∃ dx vs,ob.dict=some dx/\G.g dx=some (.xd vs)/\Bc K G fs vs)/\∀ a,h=some a->p=a/\L2.ctxOf ob=some .none
 | .dct ks xs=>∃ vs,H p=some (.dK (ks.zip vs))/\ks.length=vs.length/\Aj K G xs vs
 | .pin ob vs ks xs=>H p=some (.frz ob (.dK (ks.zip vs)))/\ks.length=vs.length/\Aj K G xs vs
structure SA (K:PySem.W.Frag) (G:Wd) (H:Hp) (O:Ae):Prop where
 sub:Bm G.g H
 len:G.l.length=O.length
 nd:G.l.Nodup
 liv:∀ a∈G.l,∃ o,H a=some o
 mt:∀ (n:Nat) (m:MO),O[n]?=some (some m)->∃ a,G.l[n]?=some a/\G.g a=none/\EN K G H a m
section
variable {K:PySem.W.Frag} {G G':Wd} {H H':Hp} {O:Ae}
theorem EN.ext {p:Addr} {m:MO} (e:Ah G G') (q:H' p=H p) (h:EN K G H p m):EN K G' H' p m:=by
 cases m with
 | lst xs=>obtain ⟨vs,h1,h2⟩:=h; exact ⟨vs,by rw [q]; exact h1,h2.ext e⟩
 | ins C fs=>obtain ⟨dx,vs,h1,h2⟩:=h; exact ⟨dx,vs,by rw [q]; exact h1,h2.ext e⟩
 | exc C fs ha=>
  obtain ⟨ob,h1,h2,h3,h4⟩:=h
  refine ⟨ob,by rw [q]; exact h1,h2,h3.imp id ?_,h4⟩
  rintro ⟨dx,vs,a1,a2,a3⟩
  exact ⟨dx,vs,a1,e.g _ _ a2,a3.ext e⟩
 | dct ks xs=>obtain ⟨vs,h1,hl,h2⟩:=h; exact ⟨vs,by rw [q]; exact h1,hl,h2.ext e⟩
 | pin ob vs ks xs=>obtain ⟨h1,hl,h2⟩:=h; exact ⟨by rw [q]; exact h1,hl,h2.ext e⟩
theorem EN.some {p:Addr} {m:MO} (h:EN K G H p m):∃ o,H p=some o:=by
 cases m with
 | lst xs=>obtain ⟨vs,h1,h2⟩:=h; exact ⟨_,h1⟩
 | ins C fs=>obtain ⟨dx,vs,h1,h2⟩:=h; exact ⟨_,h1⟩
 | exc C fs ha=>obtain ⟨ob,h1,_⟩:=h; exact ⟨_,h1⟩
 | dct ks xs=>obtain ⟨vs,h1,_⟩:=h; exact ⟨_,h1⟩
 | pin ob vs ks xs=>exact ⟨_,h.1⟩
theorem SA.free {p:Addr} (s:SA K G H O) (h:H p=none):G.g p=none:=s.sub.free h
theorem SA.grow (s:SA K G H O) (e:Bm H H'):SA K G H' O:=
 ⟨s.sub.trans e,s.len,s.nd,λa ha=>let ⟨o,h⟩:=s.liv a ha; ⟨o,e _ _ h⟩,λn m h=>by
  obtain ⟨a,h1,h2,h3⟩:=s.mt n m h
  obtain ⟨o,h4⟩:=h3.some
  exact ⟨a,h1,h2,h3.ext (Ah.refl _) (by rw [h4,e _ _ h4])⟩⟩
theorem Gt {p:Addr} {o:HO} (h:H p=none):Bm H (Ap H p o):=λb u q=>by
 rw [AB]; exact q
 rintro rfl; rw [h] at q; cases q
theorem SA.laid {p:Addr} {o:HO} (s:SA K G H O) (h:H p=none):Ah G ⟨Ap G.g p o,G.l⟩/\SA K ⟨Ap G.g p o,G.l⟩ (Ap H p o) O:=by
 have e:Ah G ⟨Ap G.g p o,G.l⟩:=⟨Gt (s.free h),[],(List.append_nil _).symm⟩
 refine ⟨e,⟨λb u q=>?_,s.len,s.nd,λa ha=>let ⟨o,q⟩:=s.liv a ha; ⟨o,Gt h _ _ q⟩,λn m hq=>?_⟩⟩
 ·by_cases hb:b=p
  ·subst hb
   have q:Ap G.g b o b=some u:=q
   rw [AW] at q; rw [AW]; exact q
  ·have q:Ap G.g p o b=some u:=q
   rw [AB hb] at q ⊢; exact s.sub b u q
 ·obtain ⟨a,h1,h2,h3⟩:=s.mt n m hq
  have ne:a≠p:=by
   rintro rfl; obtain ⟨o,h4⟩:=h3.some; rw [h] at h4; cases h4
  exact ⟨a,h1,by show Ap G.g p o a=none; rw [AB ne]; exact h2,h3.ext e (AB ne)⟩
theorem SA.new {p:Addr} {o:HO} {m:MO} (s:SA K G H O) (h:H p=none) (r:EN K ⟨G.g,G.l++[p]⟩ (Ap H p o) p m):Ah G ⟨G.g,G.l++[p]⟩/\SA K ⟨G.g,G.l++[p]⟩ (Ap H p o) (O++[some m]):=by
 have e:Ah G ⟨G.g,G.l++[p]⟩:=⟨Bm.refl _,[p],rfl⟩
 have hp:p∉G.l:=λz=>by obtain ⟨o,q⟩:=s.liv p z; rw [h] at q; cases q
 refine ⟨e,⟨s.sub.trans (Gt h),?_,?_,?_,?_⟩⟩
 ·simp [s.len]
 ·exact List.nodup_append.mpr ⟨s.nd,List.nodup_cons.mpr ⟨List.not_mem_nil,List.nodup_nil⟩,λa ha b hb=>by
   rw [List.mem_singleton] at hb; subst hb; rintro rfl; exact hp ha⟩
 ·intro a ha
  rcases List.mem_append.mp ha with ha | ha
  ·obtain ⟨u,q⟩:=s.liv a ha; exact ⟨u,Gt h _ _ q⟩
  ·rw [List.mem_singleton] at ha; subst ha; exact ⟨_,AW⟩
 ·intro n m' hq
  by_cases hn:n<O.length
  ·rw [List.getElem?_append_left hn] at hq
   obtain ⟨a,h1,h2,h3⟩:=s.mt n m' hq
   have ne:a≠p:=by rintro rfl; exact hp (List.mem_of_getElem? h1)
   exact ⟨a,e.at h1,h2,h3.ext e (AB ne)⟩
  ·have e1:n=O.length:=by
    have:=(List.getElem?_eq_some_iff.mp hq).1
    rw [List.length_append,List.length_singleton] at this
    omega
   subst e1
   rw [List.getElem?_append_right (Nat.le_refl _),Nat.sub_self] at hq
   cases hq
   exact ⟨p,by show (G.l++[p])[O.length]?=_; rw [<- s.len,List.getElem?_append_right (Nat.le_refl _),Nat.sub_self]; rfl,s.free h,r⟩
theorem SA.put {n:Nat} {p:Addr} {o:HO} {m m':MO} (s:SA K G H O) (h:O[n]?=some (some m)) (hp:G.l[n]?=some p) (r:EN K G (Ap H p o) p m'):SA K G (Ap H p o) (O.set n (some m')):=by
 obtain ⟨a,h1,h2,h3⟩:=s.mt n m h
 obtain rfl:p=a:=Option.some.inj (hp.symm.trans h1)
 refine ⟨λb u q=>?_,by simp [s.len],s.nd,λb hb=>?_,λk m2 hk=>?_⟩
 ·rw [AB]; exact s.sub b u q
  rintro rfl; rw [h2] at q; cases q
 ·by_cases hbp:b=p
  ·subst hbp; exact ⟨_,AW⟩
  ·obtain ⟨u,q⟩:=s.liv b hb; exact ⟨u,by rw [AB hbp]; exact q⟩
 ·by_cases hkn:n=k
  ·subst hkn
   rw [List.getElem?_set_self (List.getElem?_eq_some_iff.mp h).1] at hk
   cases hk
   exact ⟨p,hp,h2,r⟩
  ·rw [List.getElem?_set_ne hkn] at hk
   obtain ⟨b,g1,g2,g3⟩:=s.mt k m2 hk
   have ne:b≠p:=by
    rintro rfl
    exact hkn ((List.getElem?_inj (List.getElem?_eq_some_iff.mp hp).1 s.nd).mp (hp.trans g1.symm))
   exact ⟨b,g1,g2,g3.ext (Ah.refl _) (AB ne)⟩
end
abbrev Ai:=List (Option D)
structure Au (K:PySem.W.Frag) (G:Wd) (σ:L2.St) (ρ:Ai):Prop where
 len:σ.length=ρ.length
 get:∀ (i:Nat) (d:D),ρ[i]?=some (some d)->∃ v,σ[i]?=some (some v)/\Is K G d v
theorem Au.ext {K:PySem.W.Frag} {G G':Wd} {σ:L2.St} {ρ:Ai} (e:Ah G G') (h:Au K G σ ρ):Au K G' σ ρ:=
 ⟨h.len,λi d q=>let ⟨v,h1,h2⟩:=h.get i d q; ⟨v,h1,h2.ext e⟩⟩
theorem Au.set {K:PySem.W.Frag} {G:Wd} {σ:L2.St} {ρ:Ai} {d:D} {v:V} (i:Nat) (h:Au K G σ ρ) (q:Is K G d v):Au K G (σ.set i (some v)) (ρ.set i (some d)):=by
 refine ⟨by simp [h.len],λj e hj=>?_⟩
 by_cases hij:i=j
 ·subst hij
  by_cases hl:i<ρ.length
  ·rw [List.getElem?_set_self hl] at hj
   cases hj
   exact ⟨v,List.getElem?_set_self (by rw [h.len]; exact hl),q⟩
  ·rw [List.getElem?_eq_none (by simp; omega)] at hj; cases hj
 ·rw [List.getElem?_set_ne hij] at hj ⊢
  exact h.get j e hj
def Ev (X:Cx) (ρ:Ai) (O:Ae) (e:Expr) (R:D->Ae->Prop):Prop:=
 ∀ G,PE X e (λσ H Q=>SA X.K G H O/\Au X.K G σ ρ/\∀ v d O' G' H',Ah G G'->SA X.K G' H' O'->Is X.K G' d v->R d O'->Q v H')
def Ad (X:Cx) (ρ:Ai) (O:Ae) (e:Expr) (d:D):Prop:=
 ∀ G,PE X e (λσ H Q=>SA X.K G H O/\Au X.K G σ ρ/\∀ v G' H',Ah G G'->SA X.K G' H' O->Is X.K G' d v->Q v H')
def AH (X:Cx) (ρ:Ai) (O:Ae) (e:Expr) (b:Bool):Prop:=
 ∀ G,PT X e (λσ H Q=>SA X.K G H O/\Au X.K G σ ρ/\∀ G' H',Ah G G'->SA X.K G' H' O->Q b H')
def BJ (X:Cx) (ρ:Ai) (O:Ae) (e:Expr) (b:Bool):Prop:=
 ∀ G,PW X e (λσ H Q=>SA X.K G H O/\Au X.K G σ ρ/\∀ G' H',Ah G G'->SA X.K G' H' O->Q b H')
def EQ (X:Cx) (ρ:Ai) (O:Ae) (es:List Expr) (R:List D->Ae->Prop):Prop:=
 ∀ G,PA X es (λσ H Q=>SA X.K G H O/\Au X.K G σ ρ/\∀ vs ds O' G' H',Ah G G'->SA X.K G' H' O'->Aj X.K G' ds vs->R ds O'->Q vs H')
theorem _root_.L2.PE.imp {X:Cx} {e:Expr} {t u:TE} (h:PE X e t) (k:∀ σ H Q,u σ H Q->t σ H Q):PE X e u:=λpins s σ H Q I q=>h pins s σ H Q I (k _ _ _ q)
theorem _root_.L2.PT.imp {X:Cx} {e:Expr} {t u:TT} (h:PT X e t) (k:∀ σ H Q,u σ H Q->t σ H Q):PT X e u:=λpins s σ H Q I q=>h pins s σ H Q I (k _ _ _ q)
theorem _root_.L2.PA.imp {X:Cx} {es:List Expr} {t u:TA} (h:PA X es t) (k:∀ σ H Q,u σ H Q->t σ H Q):PA X es u:=λpos pins s σ H Q I q=>h pos pins s σ H Q I (k _ _ _ q)
theorem _root_.L2.PS.imp {X:Cx} {e:Stmt} {t u:TS} (h:PS X e t) (k:∀ D σ H,u D σ H->t D σ H):PS X e u:=λpins s σ H D I q=>h pins s σ H D I (k _ _ _ q)
theorem _root_.L2.PSs.imp {X:Cx} {e:List Stmt} {t u:TS} (h:PSs X e t) (k:∀ D σ H,u D σ H->t D σ H):PSs X e u:=λpins s σ H D I q=>h pins s σ H D I (k _ _ _ q)
section
variable {X:Cx} {ρ:Ai} {O:Ae} {e a b c:Expr} {d da db:D} {R:D->Ae->Prop} {pos:Pos}
theorem Ad.ev (h:Ad X ρ O e d) (r:R d O):Ev X ρ O e R:=λG=>(h G).imp λσ H Q ⟨s,n,k⟩=>⟨s,n,λv G' H' e1 s' i=>k v d O G' H' e1 s' i r⟩
theorem Ev.evp (h:Ev X ρ O e λd' O'=>d'=d/\O'=O):Ad X ρ O e d:=λG=>(h G).imp λσ H Q ⟨s,n,k⟩=>⟨s,n,λv d' O' G' H' e1 s' i r=>by obtain ⟨rfl,rfl⟩:=r; exact k v G' H' e1 s' i⟩
theorem Ad.cast {d':D} (h:Ad X ρ O e d) (q:d=d'):Ad X ρ O e d':=q ▸ h
theorem BJ.t (h:BJ X ρ O e b'):AH X ρ O e b':=λG=>(h G).pt
theorem AH.cast {k k':Bool} (h:AH X ρ O e k) (q:k=k'):AH X ρ O e k':=q ▸ h
theorem Aa (i:Nat) {x:Str} {p:Pos} (hr:ρ[i]?=some (some d):=by rfl) (hN:X.N[i]?=some x:=by rfl) (hv:C1 X.env.scope x:=by first | exact Or.inl rfl | exact Or.inr (Or.inl rfl) | exact Or.inr (Or.inr rfl))
  (hd:(x==("__debug__" : Str))=false:=by decide) (hcd:(x==("__classdict__" : Str))=false:=by decide):Ad X ρ O (.Name x p) d:=λG=>
 PE.imp (Lf hN hv hd hcd) λσ H Q ⟨s,n,k⟩=>by
  obtain ⟨v,e1,i1⟩:=n.get i d hr
  exact ⟨v,e1,k v G H (Ah.refl _) s i1⟩
theorem Ag {i:Int} {j:Nat}:Ad X ρ O (.Constant (.int i) j pos) (.int i):=λG=>PE.imp U2 λσ H Q ⟨s,n,k⟩=>k _ G H (Ah.refl _) s (.int i)
theorem Bo {i:Bool} {j:Nat}:Ad X ρ O (.Constant (.bool i) j pos) (.bl i):=λG=>PE.imp U7 λσ H Q ⟨s,n,k⟩=>k _ G H (Ah.refl _) s (.bl i)
theorem C9 {j:Nat}:Ad X ρ O (.Constant .none j pos) .non:=λG=>PE.imp UY λσ H Q ⟨s,n,k⟩=>k _ G H (Ah.refl _) s .non
theorem A7 {x:Str} {j:Nat}:Ad X ρ O (.Constant (.str x) j pos) (.str x):=λG=>PE.imp UU λσ H Q ⟨s,n,k⟩=>k _ G H (Ah.refl _) s (.str x)
def AY (X:Cx) (O:Ae) (f:Value->Value->Sem Value) (da db d:D):Prop:=
 ∀ G,BH X f (λv u H Q=>SA X.K G H O/\Is X.K G da v/\Is X.K G db u/\∀ w G' H',Ah G G'->SA X.K G' H' O->Is X.K G' d w->Q w H')
theorem AY.of {f:Value->Value->Sem Value} {r:R2} (ho:BH X f r)
  (k:∀ G v u H Q,SA X.K G H O->Is X.K G da v->Is X.K G db u->(∀ w G' H',Ah G G'->SA X.K G' H' O->Is X.K G' d w->Q w H')->r v u H Q):AY X O f da db d:=
 λG pins s σ H x y v u Q I rx ry ⟨h1,h2,h3,h4⟩=>ho pins s σ H x y v u Q I rx ry (k G _ _ _ _ h1 h2 h3 h4)
theorem An {op:Operator} (ha:Ad X ρ O a da) (hb:Ad X ρ O b db) (ho:AY X O (binaryOp op) da db d):Ad X ρ O (.BinOp a op b pos) d:=λG pins s σ H Q I ⟨h1,h2,h3⟩=>
 wpAny_BinOp (Fp (ta:=λσ H Q=>SA X.K G H O/\Au X.K G σ ρ/\∀ v G' H',Ah G G'->SA X.K G' H' O->Is X.K G' da v->Q v H') (ha G)
  (tb:=λσ H Q=>∃ G1 v0,SA X.K G1 H O/\Au X.K G1 σ ρ/\∀ v G' H',Ah G1 G'->SA X.K G' H' O->Is X.K G' db v->Q v H') (λpins s σ H Q I ⟨G1,_,q⟩=>hb G1 pins s σ H Q I q) I
  (R:=λx y H2=>∃ G2,Ah G G2/\SA X.K G2 H2 O/\Is X.K G2 da x/\Is X.K G2 db y)
  ⟨h1,h2,λv G1 H1 e1 s1 i1=>⟨G1,(0:Nat),s1,h2.ext e1,λu G2 H2 e2 s2 i2=>⟨G2,e1.trans e2,s2,i1.ext e2,i2⟩⟩⟩
  λv u s2 x y H2 I2 rx ry ⟨G2,e2,s2',i1,i2⟩=>ho G2 pins s2 σ H2 x y v u Q I2 rx ry ⟨s2',i1,i2,λw G3 H3 e3 s3 i3=>h3 w G3 H3 (e2.trans e3) s3 i3⟩)
theorem OI {f:Value->Value->Sem Value} {g:Int->Int->Int} {i j:Int} (ho:BH X f (Eb λi j=>.int (g i j))):AY X O f (.int i) (.int j) (.int (g i j)):=
 .of ho λG v u H Q s h1 h2 k=>by cases h1; cases h2; exact ⟨i,j,rfl,rfl,k _ G H (Ah.refl _) s (.int _)⟩
theorem Lm {f:Value->Value->Sem Value} {C:Int->Int->Prop} {g:Int->Int->Int} {i j:Int} (ho:BH X f (rI C λi j=>.int (g i j))) (hc:C i j):AY X O f (.int i) (.int j) (.int (g i j)):=
 .of ho λG v u H Q s h1 h2 k=>by cases h1; cases h2; exact ⟨i,j,rfl,rfl,hc,k _ G H (Ah.refl _) s (.int _)⟩
theorem Ln {f:Value->Value->Sem Value} {g:Int->Int->Bool} {i j:Int} (ho:BH X f (Eb λi j=>.bl (g i j))):AY X O f (.int i) (.int j) (.bl (g i j)):=
 .of ho λG v u H Q s h1 h2 k=>by cases h1; cases h2; exact ⟨i,j,rfl,rfl,k _ G H (Ah.refl _) s (.bl _)⟩
theorem Bq {i j:Int}:AY X O (binaryOp .Add) (.int i) (.int j) (.int (i+j)):=OI Vq
theorem Fe {i j:Int}:AY X O (binaryOp .Sub) (.int i) (.int j) (.int (i-j)):=OI Vd
theorem Vf:BH X (binaryOp .Mult) (rI IntMulOk λi j=>.int (i*j)):=Li λ_ _ _ _ _ _ _ hc q=>mul_int q hc
theorem B8 {i j:Int} (h:IntMulOk i j):AY X O (binaryOp .Mult) (.int i) (.int j) (.int (i*j)):=Lm Vf h
theorem CP {i j:Int} (h:QP i j):AY X O (binaryOp .FloorDiv) (.int i) (.int j) (.int (i/j)):=Lm Vm h
theorem BE {i j:Int} (h:0<j):AY X O (binaryOp .Mod) (.int i) (.int j) (.int (i%j)):=Lm (C:=λ_ j=>0<j) Vg h
theorem Dm {i j:Int}:AY X O (compareOp .Lt) (.int i) (.int j) (.bl (decide (i<j))):=Ln Vh
theorem IF {i j:Int}:AY X O (compareOp .LtE) (.int i) (.int j) (.bl (decide (i<=j))):=Ln Vi
theorem Zx {i j:Int}:AY X O (compareOp .GtE) (.int i) (.int j) (.bl (decide (j<=i))):=Ln Vl
theorem P7 {i j:Int}:decide (V.int i=V.int j)=decide (i=j):=by
 by_cases h:i=j
 ·subst h; rw [decide_eq_true rfl,decide_eq_true rfl]
 ·rw [decide_eq_false h,decide_eq_false]; intro z; injection z with z; exact h z
theorem AV {i j:Int}:AY X O (compareOp .Eq) (.int i) (.int j) (.bl (decide (i=j))):=
 .of OC λG v u H Q s h1 h2 k=>by cases h1; cases h2; exact ⟨rfl,by rw [P7]; exact k _ G H (Ah.refl _) s (.bl _)⟩
theorem EF {i j:Int}:AY X O (compareOp .NotEq) (.int i) (.int j) (.bl (!decide (i=j))):=
 .of OB λG v u H Q s h1 h2 k=>by cases h1; cases h2; exact ⟨rfl,by rw [P7]; exact k _ G H (Ah.refl _) s (.bl _)⟩
def Ej:D->Bool
 | .non=>true
 | _=>false
theorem Ph {K:PySem.W.Frag} {G:Wd} {v:V} (h:Is K G d v):decide (v=V.non)=Ej d:=by
 cases h <;> first | rfl | exact decide_eq_false (λz=>by cases z)
theorem Fo:AY X O (compareOp .Is) da .non (.bl (Ej da)):=
 .of Vj λG v u H Q s h1 h2 k=>by cases h2; exact ⟨rfl,by rw [Ph h1]; exact k _ G H (Ah.refl _) s (.bl _)⟩
theorem Zw:AY X O (compareOp .IsNot) da .non (.bl (!Ej da)):=
 .of Ve λG v u H Q s h1 h2 k=>by cases h2; exact ⟨rfl,by rw [Ph h1]; exact k _ G H (Ah.refl _) s (.bl _)⟩
theorem BG {op:CmpOp} (ha:Ad X ρ O a da) (hb:Ad X ρ O b db) (ho:AY X O (compareOp op) da db d) (hm:behindInMarks op b=false:=by first | exact HQ _ | (with_unfolding_all rfl)):Ad X ρ O (.Compare a [op] [b] pos) d:=λG pins s σ H Q I ⟨h1,h2,h3⟩=>
 wpAny_Compare1 (Fp (ta:=λσ H Q=>SA X.K G H O/\Au X.K G σ ρ/\∀ v G' H',Ah G G'->SA X.K G' H' O->Is X.K G' da v->Q v H') (ha G)
  (tb:=λσ H Q=>∃ G1 v0,SA X.K G1 H O/\Au X.K G1 σ ρ/\∀ v G' H',Ah G1 G'->SA X.K G' H' O->Is X.K G' db v->Q v H') (λpins s σ H Q I ⟨G1,_,q⟩=>hb G1 pins s σ H Q I q) I
  (R:=λx y H2=>∃ G2,Ah G G2/\SA X.K G2 H2 O/\Is X.K G2 da x/\Is X.K G2 db y)
  ⟨h1,h2,λv G1 H1 e1 s1 i1=>⟨G1,(0:Nat),s1,h2.ext e1,λu G2 H2 e2 s2 i2=>⟨G2,e1.trans e2,s2,i1.ext e2,i2⟩⟩⟩
  λv u s2 x y H2 I2 rx ry ⟨G2,e2,s2',i1,i2⟩=>ho G2 pins s2 σ H2 x y v u Q I2 rx ry ⟨s2',i1,i2,λw G3 H3 e3 s3 i3=>h3 w G3 H3 (e2.trans e3) s3 i3⟩) hm
theorem AJ {op:CmpOp} {k:Bool} (ha:Ad X ρ O a da) (hb:Ad X ρ O b db) (ho:AY X O (compareOp op) da db (.bl k)) (hm:behindInMarks op b=false:=by first | exact HQ _ | (with_unfolding_all rfl)):AH X ρ O (.Compare a [op] [b] pos) k:=λG pins s σ H Q I ⟨h1,h2,h3⟩=>by
 refine wpAny_isTrue_Compare1 (Al (ha G pins s σ H _ I ⟨h1,h2,λv G1 H1 e1 s1 i1=>(⟨G1,e1,s1,i1⟩:∃ G1,Ah G G1/\SA X.K G1 H1 O/\Is X.K G1 da v)⟩) λv s1 ⟨x,H1,I1,r1,G1,e1,sa1,i1⟩=>
  Al (hb G1 pins s1 σ H1 _ I1 ⟨sa1,h2.ext e1,λu G2 H2 e2 s2 i2=>(⟨G2,e2,s2,i2⟩:∃ G2,Ah G1 G2/\SA X.K G2 H2 O/\Is X.K G2 db u)⟩) λu s2 ⟨y,H2,I2,r2,G2,e2,sa2,i2⟩=>
  Al (ho G2 pins s2 σ H2 x y v u _ I2 r1 r2 ⟨sa2,i1.ext e2,i2,λw G3 H3 e3 s3 i3=>(⟨G3,e3,s3,i3⟩:∃ G3,Ah G2 G3/\SA X.K G3 H3 O/\Is X.K G3 (.bl k) w)⟩) λc s3 ⟨z,H3,I3,r3,G3,e3,sa3,i3⟩=>?_) hm
 cases i3
 cases r3
 exact wpAny_truthy_bool ⟨H3,I3,h3 G3 H3 ((e1.trans e2).trans e3) sa3⟩
theorem Ba {k:Bool} (ha:Ad X ρ O a (.bl k)) (he:∀ whole,isTrue a X.env whole=(do let v <- whole; standAt a.pos; holding [v] (truthy v)):=by intro _; rfl):AH X ρ O a k:=λG=>
 (Op (ha G) he).imp λσ H Q ⟨h1,h2,h3⟩=>⟨h1,h2,λv G' H' e1 s1 i1=>by cases i1; exact ⟨k,rfl,h3 G' H' e1 s1⟩⟩
theorem Bw {k:Bool} (ha:AH X ρ O a k):AH X ρ O (.UnaryOp .Not a pos) (!k):=λG=>
 (Oq (ha G)).imp λσ H Q ⟨h1,h2,h3⟩=>⟨h1,h2,λG' H' e1 s1=>h3 G' H' e1 s1⟩
theorem CT {k:Bool} (ha:AH X ρ O a k):BJ X ρ O (.BoolOp .Or [a] pos) k:=λG=>Oo (ha G)
theorem B4 {k l:Bool} {rest:List Expr} (ha:AH X ρ O a k) (hb:k=false->BJ X ρ O (.BoolOp .Or (b::rest) pos) l):BJ X ρ O (.BoolOp .Or (a::b::rest) pos) (k||l):=λG wh pins s σ H Q I ⟨h1,h2,h3⟩=>by
 refine isTrue_or (Al (ha G pins s σ H (λc H1=>c=k/\∃ G1,Ah G G1/\SA X.K G1 H1 O) I ⟨h1,h2,λG1 H1 e1 s1=>⟨rfl,G1,e1,s1⟩⟩) ?_)
 rintro c s1 ⟨H1,I1,rfl,G1,e1,sa1⟩
 cases c with
 | true=>exact ⟨H1,I1,h3 G1 H1 e1 sa1⟩
 | false=>exact hb rfl G1 wh pins s1 σ H1 Q I1 ⟨sa1,h2.ext e1,λG2 H2 e2 s2=>h3 G2 H2 (e1.trans e2) s2⟩
theorem Cu {op:BoolOp} (ha:Ad X ρ O a d):Ad X ρ O (.BoolOp op [a] pos) d:=λG=>UW (ha G)
theorem Ck {k l:Bool} {rest:List Expr} (ha:Ad X ρ O a (.bl k)) (hb:k=true->Ad X ρ O (.BoolOp .And (b::rest) pos) (.bl l)):Ad X ρ O (.BoolOp .And (a::b::rest) pos) (.bl (k&&l)):=λG pins s σ H Q I ⟨h1,h2,h3⟩=>by
 refine BoolOp_and (Al (ha G pins s σ H (λv H1=>∃ G1,Ah G G1/\SA X.K G1 H1 O/\Is X.K G1 (.bl k) v) I ⟨h1,h2,λv G1 H1 e1 s1 i1=>⟨G1,e1,s1,i1⟩⟩) ?_)
 rintro v s1 ⟨x,H1,I1,r1,G1,e1,sa1,i1⟩
 cases i1
 cases r1
 refine wpAny_truthy_bool ?_
 cases k with
 | false=>exact ⟨.bl false,H1,I1,rfl,h3 _ G1 H1 e1 sa1 (.bl _)⟩
 | true=>exact hb rfl G1 pins s1 σ H1 Q I1 ⟨sa1,h2.ext e1,λw G2 H2 e2 s2 i2=>h3 w G2 H2 (e1.trans e2) s2 i2⟩
theorem GL {k l:Bool} {rest:List Expr} (ha:Ad X ρ O a (.bl k)) (hb:k=false->Ad X ρ O (.BoolOp .Or (b::rest) pos) (.bl l)):Ad X ρ O (.BoolOp .Or (a::b::rest) pos) (.bl (k||l)):=λG pins s σ H Q I ⟨h1,h2,h3⟩=>by
 refine BoolOp_or (Al (ha G pins s σ H (λv H1=>∃ G1,Ah G G1/\SA X.K G1 H1 O/\Is X.K G1 (.bl k) v) I ⟨h1,h2,λv G1 H1 e1 s1 i1=>⟨G1,e1,s1,i1⟩⟩) ?_)
 rintro v s1 ⟨x,H1,I1,r1,G1,e1,sa1,i1⟩
 cases i1
 cases r1
 refine wpAny_truthy_bool ?_
 cases k with
 | true=>exact ⟨.bl true,H1,I1,rfl,h3 _ G1 H1 e1 sa1 (.bl _)⟩
 | false=>exact hb rfl G1 pins s1 σ H1 Q I1 ⟨sa1,h2.ext e1,λw G2 H2 e2 s2 i2=>h3 w G2 H2 (e1.trans e2) s2 i2⟩
theorem GN {k:Bool} (ha:Ad X ρ O a (.bl k)):Ad X ρ O (.UnaryOp .Not a pos) (.bl (!k)):=λG=>(UX (ha G)).imp λσ H Q ⟨h1,h2,h3⟩=>⟨h1,h2,λv G1 H1 e1 s1 i1=>by
 cases i1
 exact ⟨k,rfl,h3 _ G1 H1 e1 s1 (.bl _)⟩⟩
theorem PH {k:Bool} (hc:AH X ρ O c k) (ha:k=true->Ad X ρ O a da) (hb:k=false->Ad X ρ O b db):Ad X ρ O (.IfExp c a b pos) (if k=true then da else db):=λG pins s σ H Q I ⟨h1,h2,h3⟩=>by
 cases k with
 | true=>
  exact (Oy (tA:=λσ H Q=>SA X.K G H O/\Au X.K G σ ρ/\∀ G' H',Ah G G'->SA X.K G' H' O->Q true H') (hc G) (λpins s σ H Q I (q:∃ G1,SA X.K G1 H O/\Au X.K G1 σ ρ/\∀ v G' H',Ah G1 G'->SA X.K G' H' O->Is X.K G' da v->Q v H')=>let ⟨G1,q⟩:=q; ha rfl G1 pins s σ H Q I q)
   (λpins s σ H Q I (q:False)=>q.elim)) pins s σ H Q I ⟨h1,h2,λG1 H1 e1 s1=>HZ ⟨G1,s1,h2.ext e1,λv G2 H2 e2 s2 i2=>h3 v G2 H2 (e1.trans e2) s2 i2⟩⟩
 | false=>
  exact (Oy (tA:=λσ H Q=>SA X.K G H O/\Au X.K G σ ρ/\∀ G' H',Ah G G'->SA X.K G' H' O->Q false H') (hc G) (λpins s σ H Q I (q:False)=>q.elim)
   (λpins s σ H Q I (q:∃ G1,SA X.K G1 H O/\Au X.K G1 σ ρ/\∀ v G' H',Ah G1 G'->SA X.K G' H' O->Is X.K G' db v->Q v H')=>let ⟨G1,q⟩:=q; hb rfl G1 pins s σ H Q I q)) pins s σ H Q I ⟨h1,h2,λG1 H1 e1 s1=>H0 ⟨G1,s1,h2.ext e1,λv G2 H2 e2 s2 i2=>h3 v G2 H2 (e1.trans e2) s2 i2⟩⟩
theorem YM {op op':CmpOp} {k l:Bool} {dc:D} (ha:Ad X ρ O a da) (hb:Ad X ρ O b db) (hc:Ad X ρ O c dc) (ho:AY X O (compareOp op) da db (.bl k)) (ho':k=true->AY X O (compareOp op') db dc (.bl l))
  (hm:lastMarks [op,op'] [b,c]=false:=by with_unfolding_all rfl):Ad X ρ O (.Compare a [op,op'] [b,c] pos) (.bl (k&&l)):=λG pins s σ H Q I ⟨h1,h2,h3⟩=>by
 refine Compare_chain (Al (ha G pins s σ H (λv H1=>∃ G1,Ah G G1/\SA X.K G1 H1 O/\Is X.K G1 da v) I ⟨h1,h2,λv G1 H1 e1 s1 i1=>⟨G1,e1,s1,i1⟩⟩) ?_) hm
 rintro v s1 ⟨x,H1,I1,r1,G1,e1,sa1,i1⟩
 refine chain_link (Al (hb G1 pins s1 σ H1 (λv H2=>∃ G2,Ah G1 G2/\SA X.K G2 H2 O/\Is X.K G2 db v) I1 ⟨sa1,h2.ext e1,λv G2 H2 e2 s2 i2=>⟨G2,e2,s2,i2⟩⟩) ?_)
 rintro u s2 ⟨y,H2,I2,r2,G2,e2,sa2,i2⟩
 refine Al (ho G2 pins s2 σ H2 x y v u (λw H3=>∃ G3,Ah G2 G3/\SA X.K G3 H3 O/\Is X.K G3 (.bl k) w) I2 r1 r2 ⟨sa2,i1.ext e2,i2,λw G3 H3 e3 s3 i3=>⟨G3,e3,s3,i3⟩⟩) ?_
 rintro w s3 ⟨z,H3,I3,r3,G3,e3,sa3,i3⟩
 cases i3
 cases r3
 refine wpAny_truthy_bool ?_
 cases k with
 | false=>exact ite_ff ⟨.bl false,H3,I3,rfl,h3 _ G3 H3 ((e1.trans e2).trans e3) sa3 (.bl _)⟩
 | true=>
  refine ite_tt (chain_last (Al (hc G3 pins s3 σ H3 (λv H4=>∃ G4,Ah G3 G4/\SA X.K G4 H4 O/\Is X.K G4 dc v) I3 ⟨sa3,h2.ext ((e1.trans e2).trans e3),λv G4 H4 e4 s4 i4=>⟨G4,e4,s4,i4⟩⟩) ?_))
  rintro q s4 ⟨z',H4,I4,r4,G4,e4,sa4,i4⟩
  exact ho' rfl G4 pins s4 σ H4 y z' u q Q I4 r2 r4 ⟨sa4,i2.ext (e3.trans e4),i4,λw G5 H5 e5 s5 i5=>h3 w G5 H5 ((((e1.trans e2).trans e3).trans e4).trans e5) s5 i5⟩
theorem YW {op op':CmpOp} {k l:Bool} {dc:D} (ha:Ad X ρ O a da) (hb:Ad X ρ O b db) (hc:Ad X ρ O c dc) (ho:AY X O (compareOp op) da db (.bl k)) (ho':k=true->AY X O (compareOp op') db dc (.bl l))
  (hm:lastMarks [op,op'] [b,c]=false:=by with_unfolding_all rfl):AH X ρ O (.Compare a [op,op'] [b,c] pos) (k&&l):=λG pins s σ H Q I ⟨h1,h2,h3⟩=>by
 refine isTrue_chain (Al (ha G pins s σ H (λv H1=>∃ G1,Ah G G1/\SA X.K G1 H1 O/\Is X.K G1 da v) I ⟨h1,h2,λv G1 H1 e1 s1 i1=>⟨G1,e1,s1,i1⟩⟩) ?_) hm
 rintro v s1 ⟨x,H1,I1,r1,G1,e1,sa1,i1⟩
 refine test_link (Al (hb G1 pins s1 σ H1 (λv H2=>∃ G2,Ah G1 G2/\SA X.K G2 H2 O/\Is X.K G2 db v) I1 ⟨sa1,h2.ext e1,λv G2 H2 e2 s2 i2=>⟨G2,e2,s2,i2⟩⟩) ?_)
 rintro u s2 ⟨y,H2,I2,r2,G2,e2,sa2,i2⟩
 refine Al (ho G2 pins s2 σ H2 x y v u (λw H3=>∃ G3,Ah G2 G3/\SA X.K G3 H3 O/\Is X.K G3 (.bl k) w) I2 r1 r2 ⟨sa2,i1.ext e2,i2,λw G3 H3 e3 s3 i3=>⟨G3,e3,s3,i3⟩⟩) ?_
 rintro w s3 ⟨z,H3,I3,r3,G3,e3,sa3,i3⟩
 cases i3
 cases r3
 refine wpAny_truthy_bool ?_
 cases k with
 | false=>exact ite_ff ⟨H3,I3,h3 G3 H3 ((e1.trans e2).trans e3) sa3⟩
 | true=>
  refine ite_tt (test_last (Al (hc G3 pins s3 σ H3 (λv H4=>∃ G4,Ah G3 G4/\SA X.K G4 H4 O/\Is X.K G4 dc v) I3 ⟨sa3,h2.ext ((e1.trans e2).trans e3),λv G4 H4 e4 s4 i4=>⟨G4,e4,s4,i4⟩⟩) ?_))
  rintro q s4 ⟨z',H4,I4,r4,G4,e4,sa4,i4⟩
  refine Al (ho' rfl G4 pins s4 σ H4 y z' u q (λw H5=>∃ G5,Ah G4 G5/\SA X.K G5 H5 O/\Is X.K G5 (.bl l) w) I4 r2 r4 ⟨sa4,i2.ext (e3.trans e4),i4,λw G5 H5 e5 s5 i5=>⟨G5,e5,s5,i5⟩⟩) ?_
  rintro q' s5 ⟨z2,H5,I5,r5,G5,e5,sa5,i5⟩
  cases i5
  cases r5
  exact wpAny_truthy_bool ⟨H5,I5,h3 G5 H5 ((((e1.trans e2).trans e3).trans e4).trans e5) sa5⟩
end
def LV (O:Ae) (d:D) (xs:List D):Prop:=d=.lst xs\/d=.scr xs\/∃ n,d=.ptr n/\O[n]?=some (some (.lst xs))
def LT (O:Ae) (d:D) (xs:List D):Prop:=LV O d xs\/d=.tup xs
theorem LV.sq {K:PySem.W.Frag} {G:Wd} {H:Hp} {O:Ae} {d:D} {xs:List D} {v:V} (h:LV O d xs) (s:SA K G H O) (i:Is K G d v):∃ a vs,v=.ref a/\A0 K H a vs/\Aj K G xs vs:=by
 rcases h with rfl | rfl | ⟨p,rfl,h⟩
 ·cases i with | lst h r=>exact ⟨_,_,rfl,A0.of (s.sub _ _ h),r⟩
 ·cases i with | scr h r=>exact ⟨_,_,rfl,s.sub.seq h,r⟩
 ·cases i with
  | ptr _ q=>
   obtain ⟨a,e,_,vs,h1,h2⟩:=s.mt p _ h
   obtain rfl:=Option.some.inj (q.symm.trans e)
   exact ⟨_,vs,rfl,A0.of h1,h2⟩
theorem Dt {K:PySem.W.Frag} {G:Wd} {H:Hp} {O:Ae} {xs:List D} {v:V} (s:SA K G H O) (i:Is K G (.tup xs) v):∃ a vs,v=.ref a/\A1 K H a vs/\Aj K G xs vs:=by
 cases i with | tup h r=>exact ⟨_,_,rfl,C6 s.sub h,r⟩
def Bd (X:Cx) (ρ:Ai) (O:Ae) (es:List Expr) (ds:List D):Prop:=
 ∀ G,PA X es (λσ H Q=>SA X.K G H O/\Au X.K G σ ρ/\∀ vs G' H',Ah G G'->SA X.K G' H' O->Aj X.K G' ds vs->Q vs H')
section
variable {X:Cx} {ρ:Ai} {O:Ae} {e a b c:Expr} {es:List Expr} {d da db:D} {ds:List D} {R:D->Ae->Prop} {pos p:Pos} {x:Str}
theorem Af:Bd X ρ O [] []:=λG=>PA.imp DN λσ H Q ⟨h1,h2,h3⟩=>h3 _ G H (Ah.refl _) h1 .nil
theorem Ab (he:Ad X ρ O e d) (hs:Bd X ρ O es ds) (hst:starEach (e::es) X.env=(false,eval e X.env)::starEach es X.env:=by rfl):Bd X ρ O (e::es) (d::ds):=λG=>
 PA.imp (Cq (he G) (t:=λσ H Q=>∃ G1,SA X.K G1 H O/\Au X.K G1 σ ρ/\∀ vs G' H',Ah G1 G'->SA X.K G' H' O->Aj X.K G' ds vs->Q vs H') (λpos pins s σ H Q I ⟨G1,q⟩=>hs G1 pos pins s σ H Q I q) hst)
  λσ H Q ⟨h1,h2,h3⟩=>⟨h1,h2,λv G1 H1 e1 s1 i1=>⟨G1,s1,h2.ext e1,λvs G2 H2 e2 s2 i2=>h3 _ G2 H2 (e1.trans e2) s2 (.cons (i1.ext e2) i2)⟩⟩
theorem Cc {R:List D->Ae->Prop} (he:Ev X ρ O e λd O1=>EQ X ρ O1 es λds O2=>R (d::ds) O2) (hst:starEach (e::es) X.env=(false,eval e X.env)::starEach es X.env:=by rfl):EQ X ρ O (e::es) R:=λG=>
 PA.imp (Cq (he G) (t:=λσ H Q=>∃ G1 d O1,SA X.K G1 H O1/\Au X.K G1 σ ρ/\(EQ X ρ O1 es λds O2=>R (d::ds) O2)/\∀ vs ds O2 G' H',Ah G1 G'->SA X.K G' H' O2->Aj X.K G' ds vs->R (d::ds) O2->Q vs H') (λpos pins s σ H Q I ⟨G1,d,O1,q1,q2,q3,q4⟩=>q3 G1 pos pins s σ H Q I ⟨q1,q2,q4⟩) hst)
  λσ H Q ⟨h1,h2,h3⟩=>⟨h1,h2,λv d O1 G1 H1 e1 s1 i1 r1=>⟨G1,d,O1,s1,h2.ext e1,r1,λvs ds O2 G2 H2 e2 s2 i2 r2=>h3 _ (d::ds) O2 G2 H2 (e1.trans e2) s2 (.cons (i1.ext e2) i2) r2⟩⟩
theorem Bd.as {R:List D->Ae->Prop} (h:Bd X ρ O es ds) (r:R ds O):EQ X ρ O es R:=λG=>PA.imp (h G) λσ H Q ⟨h1,h2,h3⟩=>⟨h1,h2,λvs G' H' e1 s1 i1=>h3 vs ds O G' H' e1 s1 i1 r⟩
theorem A9 {x1:Nat} (h:Bd X ρ O es ds) (hz:ds.length<=sizeLine:=by exact Nat.le_of_ble_eq_true rfl):Ad X ρ O (.Tuple es x1 pos) (.tup ds):=λG=>
 PE.imp (Ox (h G)) λσ H Q ⟨h1,h2,h3⟩=>⟨h1,h2,λvs G1 H1 e1 s1 i1=>⟨by rw [<- i1.length]; exact hz,λp hp=>by
  obtain ⟨e2,s2⟩:=s1.laid (o:=.tup vs) hp
  exact h3 _ _ _ (e1.trans e2) s2 (.tup (A1.of AW) (i1.ext e2))⟩⟩
theorem Da (h:Bd X ρ O es ds) (hz:ds.length<=sizeLine:=by exact Nat.le_of_ble_eq_true rfl):Ad X ρ O (.List es pos) (.lst ds):=λG=>
 PE.imp (Lg (h G)) λσ H Q ⟨h1,h2,h3⟩=>⟨h1,h2,λvs G1 H1 e1 s1 i1=>⟨by rw [<- i1.length]; exact hz,λp hp=>by
  obtain ⟨e2,s2⟩:=s1.laid (o:=.lst vs) hp
  exact h3 _ _ _ (e1.trans e2) s2 (.lst AW (i1.ext e2))⟩⟩
theorem YC (h:Bd X ρ O es ds) (k:R (.ptr O.length) (O++[some (.lst ds)])) (hz:ds.length<=sizeLine:=by exact Nat.le_of_ble_eq_true rfl):Ev X ρ O (.List es pos) R:=λG=>
 PE.imp (Lg (h G)) λσ H Q ⟨h1,h2,h3⟩=>⟨h1,h2,λvs G1 H1 e1 s1 i1=>⟨by rw [<- i1.length]; exact hz,λp hp=>by
  have e:Ah G1 ⟨G1.g,G1.l++[p]⟩:=⟨Bm.refl _,[p],rfl⟩
  obtain ⟨e2,s2⟩:=s1.new (m:=.lst ds) hp ⟨vs,AW,i1.ext e⟩
  refine h3 _ _ _ _ _ (e1.trans e2) s2 (.ptr _ ?_) k
  rw [<- s1.len,List.getElem?_append_right (Nat.le_refl _),Nat.sub_self]; rfl⟩⟩
theorem LE {xs:List D} {vs:List V} {K:PySem.W.Frag} {G:Wd} {i:Int} (r:Aj K G xs vs) (h:Bf xs i=some d):∃ v,Bf vs i=some v/\Is K G d v:=by
 unfold Bf at h ⊢
 rw [<- r.length]
 cases q:Dw xs.length i with
 | none=>rw [q] at h; cases h
 | some j=>
  rw [q] at h
  exact r.get h
theorem Dz {xs:List D} {i:Int} (ha:Ad X ρ O a da) (hl:LV O da xs) (hb:Ad X ρ O b (.int i)) (hi:Bf xs i=some d) (hs:Mw b:=by intro _ _; rfl):Ad X ρ O (.Subscript a b pos) d:=λG pins s σ H Q I ⟨h1,h2,h3⟩=>
 Subscript_ (Fp (ta:=λσ H Q=>SA X.K G H O/\Au X.K G σ ρ/\∀ v G' H',Ah G G'->SA X.K G' H' O->Is X.K G' da v->Q v H') (ha G)
  (tb:=λσ H Q=>∃ G1,SA X.K G1 H O/\Au X.K G1 σ ρ/\∀ v G' H',Ah G1 G'->SA X.K G' H' O->Is X.K G' (.int i) v->Q v H') (λpins s σ H Q I ⟨G1,q⟩=>hb G1 pins s σ H Q I q) I
  (R:=λx y H2=>∃ G2,Ah G G2/\SA X.K G2 H2 O/\Is X.K G2 da x/\Is X.K G2 (.int i) y)
  ⟨h1,h2,λv G1 H1 e1 s1 i1=>⟨G1,s1,h2.ext e1,λu G2 H2 e2 s2 i2=>⟨G2,e1.trans e2,s2,i1.ext e2,i2⟩⟩⟩
  λv u s2 x y H2 I2 rx ry ⟨G2,e2,s2',i1,i2⟩=>by
   obtain ⟨p,vs,rfl,q,r⟩:=hl.sq s2' i1
   cases i2
   obtain ⟨w,hw,iw⟩:=LE r hi
   exact Pb a b pins s2 σ H2 _ _ v u Q I2 rx ry ⟨p,vs,i,w,rfl,rfl,q,hw,h3 w G2 H2 e2 s2' iw⟩ (hs _ _))
theorem CI {xs:List D} {i:Int} (ha:Ad X ρ O a (.tup xs)) (hb:Ad X ρ O b (.int i)) (hi:Bf xs i=some d) (hs:Mw b:=by intro _ _; rfl):Ad X ρ O (.Subscript a b pos) d:=λG pins s σ H Q I ⟨h1,h2,h3⟩=>
 Subscript_ (Fp (ta:=λσ H Q=>SA X.K G H O/\Au X.K G σ ρ/\∀ v G' H',Ah G G'->SA X.K G' H' O->Is X.K G' (.tup xs) v->Q v H') (ha G)
  (tb:=λσ H Q=>∃ G1,SA X.K G1 H O/\Au X.K G1 σ ρ/\∀ v G' H',Ah G1 G'->SA X.K G' H' O->Is X.K G' (.int i) v->Q v H') (λpins s σ H Q I ⟨G1,q⟩=>hb G1 pins s σ H Q I q) I
  (R:=λx y H2=>∃ G2,Ah G G2/\SA X.K G2 H2 O/\Is X.K G2 (.tup xs) x/\Is X.K G2 (.int i) y)
  ⟨h1,h2,λv G1 H1 e1 s1 i1=>⟨G1,s1,h2.ext e1,λu G2 H2 e2 s2 i2=>⟨G2,e1.trans e2,s2,i1.ext e2,i2⟩⟩⟩
  λv u s2 x y H2 I2 rx ry ⟨G2,e2,s2',i1,i2⟩=>by
   obtain ⟨p,vs,rfl,q,r⟩:=Dt s2' i1
   cases i2
   obtain ⟨w,hw,iw⟩:=LE r hi
   exact XA a b pins s2 σ H2 _ _ v u Q I2 rx ry ⟨p,vs,i,w,rfl,rfl,q,hw,h3 w G2 H2 e2 s2' iw⟩ (hs _ _))
def EY (xs:List D) (lo hi:Option Int):List D:=(xs.drop (HT.sIx xs.length 0 lo)).take (HT.sIx xs.length xs.length hi-HT.sIx xs.length 0 lo)
theorem Zk {xs:List D} {vs:List V} {K:PySem.W.Frag} {G:Wd} {lo hi:Option Int} (r:Aj K G xs vs):Aj K G (EY xs lo hi) (Fl vs lo hi):=by
 unfold EY Fl
 rw [<- r.length]
 exact (r.drop _).take _
def Ga (X:Cx) (ρ:Ai) (O:Ae) (e:Option Expr) (i:Option Int):Prop:=
 ∀ G,PO X e (λσ H Q=>SA X.K G H O/\Au X.K G σ ρ/\∀ G' H',Ah G G'->SA X.K G' H' O->Q i H')
theorem _root_.L2.PO.imp {X:Cx} {e:Option Expr} {t u:TO} (h:PO X e t) (k:∀ σ H Q,u σ H Q->t σ H Q):PO X e u:=λpins s σ H Q I q=>h pins s σ H Q I (k _ _ _ q)
theorem Iy:Ga X ρ O none none:=λG=>PO.imp UF λσ H Q ⟨h1,h2,h3⟩=>h3 G H (Ah.refl _) h1
theorem Iw {i:Int} (h:Ad X ρ O e (.int i)):Ga X ρ O (some e) (some i):=λG=>PO.imp (UE (h G)) λσ H Q ⟨h1,h2,h3⟩=>⟨h1,h2,λv G1 H1 e1 s1 i1=>by cases i1; exact ⟨i,rfl,h3 G1 H1 e1 s1⟩⟩
theorem OJ {xs ys:List D} (hz:xs.length+ys.length<=sizeLine):AY X O (binaryOp .Add) (.lst xs) (.lst ys) (.lst (xs++ys)):=
 .of Vp λG v u H Q s h1 h2 k=>by
  cases h1 with
  | lst g1 r1=>
   cases h2 with
   | lst g2 r2=>
    refine ⟨_,_,_,_,rfl,rfl,s.sub _ _ g1,s.sub _ _ g2,by rw [<- r1.length,<- r2.length]; exact hz,λp hp=>?_⟩
    obtain ⟨e4,s4⟩:=s.laid (o:=.lst _) hp
    exact k _ _ _ e4 s4 (.lst AW ((r1.append r2).ext e4))
def BP (X:Cx) (O:Ae) (f:Value) (ds:List D) (d:D):Prop:=
 ∀ G,DH X f (λvs H Q=>SA X.K G H O/\Aj X.K G ds vs/\∀ w G' H',Ah G G'->SA X.K G' H' O->Is X.K G' d w->Q w H')
theorem BP.of {f:Value} {r:List V->Hp->VK->Prop} (ho:DH X f r)
  (k:∀ G vs H Q,SA X.K G H O->Aj X.K G ds vs->(∀ w G' H',Ah G G'->SA X.K G' H' O->Is X.K G' d w->Q w H')->r vs H Q):BP X O f ds d:=
 λG pins s σ H xs us Q I r ⟨h1,h2,h3⟩=>ho pins s σ H xs us Q I r (k G _ _ _ h1 h2 h3)
theorem AT {id:String} (hm:X.mg x=none) (ha:Bd X ρ O (e::es) ds) (hc:BP X O (.builtin id) ds d) (hg:Gl X x:=by rfl) (hv:bootBuiltins x=some (.builtin id):=by first | rfl | decide +kernel) (hn:x ≠ "__name__" := by decide) (hdb:(x==("__debug__" : Str))=false:=by decide)
  (he:starEach (e::es) X.env=(false,eval e X.env)::starEach es X.env:=by rfl) (hpl:(backTo pos (starEach es X.env)).any (·.1)=false:=by rfl):Ad X ρ O (.Call (.Name x p) (e::es) [] pos) d:=λG=>
 PE.imp (FO (r:=λvs H Q=>∃ G1,SA X.K G1 H O/\Aj X.K G1 ds vs/\∀ w G' H',Ah G1 G'->SA X.K G' H' O->Is X.K G' d w->Q w H') (λpins s σ H xs us Q I r ⟨G1,q⟩=>hc G1 pins s σ H xs us Q I r q) hg hm hv (ha G) hn hdb he hpl)
  λσ H Q ⟨h1,h2,h3⟩=>⟨h1,h2,λvs G1 H1 e1 s1 i1=>⟨G1,s1,i1,λw G2 H2 e2 s2 i2=>h3 w G2 H2 (e1.trans e2) s2 i2⟩⟩
theorem Cj {T:String} (hm:X.mg x=none) (ha:Bd X ρ O (e::es) ds) (hc:BP X O (.type T) ds d) (hg:Gl X x:=by rfl) (hv:bootBuiltins x=some (.type T):=by first | rfl | decide +kernel) (hn:x ≠ "__name__" := by decide) (hdb:(x==("__debug__" : Str))=false:=by decide)
  (he:starEach (e::es) X.env=(false,eval e X.env)::starEach es X.env:=by rfl) (hpl:(backTo pos (starEach es X.env)).any (·.1)=false:=by rfl):Ad X ρ O (.Call (.Name x p) (e::es) [] pos) d:=λG=>
 PE.imp (Oz (r:=λvs H Q=>∃ G1,SA X.K G1 H O/\Aj X.K G1 ds vs/\∀ w G' H',Ah G1 G'->SA X.K G' H' O->Is X.K G' d w->Q w H') (λpins s σ H xs us Q I r ⟨G1,q⟩=>hc G1 pins s σ H xs us Q I r q) hg hm hv (ha G) hn hdb he hpl)
  λσ H Q ⟨h1,h2,h3⟩=>⟨h1,h2,λvs G1 H1 e1 s1 i1=>⟨G1,s1,i1,λw G2 H2 e2 s2 i2=>h3 w G2 H2 (e1.trans e2) s2 i2⟩⟩
theorem Cd {xs:List D} (h:LT O d xs):BP X O (.builtin "len") [d] (.int xs.length):=.of ZL λG vs H Q s i k=>by
 cases i with
 | cons i r=>
  cases r
  rcases h with h | rfl
  ·obtain ⟨p,vs,rfl,q,r⟩:=h.sq s i
   exact ⟨p,vs,rfl,.inl q,by rw [<- r.length]; exact k _ G H (Ah.refl _) s (.int _)⟩
  ·obtain ⟨p,vs,rfl,q,r⟩:=Dt s i
   exact ⟨p,vs,rfl,.inr q,by rw [<- r.length]; exact k _ G H (Ah.refl _) s (.int _)⟩
theorem Db {xs:List D} (h:LT O d xs):BP X O (.type "tuple") [d] (.tup xs):=.of ZC λG vs H Q s i k=>by
 cases i with
 | cons i r=>
  cases r
  rcases h with h | rfl
  ·obtain ⟨p,vs,rfl,q,r⟩:=h.sq s i
   refine ⟨p,vs,rfl,.inl ⟨q,λl hl=>?_⟩⟩
   obtain ⟨e4,s4⟩:=s.laid (o:=.tup vs) hl
   exact k _ _ _ e4 s4 (.tup (A1.of AW) (r.ext e4))
  ·obtain ⟨p,vs,rfl,q,r⟩:=Dt s i
   exact ⟨p,vs,rfl,.inr ⟨q,k _ G H (Ah.refl _) s i⟩⟩
theorem Qi {xs:List D} (h:LT O d xs):BP X O (.type "list") [d] (.lst xs):=.of ZK λG vs H Q s i k=>by
 cases i with
 | cons i r=>
  cases r
  rcases h with h | rfl
  ·obtain ⟨p,vs,rfl,q,r⟩:=h.sq s i
   refine ⟨p,vs,rfl,.inl q,λl hl=>?_⟩
   obtain ⟨e4,s4⟩:=s.laid (o:=.lst vs) hl
   exact k _ _ _ e4 s4 (.lst AW (r.ext e4))
  ·obtain ⟨p,vs,rfl,q,r⟩:=Dt s i
   refine ⟨p,vs,rfl,.inr q,λl hl=>?_⟩
   obtain ⟨e4,s4⟩:=s.laid (o:=.lst vs) hl
   exact k _ _ _ e4 s4 (.lst AW (r.ext e4))
theorem ZX {i:Int}:BP X O (.builtin "abs") [.int i] (.int (if i<0 then -i else i)):=.of ZP λG vs H Q s h k=>by
 cases h with | cons h r=>cases r; cases h; exact ⟨i,rfl,k _ G H (Ah.refl _) s (.int _)⟩
theorem ZS {i j:Int} (hc:X.calm=true:=by rfl):BP X O (.builtin "max") [.int i,.int j] (.int (if j>i then j else i)):=.of (ZJ hc) λG vs H Q s h k=>by
 cases h with | cons h r=>cases r with | cons h' r=>cases r; cases h; cases h'; exact ⟨i,j,rfl,k _ G H (Ah.refl _) s (.int _)⟩
theorem ZR {i j:Int} (hc:X.calm=true:=by rfl):BP X O (.builtin "min") [.int i,.int j] (.int (if j<i then j else i)):=.of (ZI hc) λG vs H Q s h k=>by
 cases h with | cons h r=>cases r with | cons h' r=>cases r; cases h; cases h'; exact ⟨i,j,rfl,k _ G H (Ah.refl _) s (.int _)⟩
theorem Mi {b:Bool}:BP X O (.type "int") [.bl b] (.int (if b then 1 else 0)):=.of ZM λG vs H Q s h k=>by
 cases h with | cons h r=>cases r; cases h; exact .inr ⟨b,rfl,k _ G H (Ah.refl _) s (.int _)⟩
abbrev AE:=List D->Ae->(D->Ae->Prop)->Prop
def AR (K:PySem.W.Frag) (sp:AE):Sp:=λvs H Q _=>∃ G O ds R,SA K G H O/\Aj K G ds vs/\sp ds O R/\∀ v d O' G' H',Ah G G'->SA K G' H' O'->Is K G' d v->R d O'->Q v H'
structure Am (P:Program) (w:World) (K:PySem.W.Frag) (mg:Str->Option Value) (base:Heap) (k:Nat) (x:Str) (sp:AE):Prop where
 ex:∃ f fd ps,AC P w K mg base AO k f fd ps (AR K sp)/\mg x=some (.ref f)/\PySem.W.keepIn K (.ref f)=true/\Binds K fd ps []
theorem YO {k:Nat} {sp:AE} (F:Am X.prog X.w X.K X.mg X.base k x sp) (hr:AM k X.A) (ha:EQ X ρ O (e::es) λds O1=>sp ds O1 R) (hg:Gl X x:=by rfl) (hdb:(x==("__debug__" : Str))=false:=by decide)
  (he:starEach (e::es) X.env=(false,eval e X.env)::starEach es X.env:=by rfl) (hpl:(backTo pos (starEach es X.env)).any (·.1)=false:=by rfl):Ev X ρ O (.Call (.Name x p) (e::es) [] pos) R:=λG=>by
 obtain ⟨f,fd,ps,h1,h2,h3,h4⟩:=F.ex
 refine PE.imp (U5 h1 hr hg h2 h3 h4 .nil Gz (ha G) hdb he hpl) λσ H Q ⟨q1,q2,q3⟩=>⟨q1,q2,λvs ds O1 G1 H1 e1 s1 i1 r1=>?_⟩
 show AR X.K sp (vs++[]) H1 Q E0
 rw [List.append_nil]
 exact ⟨G1,O1,ds,R,s1,i1,r1,λv d O' G' H' e2 s2 i2 r2=>q3 v d O' G' H' (e1.trans e2) s2 i2 r2⟩
theorem BU {k:Nat} {sp:AE} (F:Am X.prog X.w X.K X.mg X.base k x sp) (hr:AM k X.A) (ha:Bd X ρ O (e::es) ds) (hs:sp ds O R) (hg:Gl X x:=by rfl) (hdb:(x==("__debug__" : Str))=false:=by decide)
  (he:starEach (e::es) X.env=(false,eval e X.env)::starEach es X.env:=by rfl) (hpl:(backTo pos (starEach es X.env)).any (·.1)=false:=by rfl):Ev X ρ O (.Call (.Name x p) (e::es) [] pos) R:=
 YO F hr (ha.as hs) hg hdb he hpl
def AA (f:List D->D->Prop):AE:=λds O R=>∃ d,f ds d/\R d O
theorem AF {k:Nat} {f:List D->D->Prop} (F:Am X.prog X.w X.K X.mg X.base k x (AA f)) (hr:AM k X.A) (ha:Bd X ρ O (e::es) ds) (hs:f ds d) (hg:Gl X x:=by rfl) (hdb:(x==("__debug__" : Str))=false:=by decide)
  (he:starEach (e::es) X.env=(false,eval e X.env)::starEach es X.env:=by rfl) (hpl:(backTo pos (starEach es X.env)).any (·.1)=false:=by rfl):Ad X ρ O (.Call (.Name x p) (e::es) [] pos) d:=
 (BU F hr ha ⟨d,hs,rfl,rfl⟩ hg hdb he hpl).evp
end
structure A3 where
 nx:Ai->Ae->Prop
 rt:D->Ae->Prop
 bk:Ai->Ae->Prop:=λ_ _=>False
 ct:Ai->Ae->Prop:=λ_ _=>False
def F5 (K:PySem.W.Frag) (G:Wd) (N:Ai->Ae->Prop) (n:L2.St->Hp->Prop):Prop:=∀ σ ρ O G' H,Ah G G'->SA K G' H O->Au K G' σ ρ->N ρ O->n σ H
structure Cy (K:PySem.W.Frag) (G:Wd) (P:A3) (E:ER):Prop where
 nx:F5 K G P.nx E.nx
 rt:∀ v d O G' H,Ah G G'->SA K G' H O->Is K G' d v->P.rt d O->E.rt v H
 bk:F5 K G P.bk E.bk
 ct:F5 K G P.ct E.ct
theorem F5.ext {K:PySem.W.Frag} {G G':Wd} {N:Ai->Ae->Prop} {n:L2.St->Hp->Prop} (h:F5 K G N n) (e:Ah G G'):F5 K G' N n:=λσ ρ O G2 H e2=>h σ ρ O G2 H (e.trans e2)
theorem Cy.ext {K:PySem.W.Frag} {G G':Wd} {P:A3} {E:ER} (h:Cy K G P E) (e:Ah G G'):Cy K G' P E:=⟨h.nx.ext e,λv d O G2 H e2=>h.rt v d O G2 H (e.trans e2),h.bk.ext e,h.ct.ext e⟩
def Ex (X:Cx) (ρ:Ai) (O:Ae) (st:Stmt) (P:A3):Prop:=∀ G,PS X st (λE σ H=>SA X.K G H O/\Au X.K G σ ρ/\Cy X.K G P E)
def Exs (X:Cx) (ρ:Ai) (O:Ae) (st:List Stmt) (P:A3):Prop:=∀ G,PSs X st (λE σ H=>SA X.K G H O/\Au X.K G σ ρ/\Cy X.K G P E)
section
variable {X:Cx} {ρ:Ai} {O:Ae} {e a b c:Expr} {es:List Expr} {d da db:D} {ds:List D} {R:D->Ae->Prop} {pos p:Pos} {x:Str} {st:Stmt} {rest body orelse:List Stmt} {P:A3}
theorem Aw (h:P.nx ρ O):Exs X ρ O [] P:=λG=>PSs.imp K9 λE σ H ⟨h1,h2,h3⟩=>h3.nx σ ρ O G H (Ah.refl _) h1 h2 h
theorem Ac (h:Ex X ρ O st { P with nx:=λρ' O'=>Exs X ρ' O' rest P }):Exs X ρ O (st::rest) P:=λG=>
 PSs.imp (La (h G) (u:=λE σ H=>∃ G1 ρ1 O1,SA X.K G1 H O1/\Au X.K G1 σ ρ1/\Exs X ρ1 O1 rest P/\Cy X.K G1 P E) (λpins s σ H E I ⟨G1,ρ1,O1,q1,q2,q3,q4⟩=>q3 G1 pins s σ H E I ⟨q1,q2,q4⟩)) λE σ H ⟨h1,h2,h3⟩=>
  ⟨h1,h2,⟨λσ1 ρ1 O1 G1 H1 e1 s1 n1 q1=>⟨G1,ρ1,O1,s1,n1,q1,h3.ext e1⟩,h3.rt,h3.bk,h3.ct⟩⟩
theorem Hf (M:Ai->Ae->Prop) (h:Ex X ρ O st { P with nx:=M }) (k:∀ ρ' O',M ρ' O'->Exs X ρ' O' rest P):Exs X ρ O (st::rest) P:=Ac λG=>
 PS.imp (h G) λE σ H ⟨h1,h2,h3⟩=>⟨h1,h2,⟨λσ1 ρ1 O1 G1 H1 e1 s1 n1 q1=>h3.nx σ1 ρ1 O1 G1 H1 e1 s1 n1 (k _ _ q1),h3.rt,h3.bk,h3.ct⟩⟩
theorem Ay (h:Ev X ρ O e P.rt):Ex X ρ O (.Return (some e) pos) P:=λG=>PS.imp (Ux (h G)) λE σ H ⟨h1,h2,h3⟩=>⟨h1,h2,λv d O' G' H' e1 s1 i1 r1=>h3.rt v d O' G' H' e1 s1 i1 r1⟩
theorem A5 (h:Ev X ρ O e λ_ O'=>P.nx ρ O') (hs:swapsWith e none pos.line X.env=pure false:=by rfl):Ex X ρ O (.Expr e pos) P:=λG=>PS.imp (Gx (h G) hs) λE σ H ⟨h1,h2,h3⟩=>
 ⟨h1,h2,λv d O' G' H' e1 s1 i1 r1=>h3.nx σ ρ O' G' H' e1 s1 (h2.ext e1) r1⟩
theorem AG {k:Bool} (hc:AH X ρ O c k) (h1:k=true->Exs X ρ O body P) (h2:k=false->Exs X ρ O orelse P):Ex X ρ O (.If c body orelse pos) P:=λG=>
 PS.imp (Lb (hc G) (t:=λE σ H=>∃ G1,k=true/\SA X.K G1 H O/\Au X.K G1 σ ρ/\Cy X.K G1 P E) (λpins s σ H E I ⟨G1,z,q⟩=>h1 z G1 pins s σ H E I q)
  (u:=λE σ H=>∃ G1,k=false/\SA X.K G1 H O/\Au X.K G1 σ ρ/\Cy X.K G1 P E) (λpins s σ H E I ⟨G1,z,q⟩=>h2 z G1 pins s σ H E I q)) λE σ H ⟨q1,q2,q3⟩=>
  ⟨q1,q2,λG' H' e1 s1=>by
   cases k with
   | true=>exact HZ ⟨G',rfl,s1,q2.ext e1,q3.ext e1⟩
   | false=>exact H0 ⟨G',rfl,s1,q2.ext e1,q3.ext e1⟩⟩
def Tg (X:Cx) (tg:Expr) (d:D) (ρ ρ':Ai):Prop:=∀ G,PG X tg (λv σ H Q=>Is X.K G d v/\Bm G.g H/\Au X.K G σ ρ/\∀ σ',Au X.K G σ' ρ'->Q σ' H)
def IL (X:Cx) (tg:List Expr) (ds:List D) (ρ ρ':Ai):Prop:=∀ G,GW X tg (λvs σ H Q=>Aj X.K G ds vs/\Bm G.g H/\Au X.K G σ ρ/\∀ σ',Au X.K G σ' ρ'->Q σ' H)
theorem A2 (i:Nat) (hN:X.N.Nodup) (hi:X.N[i]?=some x:=by rfl) (hx:Er X.env.scope x:=by first | exact Or.inl rfl | exact Or.inr rfl) (hf:X.fn x=true\/X.env.scope.names.lookup x=some .local:=by first | exact .inl rfl | exact .inr rfl | assumption):Tg X (.Name x pos) d ρ (ρ.set i (some d)):=λG pins s σ H v u Q I r ⟨h1,h2,h3,h4⟩=>
 US hN hi hx hf pins s σ H v u Q I r (h4 _ (h3.set i h1))
theorem EA:IL X [] [] ρ ρ:=λG pins s σ H vs us Q I r ⟨h1,h2,h3,h4⟩=>UO pins s σ H vs us Q I r ⟨by cases h1; rfl,h4 _ h3⟩
theorem B7 {ρ1 ρ2:Ai} (h:Tg X e d ρ ρ1) (k:IL X es ds ρ1 ρ2) (hs:(assignEach (e::es) X.env).map (·.2)=assign e X.env::(assignEach es X.env).map (·.2):=by rfl):IL X (e::es) (d::ds) ρ ρ2:=λG pins s σ H vs us Q I r ⟨h1,h2,h3,h4⟩=>by
 cases h1 with
 | cons i1 i2=>
  exact UP (h G) (k G) hs pins s σ H _ us Q I r ⟨_,_,rfl,i1,h2,h3,λσ' n'=>⟨i2,h2,n',h4⟩⟩
theorem EB {ρ1:Ai} {k:Nat} (h:IL X es ds ρ ρ1) (hc:X.calm=true:=by rfl) (hn:(assignEach es X.env).length=ds.length:=by rfl) (hst:(assignEach es X.env).findIdx? (·.1)=none:=by rfl):Tg X (.Tuple es k pos) (.tup ds) ρ ρ1:=λG pins s σ H v u Q I r ⟨h1,h2,h3,h4⟩=>by
 cases h1 with
 | tup q1 q2=>
  exact UQ hc (h G) hn hst pins s σ H _ u Q I r ⟨_,_,rfl,C6 h2 q1,by rw [<- q2.length],q2,h2,h3,h4⟩
theorem AL (i:Nat) (he:Ev X ρ O e λd O'=>P.nx (ρ.set i (some d)) O') (hN:X.N.Nodup) (hi:X.N[i]?=some x:=by rfl) (hx:Er X.env.scope x:=by first | exact Or.inl rfl | exact Or.inr rfl) {p:Pos}
  (hs:swapsWith e (some (.Name x p)) pos.line X.env=pure false:=by rfl) (hf:X.fn x=true\/X.env.scope.names.lookup x=some .local:=by first | exact .inl rfl | exact .inr rfl | assumption):Ex X ρ O (.Assign [.Name x p] e pos) P:=λG=>
 PS.imp (Uw hN hi hx (he G) hs hf) λE σ H ⟨h1,h2,h3⟩=>⟨h1,h2,λv d O' G' H' e1 s1 i1 r1=>h3.nx _ _ O' G' H' e1 s1 ((h2.ext e1).set i i1) r1⟩
theorem Q5 {q:Nat} {xs:List D} {apos cpos:Pos} (ho:Ad X ρ O a (.ptr q)) (hq:O[q]?=some (some (.lst xs))) (he:Ad X ρ O e d) (hz:xs.length<sizeLine) (h:P.nx ρ (O.set q (some (.lst (xs++[d])))))
  (hbase:attributeBase a ("append" : Str) X.env (eval a X.env)=eval a X.env:=by rfl) (hline:(apos.endLine==cpos.line)=true:=by rfl) (hst:starEach [e] X.env=[(false,eval e X.env)]:=by rfl)
  (hsw:swapsWith (.Call (.Attribute a ("append" : Str) apos) [e] [] cpos) none pos.line X.env=pure false:=by rfl):Ex X ρ O (.Expr (.Call (.Attribute a ("append" : Str) apos) [e] [] cpos) pos) P:=λG=>
 PS.imp (Gx (HK PySem.F.plainAttrs_list PySem.F.slot_list_append PySem.F.type_list_append OO (ho G)
  (Cq (te:=λσ H Q=>∃ G1,SA X.K G1 H O/\Au X.K G1 σ ρ/\∀ v G' H',Ah G1 G'->SA X.K G' H' O->Is X.K G' d v->Q v H') (λpins s σ H Q I ⟨G1,q⟩=>he G1 pins s σ H Q I q) DN hst) hbase
  (by rw [hst]; rfl) hline hst (by rfl)) hsw) λE σ H ⟨q1,q2,q3⟩=>⟨q1,q2,λv G1 H1 e1 s1 i1=>by
   cases i1 with
   | ptr _ ha=>
   obtain ⟨a1,g0,g1,vs,g2,g3⟩:=s1.mt q _ hq
   obtain rfl:=Option.some.inj (ha.symm.trans g0)
   refine ⟨.inl ⟨rfl,vs,A0.of g2⟩,G1,s1,q2.ext e1,λw G2 H2 e2 s2 i2=>?_⟩
   obtain ⟨a2,g7,g4,us,g5,g6⟩:=s2.mt q _ hq
   obtain rfl:=Option.some.inj ((e2.at g0).symm.trans g7)
   refine ⟨_,us,w,rfl,rfl,g5,by rw [<- g6.length]; exact hz,?_⟩
   exact q3.nx σ ρ _ G2 _ (e1.trans e2) (s2.put (m':=.lst (xs++[d])) hq g7 ⟨_,AW,g6.append (.cons i2 .nil)⟩) (q2.ext (e1.trans e2)) h⟩
structure DD (K:PySem.W.Frag) (G:Wd) (J:It) (xs:List D):Prop where
 go:∀ i H,Bm G.g H->i<xs.length->J.go i H
 stop:∀ i H,Bm G.g H->xs.length<=i->J.stop i H
 yld:∀ i v H H' G2 O2,Ah G G2->SA K G2 H O2->J.yld i H v H'->i<xs.length->∃ x G3,xs[i]?=some x/\Ah G2 G3/\SA K G3 H' O2/\Is K G3 x v
def BX (X:Cx) (ρ:Ai) (O:Ae) (tg iter:Expr) (xs:List D):Prop:=
 ∀ G,PI X tg iter (λσ H R=>SA X.K G H O/\Au X.K G σ ρ/\∀ J G' H',Ah G G'->SA X.K G' H' O->DD X.K G' J xs->R J H')
theorem _root_.L2.PI.imp {X:Cx} {tg iter:Expr} {t u:TI} (h:PI X tg iter t) (k:∀ σ H R,u σ H R->t σ H R):PI X tg iter u:=λpins s σ H R I q=>h pins s σ H R I (k _ _ _ q)
theorem Pe {K:PySem.W.Frag} {G:Wd} {q:Addr} {vs:List V} {xs:List D} (h1:A0 K G.g q vs) (r:Aj K G xs vs):DD K G (ME K q) xs where
 go:=λi H e hi=>by
  obtain ⟨v,hv,_⟩:=r.get (i:=i) (d:=xs[i]) (by simp [hi])
  exact ⟨vs,v,e.seq h1,hv⟩
 stop:=λi H e hi=>⟨vs,e.seq h1,by rw [<- r.length]; exact hi⟩
 yld:=λi v H H' G2 O2 e s y hi=>by
  obtain ⟨rfl,y⟩:=y
  obtain ⟨x,hx,ix⟩:=r.getV (y vs ((e.g.trans s.sub).seq h1))
  exact ⟨x,G2,hx,Ah.refl _,s,ix.ext e⟩
theorem XE {K:PySem.W.Frag} {G:Wd} {q:Addr} {vs:List V} {xs:List D} (h1:A1 K G.g q vs) (r:Aj K G xs vs):DD K G (MD K q) xs where
 go:=λi H e hi=>by
  obtain ⟨v,hv,_⟩:=r.get (i:=i) (d:=xs[i]) (by simp [hi])
  exact ⟨vs,v,C6 e h1,hv⟩
 stop:=λi H e hi=>⟨vs,C6 e h1,by rw [<- r.length]; exact hi⟩
 yld:=λi v H H' G2 O2 e s y hi=>by
  obtain ⟨rfl,y⟩:=y
  obtain ⟨x,hx,ix⟩:=r.getV (y vs (C6 (e.g.trans s.sub) h1))
  exact ⟨x,G2,hx,Ah.refl _,s,ix.ext e⟩
theorem Zb {tg:Expr} {xs:List D} (h:Ad X ρ O e (.lst xs)):BX X ρ O tg e xs:=λG=>PI.imp (Ow (h G)) λσ H R ⟨h1,h2,h3⟩=>⟨h1,h2,λv G1 H1 e1 s1 i1=>by
 cases i1 with
 | lst q r=>exact ⟨_,rfl,⟨_,A0.of (s1.sub _ _ q)⟩,h3 _ G1 H1 e1 s1 (Pe (A0.of q) r)⟩⟩
theorem Y9 {tg:Expr} {xs:List D} (h:Ad X ρ O e (.scr xs)):BX X ρ O tg e xs:=λG=>PI.imp (Ow (h G)) λσ H R ⟨h1,h2,h3⟩=>⟨h1,h2,λv G1 H1 e1 s1 i1=>by
 cases i1 with
 | scr q r=>exact ⟨_,rfl,⟨_,s1.sub.seq q⟩,h3 _ G1 H1 e1 s1 (Pe q r)⟩⟩
theorem Y8 {tg:Expr} {xs:List D} (h:Ad X ρ O e (.tup xs)):BX X ρ O tg e xs:=λG=>PI.imp (UL (h G)) λσ H R ⟨h1,h2,h3⟩=>⟨h1,h2,λv G1 H1 e1 s1 i1=>by
 cases i1 with
 | tup q r=>exact ⟨_,rfl,⟨_,C6 s1.sub q⟩,h3 _ G1 H1 e1 s1 (XE q r)⟩⟩
def Ea (lo:Int) (n:Nat):List D:=(List.range n).map λi=>.int (lo+(i:Nat))
theorem FL {lo:Int} {n:Nat}:(Ea lo n).length=n:=by simp [Ea]
theorem Ol {lo:Int} {n i:Nat} (h:i<n):(Ea lo n)[i]?=some (.int (lo+(i:Nat))):=by simp [Ea,h]
theorem Om {lo:Int} {n i:Nat} {x:D} (h:(Ea lo n)[i]?=some x):i<n/\x=.int (lo+(i:Nat)):=by
 have hi:i<n:=by
  have:=(List.getElem?_eq_some_iff.mp h).1
  rw [FL] at this
  exact this
 rw [Ol hi] at h
 exact ⟨hi,(Option.some.inj h).symm⟩
theorem Pd {K:PySem.W.Frag} {G:Wd} {lo:Int} {n:Nat}:DD K G (GZ lo n) (Ea lo n) where
 go:=λi H _ hi=>by rw [FL] at hi; exact hi
 stop:=λi H _ hi=>by rw [FL] at hi; exact hi
 yld:=λi v H H' G2 O2 e s y hi=>by
  obtain ⟨rfl,rfl⟩:=y
  rw [FL] at hi
  exact ⟨_,G2,Ol hi,Ah.refl _,s,.int _⟩
theorem IA {tg:Expr} {n:Int} (h:Ad X ρ O e (.int n)) (hm:X.mg "range" = none) (h1:-(2 ^ 62)<=n) (h2:n<2 ^ 62) (hg:Gl X "range" := by rfl) (hs:starEach [e] X.env=[(false,eval e X.env)]:=by rfl):BX X ρ O tg (.Call (.Name "range" p) [e] [] pos) (Ea 0 n.toNat):=λG=>
 PI.imp (UN hg hm (Ab h Af hs G) hs) λσ H R ⟨q1,q2,q3⟩=>⟨q1,q2,λvs G1 H1 e1 s1 i1=>by
  cases i1 with | cons i r=>cases r; cases i; exact ⟨n,rfl,h1,h2,q3 _ G1 H1 e1 s1 Pd⟩⟩
theorem Za {tg:Expr} {m n:Int} (ha:Ad X ρ O a (.int m)) (hb:Ad X ρ O b (.int n)) (hm:X.mg "range" = none) (h1:-(2 ^ 62)<=m) (h2:m<2 ^ 62) (h3:-(2 ^ 62)<=n) (h4:n<2 ^ 62) (hg:Gl X "range" := by rfl)
  (hs:starEach [a,b] X.env=[(false,eval a X.env),(false,eval b X.env)]:=by rfl) (hs2:starEach [b] X.env=[(false,eval b X.env)]:=by rfl):BX X ρ O tg (.Call (.Name "range" p) [a,b] [] pos) (Ea m (n-m).toNat):=λG=>
 PI.imp (UM hg hm (Ab ha (Ab hb Af hs2) (by rw [hs,hs2]) G) hs hs2) λσ H R ⟨q1,q2,q3⟩=>⟨q1,q2,λvs G1 H1 e1 s1 i1=>by
  cases i1 with | cons i r=>cases r with | cons i' r=>cases r; cases i; cases i'; exact ⟨m,n,rfl,⟨h1,h2,h3,h4⟩,q3 _ G1 H1 e1 s1 Pd⟩⟩
theorem Fz {tg iter:Expr} {body:List Stmt} {xs:List D} (hi:BX X ρ O tg iter xs) (inv:Nat->Ai->Ae->Prop) (h0:inv 0 ρ O)
  (hs:∀ i x ρ' O',xs[i]?=some x->inv i ρ' O'->∃ ρ1,Tg X tg x ρ' ρ1/\Exs X ρ1 O' body { P with nx:=inv (i+1),ct:=inv (i+1),bk:=P.nx }) (hd:∀ ρ' O',inv xs.length ρ' O'->P.nx ρ' O')
  (hp:PassesOwn (model X.prog X.w) X.A X.env X.xe:=by exact PassesOwn.never) (hc:X.calm=true:=by rfl) (hf:∀ x,foldedSetIterable iter X.env x=pure x:=by intro _; rfl):Ex X ρ O (.For tg iter body [] pos) P:=λG=>
 PS.imp (Uz hp hc (hi G) (g:=λv σ H Q=>∃ G1 ρ1 ρ2 x,Tg X tg x ρ1 ρ2/\Is X.K G1 x v/\Bm G1.g H/\Au X.K G1 σ ρ1/\∀ σ',Au X.K G1 σ' ρ2->Q σ' H) (λpins s σ H v u Q I r ⟨G1,ρ1,ρ2,x,q,q'⟩=>q G1 pins s σ H v u Q I r q')
  (tb:=λE σ H=>∃ G1 ρ1 O1 P1,SA X.K G1 H O1/\Au X.K G1 σ ρ1/\Exs X ρ1 O1 body P1/\Cy X.K G1 P1 E) (λpins s σ H E I ⟨G1,ρ1,O1,P1,q1,q2,q3,q4⟩=>q3 G1 pins s σ H E I ⟨q1,q2,q4⟩) hf) λE σ H ⟨q1,q2,q3⟩=>by
  refine ⟨q1,q2,λJ G1 H1 e1 s1 Y=>?_⟩
  refine ⟨λi m σ H=>∃ G2 ρ2 O2,Ah G1 G2/\SA X.K G2 H O2/\Au X.K G2 σ ρ2/\inv i ρ2 O2/\i<=xs.length/\m=xs.length-i,⟨_,G1,ρ,O,Ah.refl _,s1,q2.ext e1,h0,Nat.zero_le _,rfl⟩,?_⟩
  rintro i m σ2 H2 ⟨G2,ρ2,O2,e2,s2,n2,v2,l2,rfl⟩
  by_cases hlt:i<xs.length
  ·refine .inr ⟨Y.go i H2 (e2.g.trans s2.sub) hlt,λσ' H'=>∃ G3 ρ3 O3,Ah G1 G3/\SA X.K G3 H' O3/\Au X.K G3 σ' ρ3/\inv (i+1) ρ3 O3,λσ' H' ⟨G3,ρ3,O3,e3,s3,n3,v3⟩=>⟨xs.length-(i+1),by omega,G3,ρ3,O3,e3,s3,n3,v3,hlt,rfl⟩,λv H3 y=>?_⟩
   obtain ⟨x,G3,hx,e3,s3,i3⟩:=Y.yld i v H2 H3 G2 O2 e2 s2 y hlt
   obtain ⟨ρ3,t3,b3⟩:=hs i x ρ2 O2 hx v2
   have e13:Ah G1 G3:=e2.trans e3
   refine ⟨G3,ρ2,ρ3,x,t3,i3,s3.sub,n2.ext e3,λσ' n'=>⟨G3,ρ3,O2,_,s3,n',b3,⟨λσ4 ρ4 O4 G4 H4 e4 s4 n4 q=>⟨G4,ρ4,O4,e13.trans e4,s4,n4,q⟩,λv d O4 G4 H4 e4 s4 i4 r=>q3.rt v d O4 G4 H4 (e1.trans (e13.trans e4)) s4 i4 r,
    λσ4 ρ4 O4 G4 H4 e4 s4 n4 q=>q3.nx σ4 ρ4 O4 G4 H4 (e1.trans (e13.trans e4)) s4 n4 q,λσ4 ρ4 O4 G4 H4 e4 s4 n4 q=>⟨G4,ρ4,O4,e13.trans e4,s4,n4,q⟩⟩⟩⟩
  ·have ei:i=xs.length:=by omega
   subst ei
   exact .inl ⟨Y.stop _ H2 (e2.g.trans s2.sub) (Nat.le_refl _),q3.nx σ2 ρ2 O2 G2 H2 (e1.trans e2) s2 n2 (hd _ _ v2)⟩
end
def EC (N:List Str) (ds:List D):Ai:=ds.map some++List.replicate (N.length-ds.length) none
section
variable {P:Program} {w:World} {K:PySem.W.Frag} {mg:Str->Option Value} {base:Heap}
theorem Hl {G:Wd} {N:List Str} {ds:List D} {vs:List V} (r:Aj K G ds vs):Au K G (L2.start N vs) (EC N ds):=by
 refine ⟨by unfold L2.start EC; simp [r.length],λi d h=>?_⟩
 unfold EC at h
 by_cases hi:i<ds.length
 ·rw [List.getElem?_append_left (by simpa using hi),List.getElem?_map] at h
  cases q:ds[i]? with
  | none=>rw [q] at h; cases h
  | some d'=>
   rw [q] at h; cases h
   obtain ⟨v,hv,iv⟩:=r.get q
   refine ⟨v,?_,iv⟩
   unfold L2.start
   rw [List.getElem?_append_left (by rw [List.length_map,<- r.length]; exact hi),List.getElem?_map,hv]
   rfl
 ·rw [List.getElem?_append_right (by simpa using hi),List.getElem?_replicate] at h
  split at h <;> cases h
theorem Bu {x qual:Str} {st:Stmt} {f:Addr} {fd:FuncData} {N ps:List Str} {k:Nat} {sp:AE} (F:Av K x qual st f fd) (S:Ax N ps (Ak st))
  (len:∀ ds O R,sp ds O R->ds.length=ps.length)
  (hbody:∀ (cdv:Value) (A:Around) (outer:List Env) (s:Shared) (H:Hp) (E:XK) (ds:List D) (O:Ae) (R:D->Ae->Prop),AM k (A.deeper (envOfC qual (Ak st) s.heap.objs.size f cdv))->sp ds O R->
   Exs (CZ AO P w K mg base N qual (Ak st) f cdv A outer s H E).nox (EC N ds) O (BR st) { nx:=λ_ O'=>R .non O',rt:=R }):AC P w K mg base AO (k+1) f fd ps (AR K sp):=by
 refine F.ok S (λvs H Q E h=>?_) (λcdv A outer s H vs Q E hr h=>?_)
 ·obtain ⟨G,O,ds,R,h1,h2,h3,h4⟩:=h
  rw [<- h2.length]
  exact len _ _ _ h3
 ·obtain ⟨G,O,ds,R,h1,h2,h3,h4⟩:=h
  refine ⟨_,hbody cdv A outer s H E ds O R hr h3 G,h1,Hl h2,⟨λσ ρ O' G' H' e1 s1 n1 q=>h4 _ _ O' G' H' e1 s1 .non q,λv d O' G' H' e1 s1 i1 q=>h4 v d O' G' H' e1 s1 i1 q,λσ ρ O' G' H' e1 s1 n1 q=>q.elim,λσ ρ O' G' H' e1 s1 n1 q=>q.elim⟩⟩
theorem A4 {x qual:Str} {st:Stmt} {f:Addr} {fd:FuncData} {N ps:List Str} {k:Nat} {sp:AE} (F:Av K x qual st f fd) (S:Ax N ps (Ak st)) (hm:mg x=some (.ref f)) (hb:Binds K fd ps [])
  (len:∀ ds O R,sp ds O R->ds.length=ps.length)
  (hbody:∀ (cdv:Value) (A:Around) (outer:List Env) (s:Shared) (H:Hp) (E:XK) (ds:List D) (O:Ae) (R:D->Ae->Prop),AM k (A.deeper (envOfC qual (Ak st) s.heap.objs.size f cdv))->sp ds O R->
   Exs (CZ AO P w K mg base N qual (Ak st) f cdv A outer s H E).nox (EC N ds) O (BR st) { nx:=λ_ O'=>R .non O',rt:=R }):Am P w K mg base (k+1) x sp:=
 ⟨f,fd,ps,Bu F S len hbody,hm,F.kp,hb⟩
end
def Gj:AE:=λds O R=>∃ ns:List Int,ds=[.scr (ns.map D.int)]/\ns.length<=63/\R (.bl true) O
theorem Xp {K:PySem.W.Frag} {H:Hp} {a:Addr} {ns:List Int} (hl:ns.length<=63) (hS:A0 K H a (ns.map V.int)):AR K Gj [.ref a] H (λv _=>v=.bl true) λ_ _ _=>False:=
 ⟨⟨H,[]⟩,[],[.scr (ns.map D.int)],λd _=>d=.bl true,⟨Bm.refl _,rfl,List.nodup_nil,λa h=>absurd h List.not_mem_nil,λn m h=>by cases h⟩,.cons (.scr hS Aj.ints) .nil,⟨ns,rfl,hl,rfl⟩,λv d O' G' H' _ _ i r=>by subst r; cases i; rfl⟩
section
variable {X:Cx} {ρ:Ai} {O:Ae} {e a b c:Expr} {es:List Expr} {d da db:D} {ds:List D} {R:D->Ae->Prop} {pos p:Pos} {x:Str}
theorem Ct {U:String} (hm:X.mg x=none) (hg:Gl X x:=by rfl) (hv:bootBuiltins x=some (.type U):=by first | rfl | decide +kernel) (hn:x ≠ "__name__" := by decide) (hd:(x==("__debug__" : Str))=false:=by decide):Ad X ρ O (.Name x p) (.ty U):=λG=>
 PE.imp (Lh (v:=.ty U) hg hm hv rfl hn hd) λσ H Q ⟨h1,h2,h3⟩=>h3 _ G H (Ah.refl _) h1 (.ty U)
def Hi:D->Option String
 | .non=>some "NoneType" | .bl _=>some "bool" | .int _=>some "int" | .str _=>some "str" | .tup _=>some "tuple" | .lst _=>some "list" | .scr _=>some "list" | .ptr _=>none | .ty _=>none | .fn _=>none | .dct _ _=>some "dict"
theorem ZU {T U:String} {k:Bool} (ht:Hi d=some T) (hk:∀ K,PySem.W.kitOne K (.type T) (.type U)=some k):BP X O (.builtin "isinstance") [d,.ty U] (.bl k):=λG pins s σ H xs us Q I r ⟨h1,h2,h3⟩=>by
 cases h2 with
 | cons i r2=>
  cases r2 with
  | cons i' r3=>
   cases r3
   cases i'
   obtain ⟨u,u',rfl,r1,r2⟩:=Ds r
   cases r2
   have fin:∀ tk,EP X pins σ Q (.bool k) { s with toks:=tk }:=λtk=>⟨.bl k,H,I.tok tk,rfl,h3 _ G H (Ah.refl _) h1 (.bl k)⟩
   cases i with
   | non=>cases ht; cases r1; exact PySem.W.kia_one PySem.W.kitx_none I.kIn True.intro (hk _) (λz=>nomatch z) fin
   | bl y=>cases ht; cases r1; exact PySem.W.kia_one PySem.W.kitx_bool I.kIn True.intro (hk _) (λz=>nomatch z) fin
   | int i=>cases ht; obtain ⟨t,rfl⟩:=r1; exact PySem.W.kia_one PySem.W.kitx_int I.kIn True.intro (hk _) (λz=>nomatch z) fin
   | str y=>cases ht; obtain ⟨t,rfl⟩:=r1; exact PySem.W.kia_one PySem.W.kitx_str I.kIn True.intro (hk _) (λz=>nomatch z) fin
   | tup q1 q2=>
    cases ht; cases r1
    obtain ⟨its,_,⟨o,g1,g2,_⟩,_⟩:=I.tuple (C6 h1.sub q1)
    exact PySem.W.kia_one PySem.W.kitx_tuple I.kIn ⟨o,g1,g2⟩ (hk _) (λz=>nomatch z) fin
   | lst q1 q2=>
    cases ht; cases r1
    obtain ⟨its,_,⟨o,n,g1,g2,_⟩,_⟩:=I.list (A0.of (h1.sub _ _ q1))
    exact PySem.W.kia_one PySem.W.kitx_list I.kIn ⟨o,g1,g2⟩ (hk _) (λz=>nomatch z) fin
   | scr q1 q2=>
    cases ht; cases r1
    obtain ⟨its,_,⟨o,n,g1,g2,_⟩,_⟩:=I.list (h1.sub.seq q1)
    exact PySem.W.kia_one PySem.W.kitx_list I.kIn ⟨o,g1,g2⟩ (hk _) (λz=>nomatch z) fin
   | ptr _ _=>cases ht
   | ty _=>cases ht
   | fn _=>cases ht
   | dct q1 _ q2=>
    cases ht; cases r1
    obtain ⟨_,_,_,_,o,_,_,g1,g2,_⟩:=Rd.ok (.inr ⟨_,h1.sub _ _ q1⟩) I.hok
    exact PySem.W.kia_one PySem.W.kitx_dict I.kIn ⟨o,g1,g2.1⟩ (hk _) (λz=>nomatch z) fin
def Nl (T U:String):Bool:=T==U||(T == "bool" && U == "int")
theorem Xu:∀ T∈["NoneType","bool","int","str","tuple","list","dict"],∀ U∈["int","bool","tuple","str","dict","list"],∀ K,PySem.W.kitOne K (.type T) (.type U)=some (Nl T U):=by
 intro T hT U hU K
 simp only [List.mem_cons,List.not_mem_nil,or_false] at hT hU
 rcases hT with rfl | rfl | rfl | rfl | rfl | rfl | rfl <;> rcases hU with rfl | rfl | rfl | rfl | rfl | rfl <;> kernel_rfl
def FQ:D->Bool
 | .ptr _=>false | .ty _=>false | .fn _=>false | _=>true
def Ei (d:D) (U:String):Bool:=match Hi d with
 | some T=>Nl T U
 | none=>false
theorem Mh {U:String} (h:FQ d=true) (hU:U∈["int","bool","tuple","str","dict","list"]):BP X O (.builtin "isinstance") [d,.ty U] (.bl (Ei d U)):=by
 cases d with
 | ptr _=>cases h
 | ty _=>cases h
 | fn _=>cases h
 | _=>exact ZU (T:=_) rfl (Xu _ wE U hU)
theorem ZT (h:FQ d=true):BP X O (.builtin "isinstance") [d,.ty "int"] (.bl (Ei d "int")):=Mh h wE
theorem GU (h:FQ d=true):BP X O (.builtin "isinstance") [d,.ty "bool"] (.bl (Ei d "bool")):=Mh h wE
theorem DV (h:FQ d=true):BP X O (.builtin "isinstance") [d,.ty "tuple"] (.bl (Ei d "tuple")):=Mh h wE
theorem PC {i:Int} (ha:Ad X ρ O a (.int i)):Ad X ρ O (.UnaryOp .USub a pos) (.int (-i)):=λG=>PE.imp (UT Rk (ha G)) λσ H Q ⟨h1,h2,h3⟩=>⟨h1,h2,λv G1 H1 e1 s1 i1=>by
 cases i1; exact ⟨i,rfl,h3 _ G1 H1 e1 s1 (.int _)⟩⟩
end
def CL (env:Env):List (Str×NameKind)->List (Str×Addr)->List (Str×Addr)
 | [],cs=>cs
 | (n,k)::r,cs=>if k==.free then CL env r ((n,(env.cells.lookup n).getD 0)::cs) else CL env r cs
theorem Ma {env:Env} (f:Str×NameKind->List (Str×Addr)->Sem (ForInStep (List (Str×Addr))))
  (hf:∀ n k cs,f (n,k) cs=if (k==NameKind.free)=true then (do let a <- cellOf env n; pure (.yield ((n,a)::cs))) else pure (.yield cs)) :
  ∀ (names:List (Str×NameKind)) (cs:List (Str×Addr)),(∀ y∈names,y.2=.free->∃ a,env.cells.lookup y.1=some a)->forIn names cs f=pure (CL env names cs)
 | [],cs,_=>by rw [List.forIn_nil]; rfl
 | (n,k)::r,cs,h=>by
  rw [List.forIn_cons,hf]
  have hr:∀ y∈r,y.2=.free->∃ a,env.cells.lookup y.1=some a:=λy hy=>h y (List.mem_cons_of_mem _ hy)
  unfold CL
  by_cases hk:(k==NameKind.free)=true
  ·rw [if_pos hk,if_pos hk]
   obtain ⟨a,e⟩:=h (n,k) List.mem_cons_self (by simpa using hk)
   have e':cellOf env n=pure a:=by unfold cellOf; rw [e]
   rw [e',e]
   simp only [pure_bind,Option.getD_some]
   exact Ma f hf r _ hr
  ·rw [if_neg hk,if_neg hk]
   simp only [pure_bind]
   exact Ma f hf r _ hr
theorem ZA {env:Env} {scope:Scope} (h:∀ y∈scope.names,y.2=.free->∃ a,env.cells.lookup y.1=some a):closureFor scope env=pure (CL env scope.names []):=by
 have e:=Ma (env:=env) (λ(x:Str×NameKind) (cs:List (Str×Addr))=>if (x.2==NameKind.free)=true then (do let a <- cellOf env x.1; pure (.yield ((x.1,a)::cs))) else pure (.yield cs)) (λn k cs=>rfl) scope.names [] h
 unfold closureFor
 exact (congrArg (λz=>z >>= λq=>pure q) e).trans (by simp)
theorem Mb {env:Env} {x:Str} {c:Addr}:∀ (names:List (Str×NameKind)) (cs:List (Str×Addr)),(∀ y∈names,y.2=.free->∃ a,env.cells.lookup y.1=some a)->
  (CL env names cs).lookup x=some c->cs.lookup x=some c\/env.cells.lookup x=some c
 | [],cs,_,h=>.inl h
 | (n,k)::r,cs,hh,h=>by
  have hr:∀ y∈r,y.2=.free->∃ a,env.cells.lookup y.1=some a:=λy hy=>hh y (List.mem_cons_of_mem _ hy)
  unfold CL at h
  by_cases hk:(k==NameKind.free)=true
  ·rw [if_pos hk] at h
   obtain ⟨a,e⟩:=hh (n,k) List.mem_cons_self (by simpa using hk)
   rcases Mb r _ hr h with q | q
   ·rw [e,Option.getD_some,List.lookup_cons] at q
    cases hx:x==n with
    | true=>
     rw [hx] at q
     have:x=n:=by simpa using hx
     subst this
     exact .inr (by cases q; exact e)
    | false=>rw [hx] at q; exact .inl q
   ·exact .inr q
  ·rw [if_neg hk] at h
   exact Mb r cs hr h
theorem GT {env:Env} {x:Str}:∀ (names:List (Str×NameKind)) (cs:List (Str×Addr)),names.lookup x=some .free\/(cs.lookup x).isSome=true->((CL env names cs).lookup x).isSome=true
 | [],cs,h=>h.elim (λe=>by cases e) id
 | (n,k)::r,cs,h=>by
  unfold CL
  by_cases hk:(k==NameKind.free)=true
  ·rw [if_pos hk]
   refine GT r _ ?_
   cases hx:x==n with
   | true=>right; rw [List.lookup_cons,hx]; rfl
   | false=>
    rw [List.lookup_cons,hx] at h
    rw [List.lookup_cons,hx]
    exact h
  ·rw [if_neg hk]
   refine GT r _ ?_
   cases hx:x==n with
   | true=>
    rw [List.lookup_cons,hx] at h
    rcases h with h | h
    ·cases h; exact absurd rfl hk
    ·exact .inr h
   | false=>rw [List.lookup_cons,hx] at h; exact h
theorem Mc {x:Str}:∀ (names:List (Str×NameKind)) (n:Nat) (acc:List (Str×Addr)),(∀ y∈names,y.1=x->y.2≠.cell)->(cellsFrom n names acc).lookup x=acc.lookup x
 | [],_,_,_=>rfl
 | (y,k)::r,n,acc,h=>by
  have hr:∀ z∈r,z.1=x->z.2≠.cell:=λz hz=>h z (List.mem_cons_of_mem _ hz)
  unfold cellsFrom
  by_cases hk:(k==NameKind.cell)=true
  ·rw [if_pos hk,Mc r _ _ hr,List.lookup_cons]
   have:y≠x:=λe=>h (y,k) List.mem_cons_self e (by simpa using hk)
   rw [show (x==y)=false from by simpa using Ne.symm this]
  ·rw [if_neg hk]
   exact Mc r _ _ hr
theorem Me {x:Str} {c:Addr}:∀ (names:List (Str×NameKind)) (h:Heap) (acc:List (Str×Addr)),(∀ y b,acc.lookup y=some b->∃ v,h.IsCell b v)->(cellsFrom h.objs.size names acc).lookup x=some c->
  (∃ v,(pushCells h names).IsCell c v)/\(acc.lookup x=some c\/h.objs.size<=c)
 | [],h,acc,hc,e=>⟨hc _ _ e,.inl e⟩
 | (y,k)::r,h,acc,hc,e=>by
  unfold cellsFrom at e
  unfold pushCells
  by_cases hk:(k==NameKind.cell)=true
  ·rw [if_pos hk] at e ⊢
   have hz:(h.push { cls:=.type "cell",data:=.cell none }).objs.size=h.objs.size+1:=Heap.size_push ..
   rw [<- hz] at e
   obtain ⟨q1,q2⟩:=Me r (h.push { cls:=.type "cell",data:=.cell none }) ((y,h.objs.size)::acc) (λz b q=>by
    rw [List.lookup_cons] at q
    cases hx:z==y with
    | true=>rw [hx] at q; cases q; exact ⟨none,_,Heap.get?_push_size _ rfl,rfl⟩
    | false=>
     rw [hx] at q
     obtain ⟨v,o,q1,q2⟩:=hc z b q
     exact ⟨v,o,Heap.get?_push_of_some _ q1,q2⟩) e
   refine ⟨q1,?_⟩
   rcases q2 with q2 | q2
   ·rw [List.lookup_cons] at q2
    cases hx:x==y with
    | true=>rw [hx] at q2; cases q2; exact .inr (Nat.le_refl _)
    | false=>rw [hx] at q2; exact .inl q2
   ·exact .inr (by rw [hz] at q2; omega)
  ·rw [if_neg hk] at e ⊢
   exact Me r h acc hc e
theorem Md:∀ (names:List (Str×NameKind)) (n:Nat) (acc:List (Str×Addr)),(∀ x y c,acc.lookup x=some c->acc.lookup y=some c->x=y)->(∀ x c,acc.lookup x=some c->c<n)->
  ∀ x y c,(cellsFrom n names acc).lookup x=some c->(cellsFrom n names acc).lookup y=some c->x=y
 | [],_,_,hi,_=>hi
 | (z,k)::r,n,acc,hi,hl=>by
  unfold cellsFrom
  by_cases hk:(k==NameKind.cell)=true
  ·rw [if_pos hk]
   refine Md r (n+1) ((z,n)::acc) (λx y c e1 e2=>?_) (λx c e=>?_)
   ·rw [List.lookup_cons] at e1 e2
    cases hx:x==z <;> cases hy:y==z <;> rw [hx] at e1 <;> rw [hy] at e2
    ·exact hi x y c e1 e2
    ·cases e2; exact absurd (hl _ _ e1) (Nat.lt_irrefl _)
    ·cases e1; exact absurd (hl _ _ e2) (Nat.lt_irrefl _)
    ·rw [show x=z by simpa using hx,show y=z by simpa using hy]
   ·rw [List.lookup_cons] at e
    cases hx:x==z <;> rw [hx] at e
    ·exact Nat.lt_succ_of_lt (hl _ _ e)
    ·cases e; exact Nat.lt_succ_self _
  ·rw [if_neg hk]
   exact Md r n acc hi hl
theorem HG {env:Env} {x:Str} {k:NameKind}:∀ (names:List (Str×NameKind)),(names.map λ(n,k)=>if (k==NameKind.free&&env.scope.kind==.function&&env.kindOf n==some .cell) then (n,NameKind.cell) else (n,k)).lookup x=some k->
  names.lookup x=some k\/(k=.cell/\names.lookup x=some .free)
 | [],h=>by cases h
 | (n,k')::r,h=>by
  rw [List.map_cons] at h
  by_cases hc:(k'==NameKind.free&&env.scope.kind==.function&&env.kindOf n==some .cell)=true
  ·simp only [hc,if_true] at h
   rw [List.lookup_cons] at h ⊢
   cases hx:x==n with
   | true=>
    rw [hx] at h; cases h
    have:k'=.free:=by
     simp only [Bool.and_eq_true,beq_iff_eq] at hc
     exact hc.1.1
    subst this
    exact .inr ⟨rfl,rfl⟩
   | false=>rw [hx] at h; exact HG r h
  ·simp only [hc,Bool.false_eq_true,if_false] at h
   rw [List.lookup_cons] at h ⊢
   cases hx:x==n with
   | true=>rw [hx] at h; exact .inl h
   | false=>rw [hx] at h; exact HG r h
theorem K7 {env:Env} {x:Str}:∀ (names:List (Str×NameKind)),names.lookup x=some .free->
  (names.map λ(n,k)=>if (k==NameKind.free&&env.scope.kind==.function&&env.kindOf n==some .cell) then (n,NameKind.cell) else (n,k)).lookup x=some .cell \/
  (names.map λ(n,k)=>if (k==NameKind.free&&env.scope.kind==.function&&env.kindOf n==some .cell) then (n,NameKind.cell) else (n,k)).lookup x=some .free
 | [],h=>by cases h
 | (n,k')::r,h=>by
  rw [List.map_cons]
  rw [List.lookup_cons] at h
  by_cases hc:(k'==NameKind.free&&env.scope.kind==.function&&env.kindOf n==some .cell)=true
  ·simp only [hc,if_true]
   rw [List.lookup_cons]
   cases hx:x==n with
   | true=>left; rfl
   | false=>rw [hx] at h; exact K7 r h
  ·simp only [hc]
   cases hx:x==n with
   | true=>rw [hx] at h; right; exact (by simp [List.lookup_cons,hx]; exact Option.some.inj h)
   | false=>
    rw [hx] at h
    simpa [List.lookup_cons,hx] using K7 r h
def CK (X:Cx) (N:List Str) (scope:Scope) (s:Shared) (H:Hp) (fp:List Addr):Cx:=
 { X with
  N:=N
  s₀:=s
  H₀:=H
  env:=compEnvC scope (cellsFrom (s.heap.objs.size+2) scope.names (CL X.env scope.names [])) (s.heap.objs.size+1) X.env
  outer:=X.stack
  ex:=fp
  fn:=λx=>scope.names.lookup x==some .cell
  pn:=[]
  xe:=λ_ _=>False }
section
variable {X:Cx} {pins:List (Addr×Obj)} {σ:L2.St} {H:Hp} {s:Shared}
def F6 (X:Cx) (scope:Scope):Prop:=∀ y∈scope.names,y.2=.free->X.env.kindOf y.1=some .cell\/X.env.kindOf y.1=some .free
theorem XI {N:List Str} {scope:Scope} {fp:List Addr} {σ0:L2.St} (I:L2.Inv X pins σ H s) (hf:∀ b∈fp,BS X pins H b) (ho:∀ b∈fp,∃ o,s.heap.get? b=some o) (hk:scope.kind=.function) (hfr:F6 X scope)
  (hl:σ0.length=N.length) (hσ:∀ (i:Nat) (v:V),σ0[i]?=some (some v)->∃ (x:Str) (j:Nat),N[i]?=some x/\scope.names.lookup x=some .free/\(∀ y∈scope.names,y.1=x->y.2≠.cell)/\X.N[j]?=some x/\σ[j]?=some (some v)/\C1 X.env.scope x) (t:Nat) (oD:Obj) :
  L2.Inv (CK X N scope s H fp) [] σ0 H { s with heap:=pushCells ((s.heap.push oD).push { cls:=.type "dict",data:=.dict #[] }) scope.names,toks:=t }:=by
 have hz1:(s.heap.push oD).objs.size=s.heap.objs.size+1:=Heap.size_push ..
 have hz:((s.heap.push oD).push { cls:=.type "dict",data:=.dict #[] }).objs.size=s.heap.objs.size+2:=by rw [Heap.size_push,hz1]
 have up:∀ b o,s.heap.get? b=some o->(pushCells ((s.heap.push oD).push { cls:=.type "dict",data:=.dict #[] }) scope.names).get? b=some o:=λb o e=>pushCells_keeps _ _ b o (Heap.get?_push_of_some _ (Heap.get?_push_of_some _ e))
 have hcl:∀ y∈scope.names,y.2=.free->∃ a,X.env.cells.lookup y.1=some a:=λy hy e=>I.ok.has _ (hfr y hy e)
 have cl1:∀ y b,(CL X.env scope.names []).lookup y=some b->X.env.cells.lookup y=some b:=λy b e=>by
  rcases Mb _ _ hcl e with q | q
  ·cases q
  ·exact q
 have cl2:∀ y b,(CL X.env scope.names []).lookup y=some b->b<s.heap.objs.size:=λy b e=>by
  obtain ⟨v,q⟩:=I.cell y b (cl1 y b e); exact q.lt
 have cc:∀ y b,(cellsFrom (s.heap.objs.size+2) scope.names (CL X.env scope.names [])).lookup y=some b->
   (∃ v,(pushCells ((s.heap.push oD).push { cls:=.type "dict",data:=.dict #[] }) scope.names).IsCell b v)/\(X.env.cells.lookup y=some b/\b<s.heap.objs.size\/s.heap.objs.size+2<=b):=λy b e=>by
  rw [<- hz] at e
  obtain ⟨q1,q2⟩:=Me scope.names ((s.heap.push oD).push { cls:=.type "dict",data:=.dict #[] }) _ (λz c q=>by
   obtain ⟨v,o,q1,q2⟩:=I.cell z c (cl1 z c q)
   exact ⟨v,o,Heap.get?_push_of_some _ (Heap.get?_push_of_some _ q1),q2⟩) e
  refine ⟨q1,?_⟩
  rcases q2 with q2 | q2
  ·exact .inl ⟨cl1 _ _ q2,cl2 _ _ q2⟩
  ·rw [hz] at q2; exact .inr q2
 have hlt:=I.lt
 refine ⟨⟨I.ok.mod,hk,I.ok.glob,I.ok.blt,Nat.le_succ _,?_,?_,?_,I.ok.hd,I.ok.frames,.inl rfl,?_,I.bs,Nat.le_trans I.ok.bsz I.sz,?_,?_,I.stack,I.stkFree⟩,rfl,I.bare,Un.kept up,?_,?_,?_,?_,?_,I.hok.kept up,hl⟩
 ·exact Md _ _ _ (λx y c e1 e2=>I.ok.inj x y c (cl1 _ _ e1) (cl1 _ _ e2)) (λx c e=>Nat.lt_of_lt_of_le (cl2 x c e) (Nat.le_add_right _ 2))
 ·intro x hx
  have hx:(relabel scope X.env).names.lookup x=some .cell\/(relabel scope X.env).names.lookup x=some .free:=hx
  have:((cellsFrom (s.heap.objs.size+2) scope.names (CL X.env scope.names [])).lookup x).isSome=true:=by
   refine PySem.W.cellsFrom_some _ _ _ ?_
   rcases hx with hx | hx
   ·rcases HG _ hx with q | ⟨_,q⟩
    ·exact .inl q
    ·exact .inr (GT _ _ (.inl q))
   ·rcases HG _ hx with q | ⟨q,_⟩
    ·exact .inr (GT _ _ (.inl q))
    ·cases q
  exact Option.isSome_iff_exists.mp this
 ·intro x c hfn e
  rcases (cc x c e).2 with ⟨q,q'⟩ | q
  ·exfalso
   have hfn:scope.names.lookup x=some .cell:=by simpa [CK] using hfn
   -- own names' cells are new
   have:∀ (names:List (Str×NameKind)) (n:Nat) (acc:List (Str×Addr)),names.lookup x=some .cell\/(∃ b,acc.lookup x=some b/\s.heap.objs.size<=b)->s.heap.objs.size<=n->∀ b,(cellsFrom n names acc).lookup x=some b->s.heap.objs.size<=b:=by
    intro names
    induction names with
    | nil=>
     intro n acc h hn b eb
     rcases h with h | ⟨b',h,hb⟩
     ·cases h
     ·have eb:acc.lookup x=some b:=eb
      rw [h] at eb; cases eb; exact hb
    | cons p r ih=>
     obtain ⟨y,k⟩:=p
     intro n acc h hn b eb
     unfold cellsFrom at eb
     by_cases hkc:(k==NameKind.cell)=true
     ·rw [if_pos hkc] at eb
      refine ih (n+1) _ ?_ (Nat.le_succ_of_le hn) b eb
      cases hxy:x==y with
      | true=>right; exact ⟨n,by rw [List.lookup_cons,hxy],hn⟩
      | false=>
       rw [List.lookup_cons,hxy] at h
       rw [List.lookup_cons,hxy]
       exact h
     ·rw [if_neg hkc] at eb
      refine ih n _ ?_ hn b eb
      cases hxy:x==y with
      | true=>
       rw [List.lookup_cons,hxy] at h
       rcases h with h | h
       ·cases h; exact absurd rfl hkc
       ·exact .inr h
      | false=>rw [List.lookup_cons,hxy] at h; exact h
   exact absurd q' (Nat.not_lt.mpr (this scope.names _ _ (.inl hfn) (Nat.le_add_right _ 2) c e))
  ·exact Nat.le_trans (Nat.le_add_right _ 2) q
 ·intro b hb
  have hbl:b<s.heap.objs.size:=let ⟨o,e⟩:=ho b hb; Heap.lt_size e
  refine ⟨Nat.ne_of_lt (Nat.lt_succ_of_lt hbl),λx c e=>?_⟩
  obtain ⟨f0,f1,f2,f3,f4,f5⟩:=hf b hb
  rcases (cc x c e).2 with ⟨q,_⟩ | q
  ·exact f4 x c q
  ·exact Nat.ne_of_gt (Nat.lt_of_lt_of_le (Nat.lt_of_lt_of_le hbl (Nat.le_add_right _ 2)) q)
 ·intro b o e hb
  obtain ⟨f0,f1,f2,f3,f4,f5⟩:=hf b hb
  rcases f3 with q | q
  ·exact I.ok.noex b o e q
  ·exact absurd (Nat.lt_of_lt_of_le (Heap.lt_size e) (Nat.le_trans I.ok.bsz q)) (Nat.lt_irrefl _)
 ·intro b hb z
  obtain ⟨f0,f1,f2,f3,f4,f5⟩:=hf b hb
  rcases List.mem_cons.mp (I.stkSub b z) with q | q
  ·exact f1 q
  ·exact f2 q
 ·refine ⟨λ_=>none,?_,λi x v e1 e2 e3=>?_⟩
  ·show Heap.Ns _ (s.heap.objs.size+1) _
   rw [<- hz1]
   exact (Heap.Ns.new (s.heap.push oD) (.type "dict")).keeps (pushCells_keeps _ _)
  ·obtain ⟨x',j,q1,q2,q3,q4,q5,q6⟩:=hσ i v e2
   have:x'=x:=Option.some.inj (q1.symm.trans e1)
   subst this
   obtain ⟨m,hn,hlk⟩:=I.loc
   obtain ⟨u,ru,lk⟩:=hlk j x' v q4 q5 q6
   refine ⟨u,ru,.inr ⟨?_,?_⟩⟩
   ·exact K7 _ q2
   ·have hks:=hfr (x',.free) (PySem.mem_of_lookup q2) rfl
    rcases lk with ⟨k,_⟩ | ⟨k,c,e,z⟩
    ·rcases hks with z | z
     ·rw [k] at z; cases z
     ·rw [k] at z; cases z
    ·refine ⟨c,?_,z.keeps up⟩
     show (cellsFrom _ _ _).lookup x'=some c
     rw [Mc _ _ _ q3]
     obtain ⟨b,eb⟩:=Option.isSome_iff_exists.mp (GT (env:=X.env) scope.names [] (.inl q2))
     rw [eb,<- cl1 _ _ eb,e]
 ·exact λx c e=>(cc x c e).1
 ·exact I.hok.fresh (Nat.le_succ _)
 ·intro x c e
  rcases (cc x c e).2 with ⟨q,_⟩ | q
  ·exact I.freeC x c q
  ·exact I.hok.fresh (Nat.le_trans (Nat.le_add_right _ 2) q)
 ·intro p hp
  exact absurd (show p∈([]:List (Addr×Obj)) from hp) (by simp)
end
theorem WZ {M:Model} {A:Around} {E:Value->Shared->Prop} {s:Shared} {scope:Scope} {g:Addr} {cl:List (Str×Addr)} {q:Str} {env:Env} {Q:Env->Shared->Prop}
  (h:∀ b,b=env.builtins->Q { scope:=scope,locals:=s.heap.objs.size,globals:=g,cells:=cellsFrom (s.heap.objs.size+1) scope.names cl,qual:=q,func:=none,code:=env.code,frame:=env.frame,builtins:=b }
   { s with heap:=pushCells (s.heap.push { cls:=.type "dict",data:=.dict #[] }) scope.names }):wpAny M A (newFunctionEnv scope g cl [] q none .none (some env)) Q E s:=by
 simp only [newFunctionEnv,Option.isSome_some,if_true]
 refine wpAny_bind (wpAny_alloc ?_)
 refine wpAny_bind (wpAny_layCells _ (λn k cells=>by cases hkc:k==NameKind.cell <;> simp [hkc]) _ _ _ _ ?_)
 rw [show ({ s with heap:=s.heap.push { cls:=.type "dict",data:=.dict #[] } }:Shared).heap.objs.size=s.heap.objs.size+1 from Heap.size_push ..]
 rw [List.forIn_nil]
 exact wpAny_bind (wpAny_pure (wpAny_pure (h _ rfl)))
theorem Z6 {fs ex:List Addr} {H H':Hp} {h h':Heap} {D:Addr} {o:HO} (u:Un fs ex H H' h h') (hn:H D=none) (hh:h.get? D=none):Un fs ex H (Ap H' D o) h h' where
 keep:=u.keep
 slot:=u.slot
 free:=λb ob q n hx=>by
  rw [AB (λz=>by rw [z,hh] at q; cases q)]; exact u.free b ob q n hx
 there:=u.there
 tups:=λb xs q=>by rw [AB (BL q hn)]; exact u.tups b xs q
 frzs:=λb ob xs q=>by rw [AB (BL q hn)]; exact u.frzs b ob xs q
 tbls:=λb ps q=>by rw [AB (BL q hn)]; exact u.tbls b ps q
theorem QL {P:Program} {w:World} {H:Hp} {h:Heap} {D:Addr} {o:HO} (x:Bg P w H h) (hn:H D=none) (new:BI P w (Ap H D o) h D o):Bg P w (Ap H D o) h:=λb u e=>by
 by_cases hb:b=D
 ·subst hb
  rw [AW] at e
  cases e
  exact new
 ·rw [AB hb] at e
  refine (x b u e).stay (λc v _ q=>q) (λc q=>?_) λc xs q=>?_
  ·rw [AB (BL q hn)]; exact q
  ·rw [AB (BL q hn)]; exact q
theorem Zr {prog:Program} {w:World} {A:Around} {R:Result->Shared->Prop} {elt tg iter:Expr} {ifs:List Expr} {scope:Scope} {pos:Pos} {it acc:Value} {env:Env} (V:Nat->Shared->Prop)
  (turn:∀ (n:Nat) (s:Shared) (F:Value->Shared->Prop),V n s->wpAny (model prog w) A (pyNext it) (λr s1=>match r with
   | none=>R (.ok .next) s1
   | some v=>wpAny (model prog w) A (letOwnedTupleGo tg it v) (λ_ s2=>wpAny (model prog w) A (assign tg env v) (λ_ s3=>
     wpAny (model prog w) A (compTests ifs env) (λok s4=>if ok=true then wpAny (model prog w) A (eval elt env) (λx s5=>wpAny (model prog w) A (call (.builtin "list.append") [acc,x]) (λ_ s6=>∃ m,m<n/\V m s6) F s5) F s4
      else ∃ m,m<n/\V m s4) F s3) F s2) F s1) F s) :
  ∀ (n:Nat) (s:Shared),V n s->codeAny (model prog w) A (.compLoop (.ListComp elt [⟨tg,iter,ifs,0⟩] scope pos) 0 it acc env) R s:=λn s h=>by
 refine codeAny_loop rfl V (λn s hV=>?_) n h
 refine wpAny_noted ?_
 rw [compTurn_list]
 refine wpAny_bind (wpAny_standAt (wpAny_bind (Al (turn n s _ hV) λr s1 h1=>?_)))
 cases r with
 | none=>exact wpAny_pure h1
 | some v=>
  refine wpAny_bind (Al h1 λ_ s2 h2=>wpAny_bind (Al h2 λ_ s3 h3=>?_))
  have h3:wpAny (model prog w) A (compTests ifs env) _ _ s3:=h3
  unfold compTests at h3
  rw [show ∀ x:Sem Bool,(x >>= λq=>pure q)=x from λx=>bind_pure x] at h3
  refine wpAny_bind (Al h3 λok s4 h4=>?_)
  cases ok with
  | false=>exact wpAny_pure ⟨rfl,h4⟩
  | true=>exact wpAny_bind (wpAny_bind (Al h4 λx s5 h5=>wpAny_bind (Al h5 λ_ s6 h6=>wpAny_pure (wpAny_pure ⟨rfl,h6⟩))))
abbrev C8 (ys:List Value):Obj:={ cls:=.type "list",data:=.seq ys.toArray ys.length }
def GY (X:Cx) (ρ:Ai) (O:Ae) (elt:Expr):List Expr->Option D->Prop
 | [],z=>∃ y,z=some y/\Ad X ρ O elt y
 | [c],z=>∃ k,AH X ρ O c k/\(k=true->∃ y,z=some y/\Ad X ρ O elt y)/\(k=false->z=none)
 | _,_=>False
def QG (X:Cx) (ρ:Ai) (O O':Ae) (elt:Expr):List Expr->Option D->Prop
 | [],z=>∃ y,z=some y/\Ev X ρ O elt (λd O2=>d=y/\O2=O')
 | [c],z=>∃ k,AH X ρ O c k/\(k=true->∃ y,z=some y/\Ev X ρ O elt (λd O2=>d=y/\O2=O'))/\(k=false->z=none/\O'=O)
 | _::_::_,_=>False
theorem GY.s {X:Cx} {ρ:Ai} {O:Ae} {elt:Expr} {z:Option D}:∀ {ifs:List Expr},GY X ρ O elt ifs z->QG X ρ O O elt ifs z
 | [],h=>by obtain ⟨y,h1,h2⟩:=h; exact ⟨y,h1,h2.ev ⟨rfl,rfl⟩⟩
 | [c],h=>by
  obtain ⟨k,h1,h2,h3⟩:=h
  exact ⟨k,h1,λe=>by obtain ⟨y,g1,g2⟩:=h2 e; exact ⟨y,g1,g2.ev ⟨rfl,rfl⟩⟩,λe=>⟨h3 e,rfl⟩⟩
 | _::_::_,h=>h.elim
theorem Au.weak {K:PySem.W.Frag} {G:Wd} {σ:L2.St} {ρ ρ':Ai} (h:Au K G σ ρ) (hl:ρ'.length=ρ.length) (hs:∀ (i:Nat) (d:D),ρ'[i]?=some (some d)->ρ[i]?=some (some d)):Au K G σ ρ':=
 ⟨h.len.trans hl.symm,λi d e=>h.get i d (hs i d e)⟩
theorem Pz {α:Type} (P:Nat->α->Prop):∀ n:Nat,(∀ i,i<n->∃ a,P i a)->∃ l:List α,l.length=n/\∀ i a,l[i]?=some a->P i a
 | 0,_=>⟨[],rfl,λi a h=>by simp at h⟩
 | n+1,h=>by
  obtain ⟨l,h1,h2⟩:=Pz P n λi hi=>h i (Nat.lt_succ_of_lt hi)
  obtain ⟨a,ha⟩:=h n (Nat.lt_succ_self _)
  refine ⟨l++[a],by simp [h1],λi b hb=>?_⟩
  by_cases hi:i<n
  ·rw [List.getElem?_append_left wF] at hb; exact h2 i b hb
  ·have hin:i=n:=by
    have:=(List.getElem?_eq_some_iff.mp hb).1
    simp [h1] at this; omega
   subst hin
   rw [List.getElem?_append_right wF,h1,Nat.sub_self] at hb
   cases hb; exact ha
section
variable {X:Cx} {ρ:Ai} {O:Ae} {elt tg iter:Expr} {ifs:List Expr} {scope:Scope} {pos:Pos} {xs:List D} {zs:List (Option D)}
theorem Ps {α:Type}:∀ (zs:List (Option α)) (i:Nat) (z:Option α),zs[i]?=some z->(zs.take (i+1)).filterMap id=(zs.take i).filterMap id++z.toList:=by
 intro zs i z h
 rw [List.take_add_one,h,List.filterMap_append]
 cases z <;> rfl
theorem L8 (S:Nat->Ae) (hS0:S 0=O) (N:List Str) (js:List Nat) (ρ0:Ai) (hi:BX X ρ O tg iter xs) (hc:X.calm=true) (hk:scope.kind=.function) (hfr:F6 X scope) (hnm:∀ x∈scope.names,x.2=.local->scope.names.lookup x.1=some .local)
    (hl0:ρ0.length=N.length)
    (h0:∀ (i:Nat) (d:D),ρ0[i]?=some (some d)->∃ (x:Str) (j:Nat),N[i]?=some x/\scope.names.lookup x=some .free/\(∀ y∈scope.names,y.1=x->y.2≠.cell)/\X.N[j]?=some x/\ρ[j]?=some (some d)/\C1 X.env.scope x)
    (hzl:zs.length=xs.length) (hsz:xs.length<=sizeLine)
    (turn:∀ (s:Shared) (H:Hp) (fp:List Addr) (i:Nat) (x:D) (z:Option D),xs[i]?=some x->zs[i]?=some z->∃ ρ1,Tg (CK X N scope s H fp) tg x ρ0 ρ1/\ρ1.length=ρ0.length/\(∀ (j:Nat) (d:D),ρ0[j]?=some (some d)->ρ1[j]?=some (some d))/\QG (CK X N scope s H fp) ρ1 (S i) (S (i+1)) elt ifs z)
    {use:Option (Value->Sem Unit)} {pins:List (Addr×Obj)} {s:Shared} {σ:L2.St} {H:Hp} {G:Wd} {Q:Value->Shared->Prop} (I:L2.Inv X pins σ H s) (sa:SA X.K G H O) (en:Au X.K G σ ρ)
    (fin:∀ (D C:Addr) (s':Shared) (H5:Hp) (G5:Wd) (vs:List V),L2.Inv X pins σ (Ap H5 D (.lst vs)) s'->Ah G G5->SA X.K G5 H5 (S xs.length)->H5 D=none->Aj X.K G5 (zs.filterMap id) vs->BS X pins (Ap H5 D (.lst vs)) C->(∃ m,s'.heap.Ns C m)->compPost (model X.prog X.w) X.A X.xe use Q (.ref D) C (.ok .next) s')
    (hs:∀ x,foldedSetIterable iter X.env x=pure x:=by intro _; rfl) :
    wpAny (model X.prog X.w) X.A (comprehension (.ListComp elt [⟨tg,iter,ifs,0⟩] scope pos) scope X.env (firstIterPos [⟨tg,iter,ifs,0⟩] pos) (newList []) false (eval iter X.env) use) Q X.xe s:=by
  refine wpAny_comprehension_free rfl hs (ZA λy hy e=>I.ok.has _ (hfr y hy e)) hk hnm (Al (hi G pins s σ H (λJ H1=>∃ G1,Ah G G1/\SA X.K G1 H1 O/\DD X.K G1 J xs) I ⟨sa,en,λJ G1 H1 e1 s1 y1=>⟨G1,e1,s1,y1⟩⟩) λv s1 h1=>Al h1 λitv s2 h2=>?_)
  obtain ⟨it,fp,tn,J,H2,e,I2,T,st2,f2,G2,e2,sa2,Yi⟩:=h2
  subst e
  have ho2:∀ b∈fp,∃ o,s2.heap.get? b=some o:=λb hb=>let ⟨o,q,_⟩:=T.obj 0 _ st2 b hb; ⟨o,q⟩
  have hlt:∀ b∈fp,b<s2.heap.objs.size:=λb hb=>let ⟨o,q⟩:=ho2 b hb; Heap.lt_size q
  unfold newList
  refine wpAny_newObj_type (WZ λbb hbb=>?_)
  have hbb':bb=X.env.builtins:=hbb
  subst hbb'
  have hz1:(s2.heap.push { cls:=.type "list",dict:=none,data:=.seq ([]:List Value).toArray }).objs.size=s2.heap.objs.size+1:=Heap.size_push ..
  dsimp only
  rw [hz1]
  generalize hD:s2.heap.objs.size=dd at hz1 ⊢
  -- the block's own context
  have en2:Au X.K G2 σ ρ:=en.ext e2
  obtain ⟨σ0,hσl,hσ0⟩:=Pz (λi (o:Option V)=>(∀ d,ρ0[i]?=some (some d)->∃ v,o=some v/\Is X.K G2 d v)/\∀ v,o=some v->∃ (x:Str) (j:Nat),N[i]?=some x/\scope.names.lookup x=some .free/\(∀ y∈scope.names,y.1=x->y.2≠.cell)/\X.N[j]?=some x/\σ[j]?=some (some v)/\C1 X.env.scope x) N.length (λi hi=>by
    cases q:ρ0[i]? with
    | none=>exact ⟨none,And.intro (λd z=>nomatch z) (λv z=>nomatch z)⟩
    | some o=>
      cases o with
      | none=>exact ⟨none,And.intro (λd z=>nomatch z) (λv z=>nomatch z)⟩
      | some d=>
        obtain ⟨x,j,q1,q2,q3,q4,q5,q6⟩:=h0 i d q
        obtain ⟨v,q7,q8⟩:=en2.get j d q5
        exact ⟨some v,And.intro (λd' z=>by cases z; exact ⟨v,rfl,q8⟩) (λv' z=>by cases z; exact ⟨x,j,q1,q2,q3,q4,q7,q6⟩)⟩)
  have en0:Au X.K G2 σ0 ρ0:=⟨hσl.trans hl0.symm,λi d e=>by
    have hi:i<σ0.length:=by rw [hσl,<- hl0]; exact (List.getElem?_eq_some_iff.mp e).1
    obtain ⟨v,e1,e2⟩:=(hσ0 i σ0[i] (List.getElem?_eq_getElem hi)).1 d e
    exact ⟨v,by rw [List.getElem?_eq_getElem hi,e1],e2⟩⟩
  have I3:=XI (N:=N) (scope:=scope) (fp:=fp) (σ0:=σ0) I2 f2 ho2 hk hfr hσl (λi v e=>(hσ0 i _ e).2 v rfl) s2.toks { cls:=.type "list",dict:=none,data:=.seq ([]:List Value).toArray }
  generalize hY:CK X N scope s2 H2 fp=Y at I3
  have hD1:(pushCells ((s2.heap.push { cls:=.type "list",dict:=none,data:=.seq ([]:List Value).toArray }).push { cls:=.type "dict",data:=.dict #[] }) scope.names).get? dd=some (C8 []):=by
    refine pushCells_keeps _ _ _ _ (Heap.get?_push_of_some _ ?_)
    rw [<- hD]
    exact Heap.get?_push_size _ rfl
  have hHD:H2 dd=none:=I2.hok.fresh (by rw [hD]; exact Nat.le_refl _)
  have hsD:s2.heap.get? dd=none:=Heap.get?_none_of_le (by rw [hD]; exact Nat.le_refl _)
  have hDC:dd≠Y.env.locals:=by
    rw [<- hY]; show dd≠s2.heap.objs.size+1; rw [hD]; exact Nat.ne_of_lt (Nat.lt_succ_self _)
  have hfs:∀ b∈AZ X.stack,b<s2.heap.objs.size:=λb hb=>by
    rcases List.mem_cons.mp (I2.stkSub b hb) with q | q
    · rw [q]; exact I2.lt
    · exact Nat.lt_of_not_le λz=>I2.nofs z q
  have hYfs:Y.fs=AZ X.stack:=by rw [<- hY]; rfl
  have hDfs:dd∉Y.fs:=λz=>by rw [hYfs] at z; have:=hfs dd z; rw [hD] at this; exact Nat.lt_irrefl _ this
  have hYex:Y.ex=fp:=by rw [<- hY]; rfl
  have hYpn:Y.pn=[]:=by rw [<- hY]; rfl
  have hYxe:Y.xe=λ_ _=>False:=by rw [<- hY]; rfl
  have hYs:Y.s₀.heap.objs.size=dd:=by rw [<- hY]; exact hD
  have hYc:∀ x c,Y.env.cells.lookup x=some c->c≠dd/\∀ b∈fp,c≠b:=λx c e=>by
    refine ⟨?_,λb hb=>?_⟩
    ·
      intro z
      subst z
      obtain ⟨v,o,q1,q2⟩:=I3.cell x c e
      rw [hD1] at q1; cases q1; cases q2
    ·
      have:=I3.ok.exf b (by rw [hYex]; exact hb)
      exact this.2 x c e
  have fpY:∀ {H':Hp} {pl:List (Addr×Obj)},(∀ b∈fp,H' b=none)->(∀ p∈pl,p.1=dd)->∀ b∈fp,BS Y pl H' b:=λhn hp b hb=>⟨hn b hb,(I3.ok.exf b (by rw [hYex]; exact hb)).1,I3.ok.exfs b (by rw [hYex]; exact hb),.inl (by rw [hYex]; exact hb),λx c e=>(hYc x c e).2 b hb,λp hq=>by
    rw [hYpn,List.nil_append] at hq
    rw [hp p hq]
    exact Nat.ne_of_gt (by rw [<- hD]; exact hlt b hb)⟩
  have I4:L2.Inv Y [(dd,C8 [])] σ0 H2 { s2 with heap:=pushCells ((s2.heap.push { cls:=.type "list",dict:=none,data:=.seq ([]:List Value).toArray }).push { cls:=.type "dict",data:=.dict #[] }) scope.names,toks:=s2.toks }:=I3.pins_of λp hp=>by
    rw [List.mem_singleton.mp hp]
    exact ⟨hD1,hHD,hDC,hDfs,λv z=>by cases z⟩
  have st4:tn 0 (pushCells ((s2.heap.push { cls:=.type "list",dict:=none,data:=.seq ([]:List Value).toArray }).push { cls:=.type "dict",data:=.dict #[] }) scope.names):=T.keep 0 _ _ st2 λb hb o e=>pushCells_keeps _ _ b o (Heap.get?_push_of_some _ (Heap.get?_push_of_some _ e))
  have hYp:Y.prog=X.prog:=by rw [<- hY]; rfl
  have hYw:Y.w=X.w:=by rw [<- hY]; rfl
  have hYK:Y.K=X.K:=by rw [<- hY]; rfl
  have hYA:Y.A=X.A:=by rw [<- hY]; rfl
  have hYcm:Y.calm=true:=by rw [<- hY]; exact hc
  have loop:∀ s3:Shared,s3={ s2 with heap:=pushCells ((s2.heap.push { cls:=.type "list",dict:=none,data:=.seq ([]:List Value).toArray }).push { cls:=.type "dict",data:=.dict #[] }) scope.names }->
      codeAny (model X.prog X.w) X.A (.compLoop (.ListComp elt [⟨tg,iter,ifs,0⟩] scope pos) 0 (.ref it) (.ref dd) Y.env) (compPost (model X.prog X.w) X.A X.xe use Q (.ref dd) (dd+1)) s3:=by
    rintro s3 rfl
    refine Zr (λn s'=>∃ (i:Nat) (G':Wd) (σ':L2.St) (H':Hp) (vs:List V) (its:List Value),n=xs.length-i/\i<=xs.length/\L2.Inv Y [(dd,C8 its)] σ' H' s'/\tn i s'.heap/\(∀ b∈fp,H' b=none)/\Ah G2 G'/\SA X.K G' H' (S i)/\Au X.K G' σ' ρ0 /\
      Aj X.K G' ((zs.take i).filterMap id) vs/\Ar vs its/\its.length<=i) ?_ xs.length _ ⟨0,G2,σ0,H2,[],[],rfl,Nat.zero_le _,I4,st4,λb hb=>(f2 b hb).1,Ah.refl _,hS0 ▸ sa2,en0,.nil,.nil,Nat.le_refl _⟩
    rintro n s5 F ⟨i,G5,σ5,H5,vs,its,rfl,hil,I5,st5,fr5,e5,sa5,en5,is5,va5,hl5⟩
    by_cases hlt5:i<xs.length
    ·
      have hx:xs[i]?=some xs[i]:=List.getElem?_eq_getElem hlt5
      have hzi:i<zs.length:=by omega
      have hz:zs[i]?=some zs[i]:=List.getElem?_eq_getElem hzi
      generalize xs[i]=x at hx
      generalize zs[i]=z at hz
      have it5:=T.item Y hYp hYw hYK hYcm i [(dd,C8 its)] s5 σ5 H5 F I5 (fpY fr5 (λp hp=>by rw [List.mem_singleton.mp hp])) st5 (Yi.go i H5 (e5.g.trans sa5.sub) hlt5)
      rw [hYA] at it5
      refine Al it5 λr s6 ⟨u,hr,h6⟩=>?_
      subst hr
      refine Al h6 λ_ s7 ⟨xv,H7,I7,r7,y7,st7,fr7⟩=>?_
      obtain ⟨x',G7,hx',e7,sa7,ix⟩:=Yi.yld i xv H5 H7 G5 (S i) e5 sa5 y7 hlt5
      have:x'=x:=Option.some.inj (hx'.symm.trans hx)
      subst this
      have I7':=I7.pinned (fpY fr7 (λp hp=>by rw [List.mem_singleton.mp hp])) (T.obj _ _ st7)
      obtain ⟨ρ1,tg1,hl1,hs1,kp1⟩:=turn s2 H2 fp i x' z hx hz
      rw [hY] at tg1 kp1
      have xeF:∀ {α:Type} {t:Sem α} {P:α->Shared->Prop} {q:Shared},wpAny (model Y.prog Y.w) Y.A t P Y.xe q->wpAny (model X.prog X.w) X.A t P F q:=λh=>by
        rw [hYp,hYw,hYA,hYxe] at h
        exact wpAny_mono h (λ_ _ q=>q) λ_ _ q=>q.elim
      refine Al (xeF (tg1 G7 _ s7 σ5 H7 xv u (λσ' H'=>Au X.K G7 σ' ρ1/\H'=H7) I7' r7 (by
        rw [hYK]
        exact ⟨ix,sa7.sub,en5.ext e7,λσ' q=>⟨q,rfl⟩⟩))) λ_ s8 ⟨σ8,H8,I8,en8,hH8⟩=>?_
      subst hH8
      -- back to the invariant,with or without one more
      have again:∀ {s9:Shared} {H9:Hp} {G9:Wd} {its':List Value} {vs':List V},L2.Inv Y ((dd,C8 its')::Ec fp s7.heap) σ8 H9 s9->Ah G7 G9->SA X.K G9 H9 (S (i+1))->Aj X.K G9 ((zs.take (i+1)).filterMap id) vs'->Ar vs' its'->its'.length<=i+1->
          ∃ m,m<xs.length-i/\∃ (i:Nat) (G':Wd) (σ':L2.St) (H':Hp) (vs:List V) (its:List Value),m=xs.length-i/\i<=xs.length/\L2.Inv Y [(dd,C8 its)] σ' H' s9/\tn i s9.heap/\(∀ b∈fp,H' b=none)/\Ah G2 G'/\SA X.K G' H' (S i)/\Au X.K G' σ' ρ0 /\
            Aj X.K G' ((zs.take i).filterMap id) vs/\Ar vs its/\its.length<=i:=λ{s9 H9 G9 its' vs'} I9 e9 sa9 is9 va9 hl9=>by
        refine ⟨xs.length-(i+1),by omega,i+1,G9,σ8,H9,vs',its',rfl,hlt5,I9.pins_of (λp hp=>I9.pin p (by rw [hYpn,List.nil_append]; rw [List.mem_singleton.mp hp]; exact List.mem_cons_self)),T.keep _ _ _ st7 λb hb o e=>(I9.pin (b,o) (by rw [hYpn,List.nil_append]; exact List.mem_cons_of_mem _ (HX hb e))).1,λb hb=>?_,(e5.trans e7).trans e9,sa9,(en8.weak hl1.symm hs1).ext e9,is9,va9,hl9⟩
        obtain ⟨o,e,_⟩:=T.obj _ _ st7 b hb
        exact (I9.pin (b,o) (by rw [hYpn,List.nil_append]; exact List.mem_cons_of_mem _ (HX hb e))).2.1
      have more:∀ {y:D} {s9:Shared} {G9:Wd} {H9:Hp},z=some y->L2.Inv Y ([(dd,C8 its)]++Ec fp s7.heap) σ8 H9 s9->Ah G7 G9->SA X.K G9 H9 (S i)->Ev Y ρ1 (S i) elt (λd O'=>d=y/\O'=S (i+1))->wpAny (model X.prog X.w) X.A (eval elt Y.env) (λx s5=>wpAny (model X.prog X.w) X.A (call (.builtin "list.append") [.ref dd,x]) (λ_ s6=>∃ m,m<xs.length-i/\∃ (i:Nat) (G':Wd) (σ':L2.St) (H':Hp) (vs:List V) (its:List Value),m=xs.length-i/\i<=xs.length/\L2.Inv Y [(dd,C8 its)] σ' H' s6/\tn i s6.heap/\(∀ b∈fp,H' b=none)/\Ah G2 G'/\SA X.K G' H' (S i)/\Au X.K G' σ' ρ0 /\
            Aj X.K G' ((zs.take i).filterMap id) vs/\Ar vs its/\its.length<=i) F s5) F s9:=λ{y s9 G9 H9} hzy I9 e9 sa9 ev=>by
        refine Al (xeF (ev G9 _ s9 σ8 H9 (λv H'=>∃ G',Ah G9 G'/\SA X.K G' H' (S (i+1))/\Is X.K G' y v) I9 (by
          rw [hYK]
          exact ⟨sa9,en8.ext e9,λv d O' G' H' q1 q2 q3 q4=>by obtain ⟨rfl,rfl⟩:=q4; exact ⟨G',q1,q2,q3⟩⟩))) λuy s10 ⟨vy,H10,I10,r10,G10,e10,sa10,iy⟩=>?_
        have p10:=I10.pin (dd,C8 its) (by rw [hYpn,List.nil_append]; exact List.mem_append_left _ List.mem_cons_self)
        refine append_at (hsz:=by show its.toArray.size<=sizeLine; rw [List.size_toArray]; omega) p10.1 λh' hs' hD'=>?_
        have Ia:L2.Inv Y (Ec fp s7.heap) σ8 H10 s10:=I10.pins_of λp hp=>I10.pin p (by rw [hYpn,List.nil_append]; exact List.mem_append_right _ hp)
        have Ib:L2.Inv Y (Ec fp s7.heap) σ8 H10 { s10 with heap:=h' }:=Ia.turned (t':=s10.toks) (λb o hb e=>(hs'.2 b hb).trans e) p10.2.1 hDC (.inr (by rw [hYs]; exact Nat.le_refl _)) (λx c e=>(hYc x c e).1) (λp hp=>by
          rw [hYpn,List.nil_append] at hp
          obtain ⟨hb,_⟩:=OF hp
          exact Nat.ne_of_lt (by rw [<- hD]; exact hlt p.1 hb))
        have Ic:L2.Inv Y ((dd,C8 (its++[uy]))::Ec fp s7.heap) σ8 H10 { s10 with heap:=h' }:=Ib.pins_of λp hp=>by
          rcases List.mem_cons.mp hp with q | q
          ·
            rw [q]
            refine ⟨hD'.trans ?_,p10.2.1,hDC,hDfs,λv z=>by cases z⟩
            congr 1
            simp [C8]
          · exact Ib.pin p (by rw [hYpn,List.nil_append]; exact q)
        refine again Ic (e9.trans e10) sa10 (vs':=vs++[vy]) ?_ (va5.append (.cons r10 .nil)) (by rw [List.length_append,List.length_singleton]; omega)
        rw [Ps zs i z hz,hzy]
        exact (is5.ext ((e7.trans e9).trans e10)).append (.cons iy .nil)
      match ifs,kp1 with
      | [],kp1=>
        obtain ⟨y,hzy,ev⟩:=kp1
        unfold compTests
        refine wpAny_bind (wpAny_tests_nil (wpAny_pure ?_))
        simp only [if_true]
        exact more hzy I8 (Ah.refl _) sa7 ev
      | [c],kp1=>
        obtain ⟨k,tc,ht,hff⟩:=kp1
        unfold compTests
        refine wpAny_bind (wpAny_tests_one (Al (xeF (tc G7 _ s8 σ8 H8 (λb H'=>b=k/\∃ G',Ah G7 G'/\SA X.K G' H' (S i)) I8 (by
          rw [hYK]
          exact ⟨sa7,en8,λG' H' q1 q2=>⟨rfl,G',q1,q2⟩⟩))) λb s9 ⟨H9,I9,hb,G9,e9,sa9⟩=>wpAny_pure ?_))
        subst hb
        cases b with
        | true=>
          obtain ⟨y,hzy,ev⟩:=ht rfl
          simp only [if_true]
          exact more hzy I9 e9 sa9 ev
        | false=>
          simp only [Bool.false_eq_true,if_false]
          refine again I9 e9 (by rw [(hff rfl).2]; exact sa9) (vs':=vs) ?_ va5 (Nat.le_succ_of_le hl5)
          rw [Ps zs i z hz,(hff rfl).1]
          simpa using is5.ext (e7.trans e9)
      | _::_::_,kp1=>exact kp1.elim
    ·
      have hie:i=xs.length:=by omega
      subst hie
      have dn:=T.done Y hYp hYw hYK hYcm xs.length [(dd,C8 its)] s5 σ5 H5 F I5 (fpY fr5 (λp hp=>by rw [List.mem_singleton.mp hp])) st5 (Yi.stop _ H5 (e5.g.trans sa5.sub) (Nat.le_refl _))
      rw [hYA] at dn
      refine Al dn λr s6 ⟨hr,I6⟩=>?_
      subst hr
      have p6:=I6.pin (dd,C8 its) (by rw [hYpn,List.nil_append]; exact List.mem_cons_self)
      rw [<- hzl,List.take_length] at is5
      have vl:vs.length<=sizeLine:=by rw [va5.length]; omega
      have Ix:L2.Inv X pins σ (Ap H5 dd (.lst vs)) s6:=by
        have un:=I6.base
        rw [hYfs,hYex,<- hY] at un
        have un:Un (AZ X.stack) fp H2 H5 s2.heap s6.heap:=un
        refine I2.call' (ch:=fp) (I6.os.trans (by rw [<- hY]; rfl)) (Z6 un hHD hsD) ?_ I6.bare λb hb=>?_
        ·
          have hk6:=I6.hok
          rw [hYp,hYw] at hk6
          exact QL hk6 p6.2.1 ⟨vl,its,its.length,va5,p6.1⟩
        ·
          obtain ⟨_,f1,_,f3,f4,f5⟩:=f2 b hb
          exact ⟨f3,f1,f4,f5⟩
      refine fin dd (dd+1) s6 _ _ vs Ix (e2.trans e5) sa5 p6.2.1 is5 ?_ ?_
      ·
        have hC:dd+1=Y.env.locals:=by rw [<- hY]; show dd+1=s2.heap.objs.size+1; rw [hD]
        have ge:s2.heap.objs.size<=dd+1:=by rw [hD]; exact Nat.le_succ _
        have:=I2.fpOk (H':=Ap H5 dd (.lst vs)) ge (by
          have q:=I6.free
          rw [<- hC] at q
          rw [AB (show dd+1≠dd from Nat.succ_ne_self _)]
          exact q)
        exact this
      ·
        obtain ⟨m,hn,_⟩:=I6.loc
        rw [<- hY] at hn
        have hn:s6.heap.Ns (s2.heap.objs.size+1) m:=hn
        rw [hD] at hn
        exact ⟨m,hn⟩
  have eY:Y.env={ scope:=relabel scope X.env,locals:=dd+1,globals:=X.env.globals,cells:=cellsFrom (dd+1+1) scope.names (CL X.env scope.names []),qual:=X.env.qual,func:=none,code:=X.env.code,frame:=X.env.frame,builtins:=X.env.builtins }:=by
    rw [<- hY]
    show compEnvC _ _ _ _=_
    rw [hD]
    rfl
  rw [<- eY]
  exact codeAny_compStart_list (loop _ rfl) (T.self X.A 0 _ _ _ st4 (loop _ rfl))
theorem Zq (N:List Str) (js:List Nat) (ρ0:Ai) (hi:BX X ρ O tg iter xs) (hc:X.calm=true) (hk:scope.kind=.function) (hfr:F6 X scope) (hnm:∀ x∈scope.names,x.2=.local->scope.names.lookup x.1=some .local)
  (hl0:ρ0.length=N.length)
  (h0:∀ (i:Nat) (d:D),ρ0[i]?=some (some d)->∃ (x:Str) (j:Nat),N[i]?=some x/\scope.names.lookup x=some .free/\(∀ y∈scope.names,y.1=x->y.2≠.cell)/\X.N[j]?=some x/\ρ[j]?=some (some d)/\C1 X.env.scope x)
  (hzl:zs.length=xs.length) (hsz:xs.length<=sizeLine)
  (turn:∀ (s:Shared) (H:Hp) (fp:List Addr) (i:Nat) (x:D) (z:Option D),xs[i]?=some x->zs[i]?=some z->∃ ρ1,Tg (CK X N scope s H fp) tg x ρ0 ρ1/\ρ1.length=ρ0.length/\(∀ (j:Nat) (d:D),ρ0[j]?=some (some d)->ρ1[j]?=some (some d))/\GY (CK X N scope s H fp) ρ1 O elt ifs z)
  {use:Option (Value->Sem Unit)} {pins:List (Addr×Obj)} {s:Shared} {σ:L2.St} {H:Hp} {G:Wd} {Q:Value->Shared->Prop} (I:L2.Inv X pins σ H s) (sa:SA X.K G H O) (en:Au X.K G σ ρ)
  (fin:∀ (D C:Addr) (s':Shared) (H':Hp) (G':Wd),L2.Inv X pins σ H' s'->Ah G G'->SA X.K G' H' O->Is X.K G' (.lst (zs.filterMap id)) (.ref D)->BS X pins H' C->(∃ m,s'.heap.Ns C m)->compPost (model X.prog X.w) X.A X.xe use Q (.ref D) C (.ok .next) s')
  (hs:∀ x,foldedSetIterable iter X.env x=pure x:=by intro _; rfl) :
  wpAny (model X.prog X.w) X.A (comprehension (.ListComp elt [⟨tg,iter,ifs,0⟩] scope pos) scope X.env (firstIterPos [⟨tg,iter,ifs,0⟩] pos) (newList []) false (eval iter X.env) use) Q X.xe s:=by
 refine L8 (λ_=>O) rfl N js ρ0 hi hc hk hfr hnm hl0 h0 hzl hsz (λs H fp i x z q1 q2=>?_) I sa en (λD C s' H5 G5 vs I5 e5 sa5 hD is5 f5 n5=>?_) hs
 ·obtain ⟨ρ1,t1,t2,t3,t4⟩:=turn s H fp i x z q1 q2
  exact ⟨ρ1,t1,t2,t3,t4.s⟩
 ·obtain ⟨ed,sd⟩:=sa5.laid (p:=D) (o:=.lst vs) hD
  exact fin D C s' _ _ I5 (e5.trans ed) sd (.lst AW (is5.ext ed)) f5 n5
def CQ (XN:List Str) (xs cs:List (Str×NameKind)) (F:List Str) (js:List Nat):Bool:=
 (js.map λj=>XN[j]?)==F.map some&&(F.all λx=>cs.lookup x==some .free&&(cs.all λy=>y.1 != x||y.2 != .cell)&&(xs.lookup x==some .cell||xs.lookup x==some .free)) &&
 (cs.all λy=>(y.2 != .free||xs.lookup y.1==some .cell||xs.lookup y.1==some .free)&&(y.2 != .local||cs.lookup y.1==some .local))
def Ci (ρ:Ai) (js:List Nat):Ai:=js.map λj=>(ρ[j]?).getD none
theorem LX {F:List Str} {js:List Nat} (h:CQ X.N X.env.scope.names scope.names F js=true):F6 X scope:=λy hy e=>by
 unfold CQ at h
 simp only [Bool.and_eq_true,List.all_eq_true] at h
 have q:=(h.2 y hy).1
 rw [e] at q
 have q:(X.env.scope.names.lookup y.1==some .cell||X.env.scope.names.lookup y.1==some .free)=true:=by simpa using q
 rcases (Bool.or_eq_true _ _).mp q with q | q
 ·exact .inl (show X.env.scope.names.lookup y.1=_ by simpa using q)
 ·exact .inr (show X.env.scope.names.lookup y.1=_ by simpa using q)
theorem LW {F:List Str} {js:List Nat} (h:CQ X.N X.env.scope.names scope.names F js=true):∀ x∈scope.names,x.2=.local->scope.names.lookup x.1=some .local:=λy hy e=>by
 unfold CQ at h
 simp only [Bool.and_eq_true,List.all_eq_true] at h
 have q:=(h.2 y hy).2
 rw [e] at q
 simpa using q
theorem LY {T F:List Str} {js:List Nat} (h:CQ X.N X.env.scope.names scope.names F js=true) (i:Nat) (d:D) (e:(T.map (λ_=>(none:Option D))++Ci ρ js)[i]?=some (some d)) :
  ∃ (x:Str) (j:Nat),(T++F)[i]?=some x/\scope.names.lookup x=some .free/\(∀ y∈scope.names,y.1=x->y.2≠.cell)/\X.N[j]?=some x/\ρ[j]?=some (some d)/\C1 X.env.scope x:=by
 unfold CQ at h
 simp only [Bool.and_eq_true,List.all_eq_true,beq_iff_eq] at h
 obtain ⟨⟨h1,h2⟩,h3⟩:=h
 by_cases hi:i<T.length
 ·rw [List.getElem?_append_left (by simpa using hi),List.getElem?_map] at e
  cases q:T[i]? with
  | none=>rw [q] at e; cases e
  | some _=>rw [q] at e; cases e
 ·rw [List.getElem?_append_right (by simpa using hi),List.length_map] at e
  unfold Ci at e
  rw [List.getElem?_map] at e
  cases q:js[i-T.length]? with
  | none=>rw [q] at e; cases e
  | some j=>
   rw [q] at e
   have e:(ρ[j]?).getD none=some d:=Option.some.inj e
   have hρ:ρ[j]?=some (some d):=by
    cases q2:ρ[j]? with
    | none=>rw [q2] at e; cases e
    | some o=>rw [q2] at e; rw [show o=some d from e]
   have hF:=congrArg (λl=>l[i-T.length]?) h1
   simp only [List.getElem?_map,q,Option.map_some] at hF
   cases qF:F[i-T.length]? with
   | none=>rw [qF] at hF; cases hF
   | some x=>
    rw [qF] at hF
    have hF:X.N[j]?=some x:=Option.some.inj hF
    obtain ⟨⟨g1,g2⟩,g3⟩:=h2 x (List.mem_of_getElem? qF)
    refine ⟨x,j,by rw [List.getElem?_append_right wF]; exact qF,g1,λy hy ey=>?_,hF,hρ,?_⟩
    ·have:=g2 y hy
     rw [ey] at this
     simpa using this
    ·rcases (Bool.or_eq_true _ _).mp g3 with g | g
     ·exact .inr (.inl (by simpa using g))
     ·exact .inr (.inr (by simpa using g))
theorem Jk {ts fr:Ai} {T:List Str} (h:ts.length=T.length):(ts++fr).length=(T.map (λ_=>(none:Option D))++fr).length/\∀ (j:Nat) (d:D),(T.map (λ_=>(none:Option D))++fr)[j]?=some (some d)->(ts++fr)[j]?=some (some d):=by
 refine ⟨by simp [h],λj d e=>?_⟩
 by_cases hj:j<T.length
 ·rw [List.getElem?_append_left (by simpa using hj),List.getElem?_map] at e
  cases q:T[j]? with
  | none=>rw [q] at e; cases e
  | some _=>rw [q] at e; cases e
 ·rw [List.getElem?_append_right (by simpa using hj),List.length_map] at e
  rw [List.getElem?_append_right wF,h]
  exact e
def Gb (X:Cx) (T F:List Str) (js:List Nat) (ρ:Ai) (O:Ae) (scope:Scope) (tg elt:Expr) (ifs:List Expr) (x:D) (z:Option D):Prop:=
 ∀ (s:Shared) (H:Hp) (fp:List Addr),∃ ts:Ai,ts.length=T.length/\Tg (CK X (T++F) scope s H fp) tg x (T.map (λ_=>(none:Option D))++Ci ρ js) (ts++Ci ρ js)/\GY (CK X (T++F) scope s H fp) (ts++Ci ρ js) O elt ifs z
theorem YI (T F:List Str) (js:List Nat) (hi:BX X ρ O tg iter xs) (hzl:zs.length=xs.length) (hsz:xs.length<=sizeLine) (turn:∀ (i:Nat) (x:D) (z:Option D),xs[i]?=some x->zs[i]?=some z->Gb X T F js ρ O scope tg elt ifs x z)
  (hfl:F.length=js.length) (hB:CQ X.N X.env.scope.names scope.names F js=true) (hc:X.calm=true) (hk:scope.kind=.function) (hs:∀ x,foldedSetIterable iter X.env x=pure x) :
  Ad X ρ O (.ListComp elt [⟨tg,iter,ifs,0⟩] scope pos) (.lst (zs.filterMap id)):=λG pins s σ H Q I ⟨h1,h2,h3⟩=>by
 rw [eval_ListComp]
 refine Zq (T++F) js (T.map (λ_=>(none:Option D))++Ci ρ js) hi hc hk (LX hB) (LW hB) (by simp [Ci,hfl]) (LY hB) hzl hsz (λs H fp i x z q1 q2=>?_) I h1 h2 (λdd C s' H' G' I' e' sa' is' fo ns=>?_) hs
 ·obtain ⟨ts,t1,t2,t3⟩:=turn i x z q1 q2 s H fp
  obtain ⟨u1,u2⟩:=Jk (fr:=Ci ρ js) t1
  exact ⟨_,t2,u1,u2,t3⟩
 ·obtain ⟨m,hn⟩:=ns
  refine ⟨m,hn,λh' hs'=>?_⟩
  obtain ⟨f0,f1,f2,f3,f4,f5⟩:=fo
  exact ⟨.ref dd,H',I'.turned (t':=s'.toks) (λb o hb e=>(hs'.2 b hb).trans e) f0 f1 f3 f4 f5,rfl,h3 _ G' H' e' sa' is'⟩
end
end DL
namespace DL
open PySem PySem.Spec PyProof.Rows L2 PySem.W
def A6 {α:Type} (lt:Nat->Nat->Bool):KasT α->α
 | .ret a=>a
 | .ask i j k=>A6 lt (k (lt i j))
theorem Fi {α β:Type} (lt:Nat->Nat->Bool) (f:α->KasT β):∀ t:KasT α,A6 lt (t.bind f)=A6 lt (f (A6 lt t))
 | .ret _=>rfl
 | .ask i j k=>Fi lt f (k (lt i j))
section
variable (key:Nat->Int)
abbrev Bv (i j:Nat):Bool:=decide (key i<key j)
def KQ (p:Array Nat) (i:Nat):Int:=key (p.getD i 0)
theorem Mo (p:Array Nat):∀ (f n:Nat),∃ m,A6 (Bv key) (kas_asc p f n)=m/\n<=m/\m<=n+f/\(∀ k,n<=k->k<m->KQ key p (k-1)<=KQ key p k)/\(m=n+f\/KQ key p m<KQ key p (m-1))
 | 0,n=>⟨n,rfl,Nat.le_refl _,Nat.le_refl _,λk h1 h2=>by omega,.inl rfl⟩
 | f+1,n=>by
  by_cases h:KQ key p n<KQ key p (n-1)
  ·refine ⟨n,?_,Nat.le_refl _,by omega,λk h1 h2=>by omega,.inr h⟩
   show A6 _ (if Bv key _ _=true then _ else _)=_
   rw [if_pos (decide_eq_true (show key (p.getD n 0)<key (p.getD (n-1) 0) from h))]
   rfl
  ·obtain ⟨m,e,h1,h2,h3,h4⟩:=Mo p f (n+1)
   refine ⟨m,?_,by omega,by omega,λk g1 g2=>?_,by rcases h4 with h4 | h4; exact .inl wF; exact .inr h4⟩
   ·show A6 _ (if Bv key _ _=true then _ else _)=_
    rw [if_neg (by simpa [Bv] using (show ¬ key (p.getD n 0)<key (p.getD (n-1) 0) from h))]
    exact e
   ·by_cases hk:k=n
    ·subst hk; exact Int.not_lt.mp h
    ·exact h3 k wF g2
theorem El {p:Array Nat} {i:Nat}:p.getD i 0=(p[i]?).getD 0:=by
 by_cases h:i<p.size
 ·simp [Array.getD,h]
 ·simp [Array.getD,h]
theorem MB {p:Array Nat} {i j:Nat} (hj:j<=p.size) (k:Nat):KQ key (kas_rev p i j) k=if i<=k/\k<j then KQ key p (i+j-1-k) else KQ key p k:=by
 unfold KQ kas_rev
 rw [El,getElem?_mirror_all hj k]
 split
 ·rw [El]
 ·rw [El]
theorem MA {p:Array Nat} {i j:Nat} (hj:j<=p.size) (h:∀ k,i<=k->k<j->KQ key p k=KQ key p (j-1)) (k:Nat):KQ key (kas_rev p i j) k=KQ key p k:=by
 rw [MB key hj k]
 split
 ·next hk=>rw [h k hk.1 hk.2,h _ wF wF]
 ·rfl
theorem IC:∀ (f:Nat) (p:Array Nat) (n q:Nat),q+1<=n->n+f<=p.size->(∀ i j,i<=j->j<n->KQ key p j<=KQ key p i)->(∀ k,n-(q+1)<=k->k<n->KQ key p k=KQ key p (n-1))->
  ∃ p' n' q',A6 (Bv key) (kas_desc f p n q)=(p',n',q')/\n<=n'/\n'<=n+f/\q'+1<=n'/\p'.Perm p/\p'.size=p.size/\(∀ i j,i<=j->j<n'->KQ key p' j<=KQ key p' i)/\(∀ k,n'-(q'+1)<=k->k<n'->KQ key p' k=KQ key p' (n'-1))
 | 0,p,n,q,h1,h2,h3,h4=>⟨p,n,q,rfl,Nat.le_refl _,Nat.le_refl _,h1,Array.Perm.refl _,rfl,h3,h4⟩
 | f+1,p,n,q,h1,h2,h3,h4=>by
  by_cases h:KQ key p n<KQ key p (n-1)
  ·have step:∀ p2:Array Nat,p2.Perm p->p2.size=p.size->(∀ k,KQ key p2 k=KQ key p k)->(∀ i j,i<=j->j<n+1->KQ key p2 j<=KQ key p2 i):=λp2 _ _ e i j hij hj=>by
    rw [e,e]
    by_cases hjn:j=n
    ·subst hjn
     by_cases hin:i=j
     ·subst hin; exact Int.le_refl _
     ·have:=h3 i (j-1) wF wF; omega
    ·exact h3 i j hij wF
   by_cases hq:q>0
   ·have hE:∀ k,KQ key (kas_rev p (n-(q+1)) n) k=KQ key p k:=MA key wF h4
    obtain ⟨p',n',q',e,g⟩:=IC f (kas_rev p (n-(q+1)) n) (n+1) 0 wF (by rw [kas_rev_size]; omega) (step _ (mirror_perm _ _ _ _) (kas_rev_size _ _) hE) (λk k1 k2=>by rw [show k=n+1-1 by omega])
    refine ⟨p',n',q',?_,by omega,by omega,g.2.2.1,g.2.2.2.1.trans (mirror_perm _ _ _ _),g.2.2.2.2.1.trans (kas_rev_size _ _),g.2.2.2.2.2⟩
    show A6 _ (if Bv key _ _=true then _ else _)=_
    rw [if_pos (decide_eq_true (show key (p.getD n 0)<key (p.getD (n-1) 0) from h)),if_pos hq]
    exact e
   ·obtain ⟨p',n',q',e,g⟩:=IC f p (n+1) 0 wF wF (step _ (Array.Perm.refl _) rfl λ_=>rfl) (λk k1 k2=>by rw [show k=n+1-1 by omega])
    refine ⟨p',n',q',?_,by omega,by omega,g.2.2⟩
    show A6 _ (if Bv key _ _=true then _ else _)=_
    rw [if_pos (decide_eq_true (show key (p.getD n 0)<key (p.getD (n-1) 0) from h)),if_neg hq]
    exact e
  ·by_cases h':KQ key p (n-1)<KQ key p n
   ·refine ⟨p,n,q,?_,Nat.le_refl _,by omega,h1,Array.Perm.refl _,rfl,h3,h4⟩
    show A6 _ (if Bv key _ _=true then _ else _)=_
    rw [if_neg (by simpa [Bv] using (show ¬ key (p.getD n 0)<key (p.getD (n-1) 0) from h))]
    show A6 _ (if Bv key _ _=true then _ else _)=_
    rw [if_pos (decide_eq_true (show key (p.getD (n-1) 0)<key (p.getD n 0) from h'))]
    rfl
   ·have he:KQ key p n=KQ key p (n-1):=by omega
    obtain ⟨p',n',q',e,g⟩:=IC f p (n+1) (q+1) wF wF (λi j hij hj=>by
     by_cases hjn:j=n
     ·subst hjn
      by_cases hin:i=j
      ·subst hin; exact Int.le_refl _
      ·have:=h3 i (j-1) wF wF; omega
     ·exact h3 i j hij wF) (λk k1 k2=>by
     show _=KQ key p n
     by_cases hkn:k=n
     ·subst hkn; rfl
     ·rw [h4 k wF wF,he])
    refine ⟨p',n',q',?_,by omega,by omega,g.2.2⟩
    show A6 _ (if Bv key _ _=true then _ else _)=_
    rw [if_neg (by simpa [Bv] using (show ¬ key (p.getD n 0)<key (p.getD (n-1) 0) from h))]
    show A6 _ (if Bv key _ _=true then _ else _)=_
    rw [if_neg (by simpa [Bv] using (show ¬ key (p.getD (n-1) 0)<key (p.getD n 0) from h'))]
    exact e
def C3 (p:Array Nat) (m:Nat):Prop:=∀ i j,i<=j->j<m->KQ key p i<=KQ key p j
theorem Nq {p:Array Nat} {m:Nat} (h:∀ k,1<=k->k<m->KQ key p (k-1)<=KQ key p k):C3 key p m:=by
  intro i j hij hj
  induction j with
  | zero=>
            have:i=0:=by omega
            subst this; exact Int.le_refl _
  | succ j ih=>
    by_cases e:i=j+1
    · subst e; exact Int.le_refl _
    · exact Int.le_trans (ih wF wF) (h (j+1) wF hj)
theorem Nf {n nrem:Nat} {p:Array Nat} (h1:1<=n) (hn:n<=nrem) (hz:nrem<=p.size) (h3:∀ i j,i<=j->j<n->KQ key p j<=KQ key p i):∃ m p',A6 (Bv key) (kas_tail3 n nrem p)=(m,p')/\1<=m/\m<=nrem/\p'.Perm p/\p'.size=p.size/\C3 key p' m:=by
 obtain ⟨m,e,g1,g2,g3,g4⟩:=Mo key (kas_rev p 0 n) (nrem-n) n
 refine ⟨m,kas_rev p 0 n,?_,by omega,by omega,mirror_perm _ _ _ _,kas_rev_size _ _,Nq key λk k1 k2=>?_⟩
 ·unfold kas_tail3
  rw [Fi,e]
  rfl
 ·by_cases hk:n<=k
  ·exact g3 k hk k2
  ·rw [MB key wF,MB key wF,if_pos wF,if_pos wF]
   exact h3 _ _ wF wF
theorem P2 {n nrem:Nat} {p:Array Nat} (h1:1<=n) (hn:n+1<=nrem) (hz:nrem<=p.size) (h3:∀ i j,i<=j->j<n+1->KQ key p j<=KQ key p i):∃ m p',A6 (Bv key) (kas_descPart n nrem p)=(m,p')/\1<=m/\m<=nrem/\p'.Perm p/\p'.size=p.size/\C3 key p' m:=by
 obtain ⟨p1,n1,q1,e,g1,g2,g3,g4,g5,g6,g7⟩:=IC key (nrem-(n+1)) p (n+1) 0 wF wF h3 (λk k1 k2=>by rw [show k=n+1-1 by omega])
 unfold kas_descPart
 rw [Fi,e]
 by_cases hq:q1>0
 ·have hE:∀ k,KQ key (kas_rev p1 (n1-(q1+1)) n1) k=KQ key p1 k:=MA key wF g7
  obtain ⟨m,p',e',k1,k2,k3,k4,k5⟩:=Nf key (n:=n1) (nrem:=nrem) (p:=kas_rev p1 (n1-(q1+1)) n1) wF wF (by rw [kas_rev_size]; omega) (λi j hij hj=>by rw [hE,hE]; exact g6 i j hij hj)
  refine ⟨m,p',?_,k1,k2,k3.trans ((mirror_perm _ _ _ _).trans g4),k4.trans ((kas_rev_size _ _).trans g5),k5⟩
  show A6 _ (if q1>0 then _ else _)=_
  rw [if_pos hq]
  exact e'
 ·obtain ⟨m,p',e',k1,k2,k3,k4,k5⟩:=Nf key (n:=n1) (nrem:=nrem) (p:=p1) wF wF wF g6
  refine ⟨m,p',?_,k1,k2,k3.trans g4,k4.trans g5,k5⟩
  show A6 _ (if q1>0 then _ else _)=_
  rw [if_neg hq]
  exact e'
theorem Zm {nrem:Nat} {p:Array Nat} (h1:1<=nrem) (hz:nrem<=p.size):∃ m p',A6 (Bv key) (kas_count nrem p)=(m,p')/\1<=m/\m<=nrem/\p'.Perm p/\p'.size=p.size/\C3 key p' m:=by
 obtain ⟨n,e,g1,g2,g3,g4⟩:=Mo key p (nrem-1) 1
 have hs:C3 key p n:=Nq key λk k1 k2=>g3 k k1 k2
 unfold kas_count
 rw [Fi,e]
 by_cases hn:n=nrem
 ·refine ⟨n,p,?_,g1,by omega,Array.Perm.refl _,rfl,hs⟩
  rw [if_pos (by simpa using hn)]
  rfl
 ·rw [if_neg (by simpa using hn)]
  have hlt:KQ key p n<KQ key p (n-1):=by
   rcases g4 with g4 | g4
   ·omega
   ·exact g4
  by_cases hn1:n>1
  ·rw [if_pos hn1]
   by_cases hr:KQ key p 0<KQ key p (n-1)
   ·refine ⟨n,p,?_,g1,by omega,Array.Perm.refl _,rfl,hs⟩
    show A6 _ (if Bv key _ _=true then _ else _)=_
    rw [if_pos (decide_eq_true (show key (p.getD 0 0)<key (p.getD (n-1) 0) from hr))]
    rfl
   ·have heq:∀ k,0<=k->k<n->KQ key p k=KQ key p (n-1):=λk _ hk=>by
     have a:=hs 0 k wF hk
     have b:=hs k (n-1) wF wF
     omega
    have hE:=MA key (p:=p) (i:=0) (j:=n) wF heq
    obtain ⟨m,p',e',k1,k2,k3,k4,k5⟩:=P2 key (n:=n) (nrem:=nrem) (p:=kas_rev p 0 n) wF wF (by rw [kas_rev_size]; exact hz) (λi j hij hj=>by
     rw [hE,hE]
     by_cases hjn:j=n
     ·subst hjn
      by_cases hin:i=j
      ·subst hin; exact Int.le_refl _
      ·rw [heq i wF wF]; omega
     ·rw [heq i wF wF,heq j wF wF]
      exact Int.le_refl _)
    refine ⟨m,p',?_,k1,k2,k3.trans (mirror_perm _ _ _ _),k4.trans (kas_rev_size _ _),k5⟩
    show A6 _ (if Bv key _ _=true then _ else _)=_
    rw [if_neg (by simpa [Bv] using (show ¬ key (p.getD 0 0)<key (p.getD (n-1) 0) from hr))]
    exact e'
  ·rw [if_neg hn1]
   obtain rfl:n=1:=by omega
   exact P2 key wF wF hz (λi j hij hj=>by
    by_cases hj1:j=1
    ·subst hj1
     by_cases hi1:i=1
     ·subst hi1; exact Int.le_refl _
     ·obtain rfl:i=0:=by omega
      exact Int.le_of_lt hlt
    ·obtain rfl:j=0:=by omega
     obtain rfl:i=0:=by omega
     exact Int.le_refl _)
theorem Ld (p:Array Nat) (k:Nat) (hs:C3 key p k):∀ (f l r:Nat),l<=r->r<=k->r-l<=f->(∀ i,i<l->KQ key p i<=KQ key p k)->(∀ i,r<=i->i<k->KQ key p k<KQ key p i)->
  ∃ m,A6 (Bv key) (kas_place p k f l r)=m/\m<=k/\(∀ i,i<m->KQ key p i<=KQ key p k)/\(∀ i,m<=i->i<k->KQ key p k<KQ key p i)
 | 0,l,r,h1,h2,h3,h4,h5=>⟨l,rfl,by omega,h4,λi g1 g2=>h5 i wF g2⟩
 | f+1,l,r,h1,h2,h3,h4,h5=>by
  by_cases hlr:l>=r
  ·refine ⟨l,?_,by omega,h4,λi g1 g2=>h5 i wF g2⟩
   show A6 _ (if l>=r then _ else _)=_
   rw [if_pos hlr]; rfl
  ·by_cases hc:KQ key p k<KQ key p ((l+r)/2)
   ·obtain ⟨m,e,g1,g2,g3⟩:=Ld p k hs f l ((l+r)/2) wF wF wF h4 (λi i1 i2=>by
     have:=hs ((l+r)/2) i i1 i2; omega)
    refine ⟨m,?_,g1,g2,g3⟩
    show A6 _ (if l>=r then _ else _)=_
    rw [if_neg hlr]
    show A6 _ (if Bv key _ _=true then _ else _)=_
    rw [if_pos (decide_eq_true (show key (p.getD k 0)<key (p.getD ((l+r)/2) 0) from hc))]
    exact e
   ·obtain ⟨m,e,g1,g2,g3⟩:=Ld p k hs f ((l+r)/2+1) r wF h2 wF (λi i1=>by
     have:=hs i ((l+r)/2) wF wF; omega) h5
    refine ⟨m,?_,g1,g2,g3⟩
    show A6 _ (if l>=r then _ else _)=_
    rw [if_neg hlr]
    show A6 _ (if Bv key _ _=true then _ else _)=_
    rw [if_neg (by simpa [Bv] using (show ¬ key (p.getD k 0)<key (p.getD ((l+r)/2) 0) from hc))]
    exact e
end
end DL
set_option maxHeartbeats 2000000
namespace DL
open PySem PySem.Spec PyProof.Rows L2 PySem.W
def Cm (k:Bool) (h:Heap) (it l:Addr) (i:Nat):Prop:=if k then h.IsListIter it l i else h.IsTupleIter it l i
def Bz (k:Bool) (h:Heap) (l:Addr) (xs:Array Value):Prop:=if k then h.IsList l xs else h.IsTuple l xs
section
variable {k:Bool} {h h':Heap} {it l b:Addr} {i:Nat} {xs:Array Value}
theorem Cm.at (q:Cm k h it l i) (e:∀ o,h.get? it=some o->h'.get? it=some o):Cm k h' it l i:=by
 cases k with
 | true=>obtain ⟨o,g,r⟩:=(q:h.IsListIter it l i); exact ⟨o,e o g,r⟩
 | false=>obtain ⟨o,g,r⟩:=(q:h.IsTupleIter it l i); exact ⟨o,e o g,r⟩
theorem Bz.at (q:Bz k h l xs) (e:∀ o,h.get? l=some o->h'.get? l=some o):Bz k h' l xs:=by
 cases k with
 | true=>obtain ⟨o,g,r⟩:=(q:h.IsList l xs); exact ⟨o,e o g,r⟩
 | false=>obtain ⟨o,g,r⟩:=(q:h.IsTuple l xs); exact ⟨o,e o g,r⟩
theorem Cm.obj (q:Cm k h it l i):∃ o,h.get? it=some o/\∀ v,o.data≠.cell v:=by
 cases k with
 | true=>obtain ⟨o,g,c,d⟩:=(q:h.IsListIter it l i); exact ⟨o,g,λv z=>by rw [d] at z; cases z⟩
 | false=>obtain ⟨o,g,c,d⟩:=(q:h.IsTupleIter it l i); exact ⟨o,g,λv z=>by rw [d] at z; cases z⟩
end
theorem P0 {prog:Program} {w:World} {A:Around} {E:Value->Shared->Prop} {s:Shared} {T id:String} {b:Builtin} {v:Value} {Q:Value->Shared->Prop} (hT:s.TypeIs v T) (sl:Slot T (Str.ofString "__next__") id) (en:entryFor table id=some b) (ok:argsOk id ⟨[v],[]⟩)
  (h:wpAny (model prog w) A.in1 (b ⟨[v],[]⟩) (λfin s'=>∃ x,fin=.done (.ret x)/\Q x s') E s):wpAny (model prog w) A (Builtin.SmallTypes.nextOf v) Q E s:=
 wpAny_bind (wpAny_callSpecial?_slot hT sl (wpAny_call_entry sl hT en (wpAny_mono h (λfin s' ⟨x,e,q⟩=>⟨x,e,wpAny_pure q⟩) λ_ _ e=>e) ok))
section
variable {prog:Program} {w:World} {A:Around} {E:Value->Shared->Prop} {s:Shared} {it l:Addr} {i:Nat} {xs:Array Value} {Q:Value->Shared->Prop}
theorem Ru {x:Value} (q:s.heap.IsTupleIter it l i) (t:s.heap.IsTuple l xs) (hx:xs[i]?=some x) (hQ:∀ h',h'.IsTupleIter it l (i+1)->Heap.SameBut it s.heap h'->Q x { s with heap:=h' }):wpAny (model prog w) A (Builtin.SmallTypes.nextOf (.ref it)) Q E s:=by
 refine P0 q.typeIs F.slot_tuple_iterator_next F.entry_tuple_iterator_next (F.args_tuple_iterator_next_1 _) ?_
 obtain ⟨h,g,d,tk,os⟩:=s
 obtain ⟨⟨c,dc,da,sl⟩,gi,rfl,rfl⟩:=q
 obtain ⟨⟨c,dc,da,sl⟩,gt,rfl,n,rfl⟩:=t
 dsimp only at gi gt hQ
 wp_walk
 rw [Int.toNat_natCast,hx]
 wp_walk
 exact ⟨x,rfl,hQ _ ⟨_,Heap.get?_update_self _ gi rfl,rfl,by simp [Obj.mapFields,rawInt]⟩ (Heap.SameBut.update ..)⟩
theorem Rv (hh:A.handled=none) (q:s.heap.IsTupleIter it l i) (t:s.heap.IsTuple l xs) (hx:xs[i]?=none) (hE:∀ h' e,Heap.ExtBut it s.heap h'->(∃ o,h'.get? e=some o/\o.cls=.type "StopIteration")->E (.ref e) { s with heap:=h' }):wpAny (model prog w) A (Builtin.SmallTypes.nextOf (.ref it)) Q E s:=by
 refine P0 q.typeIs F.slot_tuple_iterator_next F.entry_tuple_iterator_next (F.args_tuple_iterator_next_1 _) ?_
 obtain ⟨h,g,d,tk,os⟩:=s
 obtain ⟨⟨c,dc,da,sl⟩,gi,rfl,rfl⟩:=q
 obtain ⟨⟨c,dc,da,sl⟩,gt,rfl,n,rfl⟩:=t
 dsimp only at gi gt hE
 have hh1:A.in1.handled=none:=hh
 wp_walk
 rw [Int.toNat_natCast,hx]
 wp_walk
 unfold raiseNew
 wp_walk
 exact hE _ _ (λb u hb e=>Heap.get?_push_of_some _ (Heap.get?_push_of_some _ ((Heap.get?_update_ne _ _ _ _ hb).trans e))) ⟨_,Heap.get?_push_size _ rfl,rfl⟩
theorem Jl {k:Bool} {x:Value} (q:Cm k s.heap it l i) (t:Bz k s.heap l xs) (hx:xs[i]?=some x) (hQ:∀ h',Cm k h' it l (i+1)->Heap.SameBut it s.heap h'->Q x { s with heap:=h' }):wpAny (model prog w) A (Builtin.SmallTypes.nextOf (.ref it)) Q E s:=
 match k with
 | true=>wpAny_nextOf_list_item q t hx hQ
 | false=>Ru q t hx hQ
theorem Jm {k:Bool} (hh:A.handled=none) (q:Cm k s.heap it l i) (t:Bz k s.heap l xs) (hx:xs[i]?=none) (hE:∀ h' e,Heap.ExtBut it s.heap h'->(∃ o,h'.get? e=some o/\o.cls=.type "StopIteration")->E (.ref e) { s with heap:=h' }):wpAny (model prog w) A (Builtin.SmallTypes.nextOf (.ref it)) Q E s:=
 match k with
 | true=>wpAny_nextOf_list_end hh q t hx hE
 | false=>Rv hh q t hx hE
end
def He (n:Nat) (f0 f1:Value):Obj:={ cls:=.type "zip",dict:=none,data:=.fields #[f0,f1,.bool false,.ref (n+2),.ref (n+3)],slots:=#[] }
structure ZW (n:Nat) (k1 k2:Bool) (l1 l2 i1 i2:Nat) (xs ys:Array Value) (f0 f1 a b:Value) (h:Heap):Prop where
 z:h.get? (n+4)=some { cls:=.type "zip",dict:=none,data:=.fields #[f0,f1,.bool false,.ref (n+2),.ref (n+3)],slots:=#[] }
 ti:h.get? (n+2)=some { cls:=.type "tuple",data:=.seq #[.ref n,.ref (n+1)] }
 to:h.get? (n+3)=some { cls:=.type "tuple",data:=.seq #[a,b] }
 w1:Cm k1 h n l1 i1
 w2:Cm k2 h (n+1) l2 i2
 s1:Bz k1 h l1 xs
 s2:Bz k2 h l2 ys
 b1:l1<n
 b2:l2<n
theorem ap {x y:Nat} (h:x≠y):@Ne Addr x y:=h
def Bp (n:Nat) (h h':Heap):Prop:=∀ c o,c≠n+4->c≠n+3->c≠n->c≠n+1->h.get? c=some o->h'.get? c=some o
theorem Bp.refl (n:Nat) (h:Heap):Bp n h h:=λ_ _ _ _ _ _ e=>e
theorem Bp.on {n:Nat} {h h1 h2:Heap} (p:Bp n h h1) (q:Bp n h1 h2):Bp n h h2:=λc o c1 c2 c3 c4 e=>q c o c1 c2 c3 c4 (p c o c1 c2 c3 c4 e)
theorem Bp.of {n c:Nat} {h h':Heap} (e:Heap.SameBut c h h') (m:c=n+4\/c=n+3\/c=n\/c=n+1):Bp n h h':=
 λd o d1 d2 d3 d4 q=>e.extBut _ _ (by rcases m with rfl | rfl | rfl | rfl <;> assumption) q
section
variable {prog:Program} {w:World} {A:Around} {E:Value->Shared->Prop} {s:Shared} {n l1 l2 i1 i2:Nat} {k1 k2:Bool} {xs ys:Array Value} {f0 f1 a b v:Value}
theorem ZW.mark0 {Q:Unit->Shared->Prop} (W:ZW n k1 k2 l1 l2 i1 i2 xs ys f0 f1 a b s.heap) (hQ:∀ h',ZW n k1 k2 l1 l2 i1 i2 xs ys v f1 a b h'->Bp n s.heap h'->h'.objs.size=s.heap.objs.size->Q () { s with heap:=h' }):wpAny (model prog w) A (setField (.ref (n+4)) 0 v) Q E s:=
 wpAny_setField_rec W.z (by simp) λh' g e=>hQ h' ⟨g,e.extBut _ _ (ap wF) W.ti,e.extBut _ _ (ap wF) W.to,W.w1.at λo=>e.extBut _ _ (ap wF),W.w2.at λo=>e.extBut _ _ (ap wF),W.s1.at λo=>e.extBut _ _ (ap (by have:=W.b1; omega)),W.s2.at λo=>e.extBut _ _ (ap (by have:=W.b2; omega)),W.b1,W.b2⟩ (.of e (.inl rfl)) e.1
theorem ZW.mark1 {Q:Unit->Shared->Prop} (W:ZW n k1 k2 l1 l2 i1 i2 xs ys f0 f1 a b s.heap) (hQ:∀ h',ZW n k1 k2 l1 l2 i1 i2 xs ys f0 v a b h'->Bp n s.heap h'->h'.objs.size=s.heap.objs.size->Q () { s with heap:=h' }):wpAny (model prog w) A (setField (.ref (n+4)) 1 v) Q E s:=
 wpAny_setField_rec W.z (by simp) λh' g e=>hQ h' ⟨g,e.extBut _ _ (ap wF) W.ti,e.extBut _ _ (ap wF) W.to,W.w1.at λo=>e.extBut _ _ (ap wF),W.w2.at λo=>e.extBut _ _ (ap wF),W.s1.at λo=>e.extBut _ _ (ap (by have:=W.b1; omega)),W.s2.at λo=>e.extBut _ _ (ap (by have:=W.b2; omega)),W.b1,W.b2⟩ (.of e (.inl rfl)) e.1
theorem ZW.put {j:Nat} {Q:Unit->Shared->Prop} (W:ZW n k1 k2 l1 l2 i1 i2 xs ys f0 f1 a b s.heap) (hQ:∀ h',ZW n k1 k2 l1 l2 i1 i2 xs ys f0 f1 (if j=0 then v else a) (if j=1 then v else b) h'->Bp n s.heap h'->h'.objs.size=s.heap.objs.size->Q () { s with heap:=h' }):wpAny (model prog w) A (updateSeq (n+3) (·.setIfInBounds j v)) Q E s:=
 wpAny_updateSeq_pair W.to λh' g e=>hQ h' ⟨e.extBut _ _ (ap wF) W.z,e.extBut _ _ (ap wF) W.ti,by rw [g]; match j with | 0=>rfl | 1=>rfl | _+2=>rfl,W.w1.at λo=>e.extBut _ _ (ap wF),W.w2.at λo=>e.extBut _ _ (ap wF),W.s1.at λo=>e.extBut _ _ (ap (by have:=W.b1; omega)),W.s2.at λo=>e.extBut _ _ (ap (by have:=W.b2; omega)),W.b1,W.b2⟩ (.of e (.inr (.inl rfl))) e.1
theorem ZW.draw1 {x:Value} {Q:Value->Shared->Prop} (W:ZW n k1 k2 l1 l2 i1 i2 xs ys f0 f1 a b s.heap) (hx:xs[i1]?=some x) (hQ:∀ h',ZW n k1 k2 l1 l2 (i1+1) i2 xs ys f0 f1 a b h'->Bp n s.heap h'->h'.objs.size=s.heap.objs.size->Q x { s with heap:=h' }):wpAny (model prog w) A (Builtin.SmallTypes.nextOf (.ref n)) Q E s:=
 Jl W.w1 W.s1 hx λh' g e=>hQ h' ⟨e.extBut _ _ (ap wF) W.z,e.extBut _ _ (ap wF) W.ti,e.extBut _ _ (ap wF) W.to,g,W.w2.at λo=>e.extBut _ _ (ap wF),W.s1.at λo=>e.extBut _ _ (ap (by have:=W.b1; omega)),W.s2.at λo=>e.extBut _ _ (ap (by have:=W.b2; omega)),W.b1,W.b2⟩ (.of e (.inr (.inr (.inl rfl)))) e.1
theorem ZW.draw2 {y:Value} {Q:Value->Shared->Prop} (W:ZW n k1 k2 l1 l2 i1 i2 xs ys f0 f1 a b s.heap) (hy:ys[i2]?=some y) (hQ:∀ h',ZW n k1 k2 l1 l2 i1 (i2+1) xs ys f0 f1 a b h'->Bp n s.heap h'->h'.objs.size=s.heap.objs.size->Q y { s with heap:=h' }):wpAny (model prog w) A (Builtin.SmallTypes.nextOf (.ref (n+1))) Q E s:=
 Jl W.w2 W.s2 hy λh' g e=>hQ h' ⟨e.extBut _ _ (ap wF) W.z,e.extBut _ _ (ap wF) W.ti,e.extBut _ _ (ap wF) W.to,W.w1.at λo=>e.extBut _ _ (ap wF),g,W.s1.at λo=>e.extBut _ _ (ap (by have:=W.b1; omega)),W.s2.at λo=>e.extBut _ _ (ap (by have:=W.b2; omega)),W.b1,W.b2⟩ (.of e (.inr (.inr (.inr rfl)))) e.1
def ZF (f0:Value):Prop:=f0=.none\/∃ c:Nat,f0=rawInt (c:Int)
theorem Qz {M:Model} {c:Addr} {Q:Option Obj->Shared->Prop} (h:Q (s.heap.get? c) s):wpAny M A (loadIfAlive c) Q E s:=λ_ _ _=>h
theorem ZW.free {Q:Bool->Shared->Prop} (W:ZW n k1 k2 l1 l2 i1 i2 xs ys f0 f1 a b s.heap) (hf:ZF f0) (y:Q true s) (z:∀ h' f,ZW n k1 k2 l1 l2 i1 i2 xs ys f0 f a b h'->Bp n s.heap h'->h'.objs.size=s.heap.objs.size->Q false { s with heap:=h' }):wpAny (model prog w) A (Builtin.SmallTypes.ownedTupleIsFree (.ref (n+4))) Q E s:=by
 obtain ⟨h,g,d,tk,os⟩:=s
 have hz:=W.z
 dsimp only at hz
 rcases hf with rfl | ⟨c,rfl⟩
 ·wp_walk
  exact y
 ·wp_walk using Qz
  cases h.get? (Int.toNat (c:Int)) with
  | none=>wp_walk; exact y
  | some o=>
   by_cases m:f1=.bool true
   ·subst m
    wp_walk
    exact z _ _ W (Bp.refl _ _) rfl
   ·wp_walk using W.mark1
    exact λh' V o1 o2=>wpAny_pure (z h' _ V o1 o2)
theorem LZ {M:Model} {β:Type} {x y:Value} {b:β} {f:Value->β->Sem (ForInStep β)} {Q:β->Shared->Prop} (h:wpAny M A (forIn [x,y] b f) Q E s):wpAny M A (forIn #[x,y] b f) Q E s:=by
 rw [<- Array.forIn_toList]; exact h
theorem ZW.more {h:Heap} {o:Obj} (W:ZW n k1 k2 l1 l2 i1 i2 xs ys f0 f1 a b h):ZW n k1 k2 l1 l2 i1 i2 xs ys f0 f1 a b (h.push o):=
 have e:∀ c u,h.get? c=some u->(h.push o).get? c=some u:=λc u q=>Heap.get?_push_of_some _ q
 ⟨e _ _ W.z,e _ _ W.ti,e _ _ W.to,W.w1.at (e _),W.w2.at (e _),W.s1.at (e _),W.s2.at (e _),W.b1,W.b2⟩
theorem Bp.more {h h':Heap} {o:Obj} (p:Bp n h h'):Bp n h (h'.push o):=p.on λc u _ _ _ _ q=>Heap.get?_push_of_some _ q
theorem QW {i:Nat} {x y:Value} {Q:Value->Shared->Prop} (W:ZW n k1 k2 l1 l2 i i xs ys f0 f1 a b s.heap) (hf:ZF f0) (hx:xs[i]?=some x) (hy:ys[i]?=some y)
  (hQ:∀ h' f0' f1' a' b',ZW n k1 k2 l1 l2 (i+1) (i+1) xs ys f0' f1' a' b' h'->ZF f0'->IsPair h' s.heap.objs.size x y->Bp n s.heap h'->Q (.ref s.heap.objs.size) { s with heap:=h' }) :
  wpAny (model prog w) A (Builtin.«zip.__next__» ⟨[.ref (n+4)],[]⟩) (λfin s'=>∃ v,fin=.done (.ret v)/\Q v s') E s:=by
 obtain ⟨h,g,d,tk,os⟩:=s
 dsimp only at W hQ
 have z:=W.z
 have t:=W.ti
 have ok:∀ h4:Heap,h4.objs.size=h.objs.size->∀ v,(h4.push v).objs.size=h.objs.size+1:=λh4 e v=>by rw [Heap.size_push,e]
 have lt:n+4<h.objs.size:=Heap.lt_size z
 wp_walk using W.free hf,W.mark0
 ·-- the pair is used again
  intro h1 W1 o1 z1
  have t1:=W1.to
  wp_walk using wpAny_onRaise,W1.draw1 hx
  intro h2 W2 o2 z2
  have t2:=W2.to
  wp_walk using W2.put
  intro h3 W3 o3 z3
  wp_walk using wpAny_onRaise,W3.draw2 hy
  intro h4 W4 o4 z4
  have t4:=W4.to
  wp_walk using W4.put
  intro h5 W5 o5 z5
  have t5:=W5.to
  wp_walk using W5.more.mark0
  intro h6 W6 o6 z6
  wp_walk using W6.mark1
  intro h7 W7 o7 z7
  wp_walk
  have ol:Bp n h h5:=o1.on (o2.on (o3.on (o4.on o5)))
  have zl:h5.objs.size=h.objs.size:=z5.trans (z4.trans (z3.trans (z2.trans z1)))
  have pr:IsPair (h5.push { cls:=.type "tuple",data:=.seq #[x,y] }) h5.objs.size x y:=Heap.get?_push_size _ rfl
  have fin:=hQ h7 _ _ _ _ W7 (.inr ⟨_,rfl⟩)
  rw [<- zl] at fin
  have far:∀ j,j<=4->h5.objs.size≠n+j:=λj hj=>by omega
  exact ⟨_,rfl,fin (o7 _ _ (far 4 wE) (far 3 wE) (far 0 wE) (far 1 wE) (o6 _ _ (far 4 wE) (far 3 wE) (far 0 wE) (far 1 wE) pr)) (ol.more.on (o6.on o7))⟩
 ·intro h1 f W1 o1 z1
  wp_walk using LZ,W1.draw1 hx
  intro h2 W2 o2 z2
  wp_walk using W2.draw2 hy
  intro h3 W3 o3 z3
  wp_walk
  have zl:h3.objs.size=h.objs.size:=z3.trans (z2.trans z1)
  have fin:=hQ (h3.push { cls:=.type "tuple",data:=.seq #[x,y] }) _ _ _ _ W3.more hf
  rw [<- zl] at fin
  exact ⟨_,rfl,fin (Heap.get?_push_size _ rfl) (o1.on (o2.on o3)).more⟩
def ZE (n:Nat) (h:Heap) (f0 f1:Value) (h':Heap) (e:Addr):Prop:=h'.get? (n+4)=some (He n f0 f1)/\Bp n h h'/\∃ o,h'.get? e=some o/\o.cls=.type "StopIteration"
theorem ZW.end1 {Q:Value->Shared->Prop} (hh:A.handled=none) (W:ZW n k1 k2 l1 l2 i1 i2 xs ys f0 f1 a b s.heap) (hx:xs[i1]?=none) (hE:∀ h' e,ZE n s.heap f0 f1 h' e->E (.ref e) { s with heap:=h' }):wpAny (model prog w) A (Builtin.SmallTypes.nextOf (.ref n)) Q E s:=
 Jm hh W.w1 W.s1 hx λh' e x y=>hE h' e ⟨x _ _ (ap wF) W.z,λc o _ _ c3 _ q=>x c o c3 q,y⟩
theorem ZW.end2 {Q:Value->Shared->Prop} (hh:A.handled=none) (W:ZW n k1 k2 l1 l2 i1 i2 xs ys f0 f1 a b s.heap) (hy:ys[i2]?=none) (hE:∀ h' e,ZE n s.heap f0 f1 h' e->E (.ref e) { s with heap:=h' }):wpAny (model prog w) A (Builtin.SmallTypes.nextOf (.ref (n+1))) Q E s:=
 Jm hh W.w2 W.s2 hy λh' e x y=>hE h' e ⟨x _ _ (ap wF) W.z,λc o _ _ _ c4 q=>x c o c4 q,y⟩
theorem QX {i:Nat} {Q:PySem.Fin->Shared->Prop} (hh:A.handled=none) (W:ZW n k1 k2 l1 l2 i i xs ys f0 f1 a b s.heap) (hf:ZF f0) (he:xs[i]?=none\/ys[i]?=none)
  (hE:∀ h' e,Bp n s.heap h'->(∃ o,h'.get? e=some o/\o.cls=.type "StopIteration")->E (.ref e) { s with heap:=h' }) :
  wpAny (model prog w) A (Builtin.«zip.__next__» ⟨[.ref (n+4)],[]⟩) Q E s:=by
 obtain ⟨h,g,d,tk,os⟩:=s
 dsimp only at W hE
 have z:=W.z
 have t:=W.ti
 have hb:∀ h1 h2 e f,Bp n h h1->ZE n h1 f f1 h2 e->wpAny (model prog w) A (setField (.ref (n+4)) 0 .none) (λ_ s'=>E (.ref e) s') E ⟨h2,g,d,tk,os⟩:=λh1 h2 e f p ⟨g2,p2,o,q,c⟩=>
  wpAny_setField_rec g2 (by simp [He]) λh3 g3 e3=>hE h3 e (p.on (p2.on (.of e3 (.inl rfl)))) ⟨o,e3.extBut _ _ (λx=>by subst x; rw [g2] at q; cases q; simp [He] at c) q,c⟩
 wp_walk using W.free hf,W.mark0
 ·intro h1 W1 o1 z1
  have t1:=W1.to
  cases hx:xs[i]? with
  | none=>
   wp_walk using wpAny_onRaise,W1.end1 hh hx
   exact λh2 e q=>hb h1 h2 e _ o1 q
  | some x=>
   have hy:ys[i]?=none:=he.resolve_left (by rw [hx]; simp)
   wp_walk using wpAny_onRaise,W1.draw1 hx
   intro h2 W2 o2 z2
   have t2:=W2.to
   wp_walk using W2.put
   intro h3 W3 o3 z3
   wp_walk using wpAny_onRaise,W3.end2 hh hy
   exact λh4 e q=>hb h3 h4 e _ (o1.on (o2.on o3)) q
 ·intro h1 f W1 o1 z1
  cases hx:xs[i]? with
  | none=>
   wp_walk using LZ,W1.end1 hh hx
   exact λh2 e q=>hE h2 e (o1.on q.2.1) q.2.2
  | some x=>
   have hy:ys[i]?=none:=he.resolve_left (by rw [hx]; simp)
   wp_walk using LZ,W1.draw1 hx
   intro h2 W2 o2 z2
   wp_walk using W2.end2 hh hy
   exact λh3 e q=>hE h3 e (o1.on (o2.on q.2.1)) q.2.2
end
section
variable {prog:Program} {w:World} {A:Around} {E:Value->Shared->Prop} {s:Shared} {n l1 l2 i1 i2 i:Nat} {k1 k2:Bool} {xs ys:Array Value} {f0 f1 a b v:Value}
theorem HR {T id:String} {bi:Builtin} {Q:Option Value->Shared->Prop} (hT:s.TypeIs v T) (sl:Slot T (Str.ofString "__next__") id) (en:entryFor table id=some bi) (ok:argsOk id ⟨[v],[]⟩)
  (h:wpAny (model prog w) A.in1 (bi ⟨[v],[]⟩) (λfin s'=>∃ x,fin=.done (.ret x)/\Q (some x) s') (λe s'=>s'.TypeIs e "StopIteration" /\ Q none s') s):wpAny (model prog w) A (pyNext v) Q E s:=
 wpAny_bind (wpAny_attempt (wpAny_callSpecial?_slot hT sl (wpAny_call_entry sl hT en (wpAny_mono h (λfin s' ⟨x,e,q⟩=>⟨x,e,wpAny_pure q⟩) λe s' ⟨t,q⟩=>wpAny_bind (wpAny_isInstance (T := "StopIteration") (b:=true) t isSubtype_stop (wpAny_pure q))) ok)))
def ES (k1 k2:Bool) (n l1 l2 i:Nat) (h:Heap):Prop:=∃ f0 f1 a b,ZF f0/\h.get? (n+4)=some (He n f0 f1)/\IsPair h (n+2) (.ref n) (.ref (n+1))/\IsPair h (n+3) a b/\Cm k1 h n l1 i/\Cm k2 h (n+1) l2 i
theorem ZW.tn {h:Heap} (W:ZW n k1 k2 l1 l2 i i xs ys f0 f1 a b h) (hf:ZF f0):ES k1 k2 n l1 l2 i h:=⟨f0,f1,a,b,hf,W.z,W.ti,W.to,W.w1,W.w2⟩
theorem WV {x y:Value} {Q:Option Value->Shared->Prop} (W:ZW n k1 k2 l1 l2 i i xs ys f0 f1 a b s.heap) (hf:ZF f0) (hx:xs[i]?=some x) (hy:ys[i]?=some y)
  (hQ:∀ h' f0' f1' a' b',ZW n k1 k2 l1 l2 (i+1) (i+1) xs ys f0' f1' a' b' h'->ZF f0'->IsPair h' s.heap.objs.size x y->Bp n s.heap h'->Q (some (.ref s.heap.objs.size)) { s with heap:=h' }):wpAny (model prog w) A (pyNext (.ref (n+4))) Q E s:=
 HR ⟨_,W.z,rfl⟩ F.slot_zip_next F.entry_zip_next (F.args_zip_next_1 _) (QW (Q:=λv s'=>Q (some v) s') W hf hx hy hQ)
theorem WU {Q:Option Value->Shared->Prop} (hh:A.handled=none) (W:ZW n k1 k2 l1 l2 i i xs ys f0 f1 a b s.heap) (hf:ZF f0) (he:xs[i]?=none\/ys[i]?=none) (hQ:∀ h',Bp n s.heap h'->Q none { s with heap:=h' }):wpAny (model prog w) A (pyNext (.ref (n+4))) Q E s:=
 HR ⟨_,W.z,rfl⟩ F.slot_zip_next F.entry_zip_next (F.args_zip_next_1 _) (QX hh W hf he λh' e p q=>⟨q,hQ h' p⟩)
theorem X6 {tg:Expr} {u:Value} {Q:Unit->Shared->Prop} (W:ZW n k1 k2 l1 l2 i1 i2 xs ys f0 f1 a b s.heap) (hf:ZF f0) (hQ:∀ h' f,ZW n k1 k2 l1 l2 i1 i2 xs ys f f1 a b h'->ZF f->Bp n s.heap h'->Q () { s with heap:=h' }):wpAny (model prog w) A (letOwnedTupleGo tg (.ref (n+4)) u) Q E s:=by
 have same:Q () s:=hQ s.heap _ W hf (Bp.refl _ _)
 obtain ⟨h,g,d,tk,os⟩:=s
 have z:=W.z
 dsimp only at z
 unfold letOwnedTupleGo
 cases tg <;> try exact wpAny_pure same
 all_goals cases u <;> try exact wpAny_pure same
 all_goals
  wp_walk
  split
  ·exact wpAny_bind (wpAny_rule (W.mark0 (s:=⟨h,g,d,tk,os⟩) (v:=.none) λh' V o z=>hQ h' _ V (.inl rfl) o))
  ·exact wpAny_pure same
theorem OA {T id nid:String} {bi:Builtin} {Q:Value->Shared->Prop} (hT:s.TypeIs v T) (sl:Slot T (Str.ofString "__iter__") id) (en:entryFor table id=some bi) (ok:argsOk id ⟨[v],[]⟩) (nx:Slot T (Str.ofString "__next__") nid)
  (h:wpAny (model prog w) A.in1 (bi ⟨[v],[]⟩) (λfin s'=>fin=.done (.ret v)/\s'=s) E s) (q:Q v s):wpAny (model prog w) A (pyIter v) Q E s:=
 wpAny_pyIter_slot hT sl (wpAny_call_entry sl hT en (wpAny_mono h (λfin s' ⟨e1,e2⟩=>⟨v,e1,T,_,by rw [e2]; exact hT,nx.lookup,by rw [e2]; exact q⟩) λ_ _ e=>e) ok)
theorem LJ {k:Bool} {l:Addr} {Q:Value->Shared->Prop} (t:Bz k s.heap l xs) (hQ:∀ o,o.isFreed=false->(∀ h:Heap,∀ c,h.get? c=some o->Cm k h c l 0)->Q (.ref s.heap.objs.size) { s with heap:=s.heap.push o }):wpAny (model prog w) A (pyIter (.ref l)) Q E s:=
 match k with
 | true=>wpAny_pyIter_list t (hQ _ rfl λh c e=>⟨_,e,rfl,rfl⟩)
 | false=>wpAny_pyIter_tuple t (hQ _ rfl λh c e=>⟨_,e,rfl,rfl⟩)
end
theorem Xr (h:Heap) (a b c d e:Obj) (fa:a.isFreed=false) (fb:b.isFreed=false) (fc:c.isFreed=false) (fd:d.isFreed=false) (fe:e.isFreed=false) :
  let m:=((((h.push a).push b).push c).push d).push e
  m.get? h.objs.size=some a/\m.get? (h.objs.size+1)=some b/\m.get? (h.objs.size+2)=some c/\m.get? (h.objs.size+3)=some d/\m.get? (h.objs.size+4)=some e/\∀ x o,h.get? x=some o->m.get? x=some o:=by
 have up:∀ (k:Heap) (o:Obj) x u,k.get? x=some u->(k.push o).get? x=some u:=λk o x u q=>Heap.get?_push_of_some _ q
 have at_:∀ (k:Heap) (o:Obj) x,o.isFreed=false->x=k.objs.size->(k.push o).get? x=some o:=λk o x f q=>by rw [q]; exact Heap.get?_push_size _ f
 exact ⟨up _ _ _ _ (up _ _ _ _ (up _ _ _ _ (up _ _ _ _ (at_ _ _ _ fa rfl)))),up _ _ _ _ (up _ _ _ _ (up _ _ _ _ (at_ _ _ _ fb (by simp [Heap.size_push])))),up _ _ _ _ (up _ _ _ _ (at_ _ _ _ fc (by simp [Heap.size_push]))),up _ _ _ _ (at_ _ _ _ fd (by simp [Heap.size_push])),at_ _ _ _ fe (by simp [Heap.size_push]),λx o q=>up _ _ _ _ (up _ _ _ _ (up _ _ _ _ (up _ _ _ _ (up _ _ _ _ q))))⟩
theorem QV (k1 k2:Bool) (l1 l2:Addr) (xs ys:Array Value) :
  Meets (Builtin.«zip.__new__» ⟨[.type "zip",.ref l1,.ref l2],[]⟩) (λ_ R s=>Bz k1 s.heap l1 xs/\Bz k2 s.heap l2 ys /\
   ∀ h',ZW s.heap.objs.size k1 k2 l1 l2 0 0 xs ys .none (.bool false) .none .none h'->(∀ c o,s.heap.get? c=some o->h'.get? c=some o)->R (.ok (.ret (.ref (s.heap.objs.size+4)))) { s with heap:=h' }):=
 .of_wp λprog w A R s q=>by
  obtain ⟨h,g,d,tk,os⟩:=s
  obtain ⟨t1,t2,q⟩:=q
  have hsub:=sub_zip
  have lt:∀ {k:Bool} {l:Addr} {zs:Array Value},Bz k h l zs->l<h.objs.size:=λ{k l zs} q=>by
   cases k with
   | true=>obtain ⟨o,g,_⟩:=(q:h.IsList l zs); exact Heap.lt_size g
   | false=>obtain ⟨o,g,_⟩:=(q:h.IsTuple l zs); exact Heap.lt_size g
  have p1:=lt t1
  have p2:=lt t2
  wp_walk using LJ t1
  intro a1 f1 i1
  wp_walk using LJ (s:=⟨h.push a1,g,d,tk,os⟩) (t2.at λo e=>Heap.get?_push_of_some _ e)
  intro a2 f2 i2
  wp_walk
  simp only [Heap.size_push,Nat.add_assoc,Nat.reduceAdd]
  obtain ⟨e0,e1,e2,e3,e4,up⟩:=Xr h a1 a2 { cls:=.type "tuple",data:=.seq #[.ref h.objs.size,.ref (h.objs.size+1)] } { cls:=.type "tuple",data:=.seq #[.none,.none] } { cls:=.type "zip",data:=.fields #[.none,.bool false,.bool false,.ref (h.objs.size+2),.ref (h.objs.size+3)] } f1 f2 rfl rfl rfl
  exact ⟨_,rfl,q _ ⟨e4,e2,e3,i1 _ _ e0,i2 _ _ e1,t1.at (up _),t2.at (up _),p1,p2⟩ up⟩
theorem ZB {prog:Program} {w:World} {A:Around} {E:Value->Shared->Prop} {s:Shared} {k1 k2:Bool} {l1 l2:Addr} {xs ys:Array Value} {Q:Value->Shared->Prop} (t1:Bz k1 s.heap l1 xs) (t2:Bz k2 s.heap l2 ys)
  (hQ:∀ h',ES k1 k2 s.heap.objs.size l1 l2 0 h'->(∀ c o,s.heap.get? c=some o->h'.get? c=some o)->Q (.ref (s.heap.objs.size+4)) { s with heap:=h' }) :
  wpAny (model prog w) A (call (.type "zip") [.ref l1,.ref l2]) Q E s:=
 callType_new F.called_zip wE (F.typeCall_zip_2 _ _) (F.newCall_zip_2 _ _) (λobj=>F.args_object_init_3 obj _ _) F.entry_zip_new (QV k1 k2 l1 l2 xs ys) ⟨t1,t2,λh' W up=>⟨⟨_,W.z,rfl⟩,hQ h' (W.tn (.inl rfl)) up⟩⟩
def Sq (k:Bool) (K:PySem.W.Frag) (H:Hp) (a:Addr) (xs:List V):Prop:=if k then A0 K H a xs else A1 K H a xs
def MC (k1 k2:Bool) (K:PySem.W.Frag) (l1 l2:Addr):It:=
  ⟨λi H=>∃ as bs a b,Sq k1 K H l1 as/\Sq k2 K H l2 bs/\as[i]?=some a/\bs[i]?=some b,
   λi H x H'=>∃ T a b,H T=none/\H'=Ap H T (.tup [a,b])/\x=.ref T/\(∀ as,Sq k1 K H l1 as->as[i]?=some a)/\∀ bs,Sq k2 K H l2 bs->bs[i]?=some b,
   λi H=>∃ as bs,Sq k1 K H l1 as/\Sq k2 K H l2 bs/\(as.length<=i\/bs.length<=i)⟩
section
variable {X:Cx} {pins:List (Addr×Obj)} {σ:L2.St} {H:Hp} {s:Shared} {k:Bool} {a:Addr} {xs ys:List V}
theorem DG (I:L2.Inv X pins σ H s) (h:Sq k X.K H a xs):∃ its:List Value,Ar xs its/\Bz k s.heap a its.toArray/\xs.length<=sizeLine:=by
 cases k with
 | true=>obtain ⟨its,v,p,z⟩:=I.list h; exact ⟨its,v,p.isList,z⟩
 | false=>obtain ⟨its,v,p,z⟩:=I.tuple h; exact ⟨its,v,(p:IsTup _ _ _),z⟩
theorem MG (I:L2.Inv X pins σ H s) (h:Sq k X.K H a xs) (h':Sq k X.K H a ys):xs=ys:=by
 cases k with
 | true=>exact I.list_inj h h'
 | false=>exact I.tuple_inj h h'
end
theorem IT {X:Cx} {pins:List (Addr×Obj)} {σ:L2.St} {H:Hp} {s:Shared} {h':Heap} {t':Nat} {fp:List Addr} (I:L2.Inv X pins σ H s) (hf:∀ b∈fp,BS X pins H b) (k:∀ b o,b∉fp->s.heap.get? b=some o->h'.get? b=some o):L2.Inv X pins σ H { s with heap:=h',toks:=t' }:=by
 have nit:∀ b u,H b=some u->b∉fp:=λb u e z=>by rw [(hf b z).1] at e; cases e
 refine I.step (g':=s.gens) (d':=s.drawn) (ch:=fp) (λb hb=>?_) (λb o _ _ hc e _=>k b o hc e) (λb o _ _ hc e _=>⟨o.slots,k b o hc e⟩) (λ_ _ _ _ n=>n) (λb o hc e=>⟨o,k b o hc e⟩) (λ_ _ e=>e) (λ_ _ _ e=>e) (λb ps e=>⟨#[],by rw [e]; simp⟩) (λm hm=>?_) (λb u e=>?_) I.bare
 ·obtain ⟨f0,f1,f2,f3,f4,f5⟩:=hf b hb
  exact ⟨f3,f1,f4,f5⟩
 ·obtain ⟨o,es,ep,ho,r⟩:=hm
  exact ⟨o,es,ep,k _ o (λz=>(hf _ z).2.1 rfl) ho,r⟩
 ·refine (I.hok b u e).stay (λc v hc q=>k c v ?_ q) (λ_ q=>q) λ_ _ q=>q
  rcases hc with z | z
  ·rw [z]; exact nit b u e
  ·exact nit c _ z
theorem QJ {X:Cx} {pins:List (Addr×Obj)} {σ:L2.St} {H:Hp} {s:Shared} {T:Addr} {o:HO} (I:L2.Inv X pins σ H s) (hT:BS X pins H T) (hs:X.s₀.heap.objs.size<=T) (new:BI X.prog X.w (Ap H T o) s.heap T o):L2.Inv X pins σ (Ap H T o) s:=by
 obtain ⟨f0,f1,f2,f3,f4,f5⟩:=hT
 have ne:∀ b u,H b=some u->b≠T:=λb u e z=>by rw [z,f0] at e; cases e
 have sn:∀ b o,X.s₀.heap.get? b=some o->b≠T:=λb o e=>Nat.ne_of_lt (Nat.lt_of_lt_of_le (Heap.lt_size e) hs)
 exact ⟨I.ok,I.os,I.bare,⟨I.base.keep,I.base.slot,λb ob q n hx=>by rw [AB (sn b ob q)]; exact I.base.free b ob q n hx,I.base.there,λb xs q=>by have e:=I.base.tups b xs q; rw [AB (ne b _ e)]; exact e,λb ob u q=>by have e:=I.base.frzs b ob u q; rw [AB (ne b _ e)]; exact e,λb ps q=>by obtain ⟨m,e⟩:=I.base.tbls b ps q; exact ⟨m,by rw [AB (ne b _ e)]; exact e⟩⟩,
  I.loc,I.cell,by rw [AB (Ne.symm f1)]; exact I.free,λx c e=>by rw [AB (f4 x c e)]; exact I.freeC x c e,λp hp=>by obtain ⟨a,b,c⟩:=I.pin p hp; exact ⟨a,by rw [AB (f5 p hp)]; exact b,c⟩,QL I.hok f0 new,I.len⟩
def BY (n:Nat):List Addr:=[n,n+1,n+2,n+3,n+4]
theorem QQ {k1 k2:Bool} {n l1 l2 i:Nat} {h h':Heap} (st:ES k1 k2 n l1 l2 i h) (k:∀ b∈BY n,∀ o,h.get? b=some o->h'.get? b=some o):ES k1 k2 n l1 l2 i h':=by
 obtain ⟨f0,f1,a,b,hf,z,ti,to,w1,w2⟩:=st
 exact ⟨f0,f1,a,b,hf,k _ (by simp [BY]) _ z,k _ (by simp [BY]) _ ti,k _ (by simp [BY]) _ to,w1.at (k _ (by simp [BY])),w2.at (k _ (by simp [BY]))⟩
theorem MK {k1 k2:Bool} {n l1 l2 i:Nat} {h:Heap} (st:ES k1 k2 n l1 l2 i h):∀ b∈BY n,∃ o,h.get? b=some o/\∀ v,o.data≠.cell v:=by
 obtain ⟨f0,f1,a,b,hf,z,ti,to,w1,w2⟩:=st
 have all:∀ P:Addr->Prop,P n->P (n+1)->P (n+2)->P (n+3)->P (n+4)->∀ b∈BY n,P b:=λP p0 p1 p2 p3 p4 b hb=>by
  simp only [BY,List.mem_cons,List.not_mem_nil,or_false] at hb
  rcases hb with rfl | rfl | rfl | rfl | rfl <;> assumption
 exact all _ w1.obj w2.obj ⟨_,ti,λv e=>by cases e⟩ ⟨_,to,λv e=>by cases e⟩ ⟨_,z,λv e=>by cases e⟩
theorem Hc {n:Nat} {c:Addr} (h:c∉BY n):c≠n+4/\c≠n+3/\c≠n/\c≠n+1:=
 ⟨λe=>h (by simp [BY,e]),λe=>h (by simp [BY,e]),λe=>h (by simp [BY,e]),λe=>h (by simp [BY,e])⟩
theorem Bp.fp {n:Nat} {h h':Heap} (p:Bp n h h'):∀ c o,c∉BY n->h.get? c=some o->h'.get? c=some o:=λc o hc=>p c o (Hc hc).1 (Hc hc).2.1 (Hc hc).2.2.1 (Hc hc).2.2.2
theorem Rn {P:Program} {w:World} {K:PySem.W.Frag} {tg:Expr} (k1 k2:Bool) (n l1 l2:Nat) (hl1:l1<n) (hl2:l2<n):EJ P w K tg (MC k1 k2 K l1 l2) (BY n) (n+4) (ES k1 k2 n l1 l2) where
 mem:=by simp [BY]
 obj:=λi h st=>MK st
 keep:=λi h h' st k=>QQ st k
 item:=by
  intro X hP hw hK hc i pins s σ H E I hf st hg
  subst hP hw hK
  obtain ⟨as,bs,a,b,q1,q2,ga,gb⟩:=hg
  obtain ⟨ia,va,sa,_⟩:=DG I q1
  obtain ⟨ib,vb,sb,_⟩:=DG I q2
  obtain ⟨ua,hua,rua⟩:=va.get ga
  obtain ⟨ub,hub,rub⟩:=vb.get gb
  have hTn:s.heap.objs.size∉BY n:=λm=>let ⟨o,e,_⟩:=MK st _ m; Nat.lt_irrefl _ (Heap.lt_size e)
  obtain ⟨f0,f1,a0,b0,zf,z,ti,to,w1,w2⟩:=st
  refine WV (x:=ua) (y:=ub) ⟨z,ti,to,w1,w2,sa,sb,hl1,hl2⟩ zf (by simpa using hua) (by simpa using hub) λh1 f0' f1' a' b' W1 zf1 pr o1=>⟨_,rfl,X6 (s:={ s with heap:=h1 }) W1 zf1 λh2 f W2 zf2 o2=>?_⟩
  have Iz:L2.Inv X pins σ H { s with heap:=h2,toks:=s.toks }:=IT I hf (o1.on o2).fp
  have fr:H s.heap.objs.size=none:=I.hok.fresh (Nat.le_refl _)
  refine ⟨.ref s.heap.objs.size,Ap H s.heap.objs.size (.tup [a,b]),?_,rfl,⟨_,a,b,fr,rfl,rfl,λcs q=>?_,λcs q=>?_⟩,W2.tn zf2,λc hb=>?_⟩
  ·refine QJ Iz (I.fpOk (Nat.le_refl _) fr) I.sz ⟨show 2<=sizeLine by decide,[ua,ub],.cons rua (.cons rub .nil),?_⟩
   exact ⟨_,o2.fp _ _ hTn pr,rfl,rfl,_,rfl⟩
  ·rw [MG I q q1]; exact ga
  ·rw [MG I q q2]; exact gb
  ·rw [AB (λe=>hTn (by rw [<- e]; exact hb))]; exact (hf c hb).1
 done:=by
  intro X hP hw hK hc i pins s σ H E I hf st hg
  subst hP hw hK
  obtain ⟨as,bs,q1,q2,hend⟩:=hg
  obtain ⟨ia,va,sa,_⟩:=DG I q1
  obtain ⟨ib,vb,sb,_⟩:=DG I q2
  obtain ⟨f0,f1,a0,b0,zf,z,ti,to,w1,w2⟩:=st
  have e1:=va.length
  have e2:=vb.length
  exact WU (I.ok.hd hc) ⟨z,ti,to,w1,w2,sa,sb,hl1,hl2⟩ zf (hend.imp (λe=>by simp; omega) λe=>by simp; omega) λh' p=>⟨rfl,IT (t':=s.toks) I hf p.fp⟩
 self:=λA i s Q E st h=>by
  obtain ⟨f0,f1,a0,b0,zf,z,_⟩:=st
  exact OA ⟨_,z,rfl⟩ F.slot_zip_iter F.entry_zip_iter (F.args_zip_iter_1 _) F.slot_zip_next (wpAny_pure ⟨rfl,rfl⟩) h
end DL
set_option maxHeartbeats 1000000
namespace DL
open PySem PySem.Spec PyProof.Rows L2 PySem.W
def LF (d:D) (xs:List D):Prop:=d=.lst xs\/d=.scr xs\/d=.tup xs
theorem Sq.same {k:Bool} {K:PySem.W.Frag} {H H':Hp} {a:Addr} {xs:List V} (e:Bm H H') (h:Sq k K H a xs):Sq k K H' a xs:=by
 cases k with
 | true=>exact e.seq h
 | false=>exact C6 e h
theorem LF.sq {K:PySem.W.Frag} {G:Wd} {d:D} {xs:List D} {v:V} (h:LF d xs) (i:Is K G d v):∃ k a vs,v=.ref a/\Sq k K G.g a vs/\Aj K G xs vs:=by
 rcases h with rfl | rfl | rfl
 ·cases i with | lst h r=>exact ⟨true,_,_,rfl,A0.of h,r⟩
 ·cases i with | scr h r=>exact ⟨true,_,_,rfl,h,r⟩
 ·cases i with | tup h r=>exact ⟨false,_,_,rfl,h,r⟩
def F9 (X:Cx) (ρ:Ai) (O:Ae) (e:Expr) (xs:List D) (T:String):Prop:=
 ∀ (G:Wd) (tg:Expr) (pins:List (Addr×Obj)) (s:Shared) (σ:L2.St) (H:Hp) (R:It->Hp->Prop),L2.Inv X pins σ H s->SA X.K G H O->Au X.K G σ ρ->(∀ J G' H',Ah G G'->SA X.K G' H' O->DD X.K G' J xs->R J H')->
  wpAny (model X.prog X.w) X.A (eval e X.env) (λv s1=>Mx X pins σ tg R v s1/\s1.TypeIs v T) X.xe s
def ET (xs ys:List D):List D:=List.zipWith (λa b=>.tup [a,b]) xs ys
theorem XD {K:PySem.W.Frag} {G:Wd} {k1 k2:Bool} {l1 l2:Addr} {vs us:List V} {xs ys:List D} (h1:Sq k1 K G.g l1 vs) (h2:Sq k2 K G.g l2 us) (r1:Aj K G xs vs) (r2:Aj K G ys us):DD K G (MC k1 k2 K l1 l2) (ET xs ys) where
 go:=λi H e hi=>by
  have hi:i<min xs.length ys.length:=by simpa [ET] using hi
  obtain ⟨a,ha,_⟩:=r1.get (i:=i) (d:=xs[i]'wF) (by simp)
  obtain ⟨b,hb,_⟩:=r2.get (i:=i) (d:=ys[i]'wF) (by simp)
  exact ⟨vs,us,a,b,h1.same e,h2.same e,ha,hb⟩
 stop:=λi H e hi=>by
  have hi:min xs.length ys.length<=i:=by simpa [ET] using hi
  have e1:=r1.length
  have e2:=r2.length
  exact ⟨vs,us,h1.same e,h2.same e,by omega⟩
 yld:=λi v H H' G2 O2 e s y hi=>by
  obtain ⟨T,a,b,hT,rfl,rfl,y1,y2⟩:=y
  obtain ⟨x,hx,ix⟩:=r1.getV (y1 vs (h1.same (e.g.trans s.sub)))
  obtain ⟨y,hy,iy⟩:=r2.getV (y2 us (h2.same (e.g.trans s.sub)))
  obtain ⟨e3,s3⟩:=s.laid (o:=.tup [a,b]) hT
  refine ⟨.tup [x,y],_,?_,e3,s3,.tup (A1.of AW) (.cons (ix.ext (e.trans e3)) (.cons (iy.ext (e.trans e3)) .nil))⟩
  unfold ET
  rw [List.getElem?_zipWith,hx,hy]
section
variable {X:Cx} {ρ:Ai} {O:Ae} {e a b c:Expr} {es:List Expr} {d da db:D} {ds:List D} {R:D->Ae->Prop} {pos p:Pos} {x:Str} {xs ys:List D}
theorem Ym (ha:Ad X ρ O a da) (hb:Ad X ρ O b db) (fa:LF da xs) (fb:LF db ys) (hm:X.mg "zip" = none) (hg:Gl X "zip" := by rfl) (hs:starEach [a,b] X.env=[(false,eval a X.env),(false,eval b X.env)]:=by rfl) (hs2:starEach [b] X.env=[(false,eval b X.env)]:=by rfl) :
  F9 X ρ O (.Call (.Name "zip" p) [a,b] [] pos) (ET xs ys) "zip" := λG tg pins s σ H R I sa en k=>by
 refine Call_ (EE I hg hm boot_zip (PyProof.Rows.callWith_type1 (Al (Ab ha (Ab hb Af hs2) (by rw [hs,hs2]) G pos pins s σ H (λvs H'=>∃ G',Ah G G'/\SA X.K G' H' O/\Aj X.K G' [da,db] vs) I ⟨sa,en,λvs G' H' e1 s1 i1=>⟨G',e1,s1,i1⟩⟩) λus s1 ⟨vs,H1,I1,r1,G1,e1,sa1,is1⟩=>?_) (by rw [hs,hs2]) (by rw [hs2]; rfl)))
 cases is1 with | cons i1 is1=>cases is1 with | cons i2 is1=>
 cases is1
 obtain ⟨k1,l1,v1,rfl,q1,j1⟩:=fa.sq i1
 obtain ⟨k2,l2,v2,rfl,q2,j2⟩:=fb.sq i2
 obtain ⟨u,u',rfl,ru,ru'⟩:=Ds r1
 cases ru
 cases ru'
 obtain ⟨t1,w1,g1,z1⟩:=DG I1 (q1.same sa1.sub)
 obtain ⟨t2,w2,g2,z2⟩:=DG I1 (q2.same sa1.sub)
 have lt:∀ {k:Bool} {l:Addr} {ys:Array Value},Bz k s1.heap l ys->l<s1.heap.objs.size:=λ{k l ys} q=>by
  cases k with
  | true=>obtain ⟨o,g,_⟩:=(q:s1.heap.IsList l ys); exact Heap.lt_size g
  | false=>obtain ⟨o,g,_⟩:=(q:s1.heap.IsTuple l ys); exact Heap.lt_size g
 refine ZB g1 g2 λh' Z kp=>?_
 have Ik:L2.Inv X pins σ H1 { s1 with heap:=h',toks:=s1.toks }:=I1.kept kp
 refine ⟨⟨s1.heap.objs.size+4,BY s1.heap.objs.size,ES k1 k2 s1.heap.objs.size l1 l2,MC k1 k2 X.K l1 l2,H1,rfl,Ik,Rn k1 k2 _ l1 l2 (lt g1) (lt g2),Z,λb hb=>?_,k _ G1 H1 e1 sa1 (XD q1 q2 j1 j2)⟩,?_⟩
 ·have hb':s1.heap.objs.size<=b:=by
   simp only [BY,List.mem_cons,List.not_mem_nil,or_false] at hb
   rcases hb with rfl | rfl | rfl | rfl | rfl
   ·exact Nat.le_refl _
   ·exact Nat.le_add_right _ 1
   ·exact Nat.le_add_right _ 2
   ·exact Nat.le_add_right _ 3
   ·exact Nat.le_add_right _ 4
  exact I1.fpOk hb' (I1.hok.fresh hb')
 ·obtain ⟨f0,f1,a0,b0,_,hz,_⟩:=Z
  exact ⟨_,hz,rfl⟩
theorem GR {tg:Expr} {T:String} (h:F9 X ρ O e xs T):BX X ρ O tg e xs:=λG pins s σ H R I ⟨h1,h2,h3⟩=>
 Al (h G tg pins s σ H R I h1 h2 h3) λv s1 ⟨q,_⟩=>by
  obtain ⟨it,fp,tn,J,H',rfl,I',T,st,f,r⟩:=id q
  exact T.self X.A 0 s1 _ _ st q
end
def Cx.wA (X:Cx) (A:Around):Cx:={ X with A:=A }
theorem Q1w {X:Cx} {pins:List (Addr×Obj)} {σ:L2.St} {H:Hp} {s:Shared} {A:Around} (I:L2.Inv X pins σ H s) (h1:A.frames=X.A.frames) (h2:A.handled=X.A.handled):L2.Inv (Cx.wA X A) pins σ H s:=
 ⟨⟨I.ok.mod,I.ok.kind,I.ok.glob,I.ok.blt,I.ok.above,I.ok.inj,I.ok.has,I.ok.cab,λhc=>h2.trans (I.ok.hd hc),h1.trans I.ok.frames,I.ok.stk,I.ok.exf,I.ok.bs,I.ok.bsz,I.ok.noex,I.ok.exfs,I.ok.funs,I.ok.frf⟩,I.os,I.bare,I.base,I.loc,I.cell,I.free,I.freeC,I.pin,I.hok,I.len⟩
theorem Q1v {X:Cx} {pins:List (Addr×Obj)} {σ:L2.St} {H:Hp} {s:Shared} {A:Around} (I:L2.Inv (Cx.wA X A) pins σ H s) (ok:X.Ok):L2.Inv X pins σ H s:=⟨ok,I.os,I.bare,I.base,I.loc,I.cell,I.free,I.freeC,I.pin,I.hok,I.len⟩
def B9 {α:Type} (n:Nat) (P:α->Prop):KasT α->Prop
 | .ret a=>P a
 | .ask i j k=>i<n/\j<n/\∀ b,B9 n P (k b)
theorem FV {α β:Type} {n:Nat} {f:α->KasT β} {P:α->Prop} {Q:β->Prop} (hf:∀ a,P a->B9 n Q (f a)):∀ (t:KasT α),B9 n P t->B9 n Q (t.bind f)
 | .ret a,h=>hf a h
 | .ask i j k,h=>⟨h.1,h.2.1,λb=>FV hf (k b) (h.2.2 b)⟩
theorem Pa {α:Type} {n:Nat} {P:α->Prop} {cmp:Nat->Nat->(Bool->Shared->Prop)->Shared->Prop} {lt:Nat->Nat->Bool} {s:Shared} {Q:α->Shared->Prop} (hc:∀ i j C,i<n->j<n->C (lt i j) s->cmp i j C s):∀ (t:KasT α),B9 n P t->(P (A6 lt t)->Q (A6 lt t) s)->t.kasWp cmp Q s
 | .ret a,h,q=>q h
 | .ask i j k,h,q=>hc i j _ h.1 h.2.1 (Pa hc (k (lt i j)) (h.2.2 _) q)
def In (n:Nat) (p:Array Nat):Prop:=∀ k,p.getD k 0<n
theorem QK {n:Nat} {p q:Array Nat} (h:In n p) (e:q.Perm p) (hn:0<n):In n q:=λk=>by
 rw [El]
 cases hk:q[k]? with
 | none=>exact hn
 | some v=>
  have hv:v∈p:=e.mem_iff.mp (Array.mem_of_getElem? hk)
  obtain ⟨i,hi,ei⟩:=Array.mem_iff_getElem.mp hv
  have:=h i
  rw [El,Array.getElem?_eq_getElem hi,ei] at this
  exact this
theorem Mp {n:Nat} {p:Array Nat} (h:In n p):∀ (f m:Nat),B9 n (λ_=>True) (kas_asc p f m)
 | 0,m=>trivial
 | f+1,m=>⟨h _,h _,λb=>by cases b; exact Mp h f (m+1); exact trivial⟩
theorem Gv {n:Nat} {p:Array Nat} (h:In n p) (hn:0<n) (i j:Nat):In n (kas_rev p i j):=QK h (mirror_perm _ _ _ _) hn
theorem ID {n:Nat} (hn:0<n):∀ (f:Nat) (p:Array Nat) (m q:Nat),In n p->B9 n (λr:Array Nat×Nat×Nat=>In n r.1) (kas_desc f p m q)
 | 0,p,m,q,h=>h
 | f+1,p,m,q,h=>⟨h _,h _,λb=>by
   cases b
   ·exact ⟨h _,h _,λc=>by
     cases c
     ·exact ID hn f p _ _ h
     ·exact h⟩
   ·show B9 n _ (if true=true then _ else _)
    rw [if_pos rfl]
    split
    ·exact ID hn f _ _ _ (Gv h hn _ _)
    ·exact ID hn f p _ _ h⟩
theorem Ng {n:Nat} (hn:0<n) {p:Array Nat} (h:In n p) (m r:Nat):B9 n (λr:Nat×Array Nat=>In n r.2) (kas_tail3 m r p):=by
 unfold kas_tail3
 refine FV (P:=λ_=>True) (λa _=>?_) _ (Mp (Gv h hn 0 m) _ _)
 exact Gv h hn 0 m
theorem P3 {n:Nat} (hn:0<n) {p:Array Nat} (h:In n p) (m r:Nat):B9 n (λr:Nat×Array Nat=>In n r.2) (kas_descPart m r p):=
 FV (λa ha=>by
  show B9 n _ (if _>0 then _ else _)
  split
  ·exact Ng hn (Gv ha hn _ _) _ _
  ·exact Ng hn ha _ _) _ (ID hn _ _ _ _ h)
theorem Zn {n:Nat} (hn:0<n) {p:Array Nat} (h:In n p) (r:Nat):B9 n (λr:Nat×Array Nat=>In n r.2) (kas_count r p):=
 FV (P:=λ_=>True) (λa _=>by
  show B9 n _ (if (_==_)=true then _ else _)
  split
  ·exact h
  ·split
   ·exact ⟨h _,h _,λb=>by
     cases b
     ·exact P3 hn (Gv h hn _ _) _ _
     ·exact h⟩
   ·exact P3 hn h _ _) _ (Mp h _ _)
theorem Le {n:Nat} {p:Array Nat} (h:In n p) (k:Nat):∀ (f l r:Nat),B9 n (λ_=>True) (kas_place p k f l r)
 | 0,l,r=>trivial
 | f+1,l,r=>by
  show B9 n _ (if l>=r then _ else _)
  split
  ·exact trivial
  ·exact ⟨h _,h _,λb=>by cases b; exact Le h k f _ _; exact Le h k f _ _⟩
theorem Qq {n:Nat} (hn:0<n):∀ (f:Nat) (p:Array Nat) (k:Nat),In n p->B9 n (λ_=>True) (kas_bin f p k)
 | 0,p,k,h=>trivial
 | f+1,p,k,h=>FV (P:=λ_=>True) (λa _=>Qq hn f _ _ (QK h (bubble_perm _ _ _) hn)) _ (Le h k _ _ _)
theorem Se {n:Nat} (hn:0<n):B9 n (λ_=>True) (kas_sort n):=
 FV (λa ha=>by
  show B9 n _ (if _<n then _ else _)
  split
  ·exact Qq hn _ _ _ ha
  ·exact trivial) _ (Zn hn (λk=>by
   rw [El]
   by_cases hk:k<n
   ·simp [hk]
   ·simp [hk,hn]) n)
section
variable (key:Nat->Int)
theorem Qp:∀ (f:Nat) (p:Array Nat) (k:Nat),k+f<=p.size->C3 key p k->∃ p',A6 (Bv key) (kas_bin f p k)=p'/\p'.Perm p/\p'.size=p.size/\C3 key p' (k+f)
 | 0,p,k,h,hs=>⟨p,rfl,Array.Perm.refl _,rfl,hs⟩
 | f+1,p,k,h,hs=>by
  obtain ⟨m,e,h1,h2,h3⟩:=Ld key p k hs k 0 k (Nat.zero_le _) (Nat.le_refl _) wF (λi hi=>by omega) (λi i1 i2=>by omega)
  have hK:∀ i,KQ key (bubble p k (k-m)) i=if i=m then KQ key p k else if m<i/\i<=k then KQ key p (i-1) else KQ key p i:=λi=>by
   unfold KQ
   rw [El,getElem?_bubble wF (k-m) wF i]
   rw [show k-(k-m)=m by omega]
   repeat' split
   all_goals rw [El]
  obtain ⟨p',e',g1,g2,g3⟩:=Qp f (bubble p k (k-m)) (k+1) (by rw [bubble_size]; omega) (λi j hij hj=>by
   rw [hK,hK]
   by_cases im:i=m
   ·rw [if_pos im]
    by_cases jm:j=m
    ·rw [if_pos jm]; exact Int.le_refl _
    ·rw [if_neg jm,if_pos wF]
     exact Int.le_of_lt (h3 (j-1) wF wF)
   ·rw [if_neg im]
    by_cases jm:j=m
    ·rw [if_pos jm,if_neg wF]
     exact h2 i wF
    ·rw [if_neg jm]
     by_cases hi:m<i/\i<=k
     ·rw [if_pos hi,if_pos wF]
      exact hs _ _ wF wF
     ·rw [if_neg hi]
      by_cases hj':m<j/\j<=k
      ·rw [if_pos hj']
       exact hs _ _ wF wF
      ·rw [if_neg hj']
       exact hs _ _ hij wF)
  refine ⟨p',?_,g1.trans (bubble_perm _ _ _),g2.trans (bubble_size _ _ _),?_⟩
  ·show A6 _ (KasT.bind _ _)=_
   rw [Fi,e]
   exact e'
  ·rw [show k+(f+1)=k+1+f by omega]; exact g3
theorem Sd {n:Nat} (hn:0<n):∃ p,A6 (Bv key) (kas_sort n)=p/\p.Perm (List.toArray (List.range n))/\p.size=n/\C3 key p n:=by
 obtain ⟨m,p,e,h1,h2,h3,h4,h5⟩:=Zm key (nrem:=n) (p:=List.toArray (List.range n)) hn (by simp)
 have hz:p.size=n:=by rw [h4]; simp
 by_cases hm:m<n
 ·obtain ⟨p',e',g1,g2,g3⟩:=Qp key (n-max m 1) p (max m 1) wF (by rw [show max m 1=m by omega]; exact h5)
  refine ⟨p',?_,g1.trans h3,g2.trans hz,by rw [show max m 1+(n-max m 1)=n by omega] at g3; exact g3⟩
  unfold kas_sort
  rw [Fi,e]
  show A6 _ (if m<n then _ else _)=_
  rw [if_pos hm]
  exact e'
 ·refine ⟨p,?_,h3,hz,by rw [show n=m by omega]; exact h5⟩
  unfold kas_sort
  rw [Fi,e]
  show A6 _ (if m<n then _ else _)=_
  rw [if_neg hm]
  rfl
end
def D9 {α:Type} (lt:α->α->Bool) (l:List α) (x:α):Int:=((l.filter λz=>lt z x).length:Nat)
theorem Oh {α:Type} {lt:α->α->Bool} {l:List α} {x y:α} (irr:∀ a,lt a a=false) (tr:∀ a b c,lt a b=true->lt b c=true->lt a c=true) (hx:x∈l) (h:lt x y=true):D9 lt l x<D9 lt l y:=by
 have key:∀ l:List α,(l.filter λz=>lt z x).length<=(l.filter λz=>lt z y).length:=λl=>by
  induction l with
  | nil=>simp
  | cons a l ih=>
   simp only [List.filter_cons]
   by_cases ha:lt a x=true
   ·rw [if_pos ha,if_pos (tr _ _ _ ha h)]; simp; exact ih
   ·rw [if_neg ha]; split
    ·simp; omega
    ·exact ih
 have strict:∀ l:List α,x∈l->(l.filter λz=>lt z x).length<(l.filter λz=>lt z y).length:=λl=>by
  induction l with
  | nil=>intro h; cases h
  | cons a l ih=>
   intro hm
   have base:=key l
   simp only [List.filter_cons]
   rcases List.mem_cons.mp hm with rfl | hm
   ·rw [if_neg (by rw [irr]; simp),if_pos h]; simp; omega
   ·have:=ih hm
    by_cases ha:lt a x=true
    ·rw [if_pos ha,if_pos (tr _ _ _ ha h)]; simp; exact this
    ·rw [if_neg ha]; split
     ·simp; omega
     ·exact this
 unfold D9
 have:=strict l hx
 omega
theorem Oi {α:Type} {lt:α->α->Bool} {l:List α} {x y:α} (irr:∀ a,lt a a=false) (tr:∀ a b c,lt a b=true->lt b c=true->lt a c=true) (tot:∀ a b,lt a b=false->lt b a=false->a=b) (hx:x∈l) (hy:y∈l):decide (D9 lt l x<D9 lt l y)=lt x y:=by
 cases h:lt x y with
 | true=>exact decide_eq_true (Oh irr tr hx h)
 | false=>
  refine decide_eq_false λz=>?_
  cases h':lt y x with
  | true=>have:=Oh irr tr hy h'; omega
  | false=>rw [tot _ _ h h'] at z; omega
abbrev FW (h:Heap) (a:Addr) (vs:List Value):Heap:=((h.update a (Obj.mapSeq λ_=>(#[]:Array Value))).push (seqObj "tuple" vs.toArray 0)).push (seqObj "list" #[] 0)
theorem XM {h:Heap} {a b:Addr} {vs:List Value} {o:Obj} (hb:b≠a) (e:h.get? b=some o):(FW h a vs).get? b=some o:=
 Heap.get?_push_of_some _ (Heap.get?_push_of_some _ ((Heap.get?_update_ne _ _ _ _ hb).trans e))
theorem XL {h:Heap} {a:Addr} {vs:List Value} {n:Nat} (e:h.get? a=some (seqObj "list" vs.toArray n)):∃ m,(h.update a (Obj.mapSeq λ_=>(#[]:Array Value))).get? a=some (seqObj "list" #[] m)/\(FW h a vs).get? a=some (seqObj "list" #[] m):=
 ⟨_,get?_update_seq e _,Heap.get?_push_of_some _ (Heap.get?_push_of_some _ (get?_update_seq e _))⟩
section
variable {prog:Program} {w:World} {A:Around} {E:Value->Shared->Prop} {s:Shared}
def Dv (p:Array Nat) (vs:List Value):List Value:=p.toList.map λi=>vs.getD i Value.none
def Mv (prog:Program) (w:World) (A:Around) (vs:List Value) (s:Shared) (G:SortSt->Prop):Prop:=
 ∀ E:Value->Shared->Prop,wpAny (model prog w) A (if vs.toArray.size<2 then pure general' else keyKind' vs.toArray)
  (λκ s1=>wpAny (model prog w) A ((if vs.toArray.size<2 then pure () else sortRuns').run (SortSt.mk' κ (vs.toArray.zip vs.toArray) #[] 7 none)) (λr s2=>s2=s/\failedOf r.2=none/\G r.2) E s1) E s
theorem XO {α β:Type} {M:Model} {c:Prop} [Decidable c] {x y:Sem α} {f:α->Sem β} {Q:β->Shared->Prop} (h:wpAny M A ((if c then x else y) >>= f) Q E s):wpAny M A (if c then x >>= f else y >>= f) Q E s:=by
 by_cases hc:c
 ·rw [if_pos hc] at h ⊢; exact h
 ·rw [if_neg hc] at h ⊢; exact h
theorem Sc {a:Addr} {vs:List Value} {n:Nat} {G:SortSt->Prop} {P:PySem.Fin->Shared->Prop} (ho:s.heap.get? a=some (seqObj "list" vs.toArray n)) (lim:vs.length<=sizeLine) (hr:Mv prog w A vs { s with heap:=FW s.heap a vs } G)
  (h:∀ st,G st->((arrOf st).map (·.2)).size<=sizeLine+1/\P (.done (.ret .none)) { s with heap:=sortedHeap s.heap a vs ((arrOf st).map (·.2)) }):wpAny (model prog w) A (Builtin.«list.sort» ⟨[.ref a],[]⟩) P E s:=by
 obtain ⟨m,g1,g2⟩:=XL ho
 rw [list_sort_plain]
 refine wpAny_bind (listItems_at ho rfl (wpAny_bind (listUpdate_at ho rfl ?_ (by simpa using lim) (Nat.zero_le _))))
 refine wpAny_bind (seqEpoch_at g1 rfl (wpAny_bind (wpAny_newTuple (wpAny_bind (wpAny_newList (wpAny_holding ?_) (Nat.zero_le _))) lim)))
 refine XO (wpAny_bind (wpAny_mono (hr E) (λκ s1 q1=>wpAny_bind (wpAny_mono q1 (λr s2 q2=>?_) λ_ _ e=>e)) λ_ _ e=>e))
 obtain ⟨⟨⟩,st⟩:=r
 obtain ⟨rfl,f0,gs⟩:=q2
 obtain ⟨z,q⟩:=h st gs
 refine wpAny_bind (seqEpoch_at g2 rfl (wpAny_bind (listUpdate_at g2 rfl ?_ (Nat.zero_le _) z)))
 dsimp only at f0
 rw [f0,bne_self_eq_false]
 exact wpAny_pure q
def Hb (prog:Program) (w:World) (A:Around) (vs:List Value) (key:Nat->Int) (s:Shared):Prop:=
 ∃ κ,(∀ (E:Value->Shared->Prop) (Q:SortKind->Shared->Prop),Q κ s->wpAny (model prog w) A (keyKind' vs.toArray) Q E s)/\∀ i j (C:Bool->Shared->Prop),i<vs.length->j<vs.length->C (decide (key i<key j)) s->wpAny (model prog w) A (keyLt' κ (vs.getD i Value.none) (vs.getD j Value.none)) C (λ_ _=>False) s
def IM (vs:List Value) (key:Nat->Int) (st:SortSt):Prop:=∃ p:Array Nat,p.Perm (List.toArray (List.range vs.length))/\p.size=vs.length/\C3 key p vs.length/\(arrOf st).map (·.2)=List.toArray (Dv p vs)
theorem TK {vs:List Value} {key:Nat->Int} (h:vs.length<2):Mv prog w A vs s (IM vs key):=λE=>by
 have c:vs.toArray.size<2:=by simpa using h
 simp only [if_pos c]
 refine wpAny_pure (wpAny_pure ⟨rfl,rfl,List.toArray (List.range vs.length),Array.Perm.refl _,by simp,λi j hij hj=>?_,?_⟩)
 ·rw [show i=j by omega]
  exact Int.le_refl _
 ·show (vs.toArray.zip vs.toArray).map (·.2)=_
  match vs,h with
  | [],_=>simp [Dv]
  | [v],_=>simp [Dv]
theorem TJ {vs:List Value} {key:Nat->Int} (h:2<=vs.length) (h64:vs.length<64) (cm:Hb prog w A vs key s):Mv prog w A vs s (IM vs key):=λE=>by
 have c:¬ vs.toArray.size<2:=by simpa using h
 simp only [if_neg c]
 obtain ⟨κ,kd,cm⟩:=cm
 obtain ⟨p,ep,g1,g2,g3⟩:=Sd key (n:=vs.length) wF
 refine kd _ _ (kat_run (ks:=vs) (Q:=λst s2=>s2=s/\failedOf st=none/\IM vs key st) (G:=λq s2=>s2=s/\q=p) rfl h h64 (λq st s2 _ a2 a3 a4=>⟨a4.1,a3,p,g1,g2,g3,?_⟩) (Pa (n:=vs.length) (lt:=Bv key) cm _ (Se wF) λ_=>⟨rfl,ep⟩))
 rw [a4.2] at a2
 exact kat_snds (ks:=vs) (vs:=vs) rfl a2
theorem Sf {a:Addr} {vs:List Value} {n:Nat} {key:Nat->Int} {P:PySem.Fin->Shared->Prop} (ho:s.heap.get? a=some (seqObj "list" vs.toArray n)) (h64:vs.length<64)
  (hk:2<=vs.length->Hb prog w A vs key { s with heap:=FW s.heap a vs })
  (h:∀ p:Array Nat,p.Perm (List.toArray (List.range vs.length))->p.size=vs.length->C3 key p vs.length->P (.done (.ret .none)) { s with heap:=sortedHeap s.heap a vs (List.toArray (Dv p vs)) }):wpAny (model prog w) A (Builtin.«list.sort» ⟨[.ref a],[]⟩) P E s:=by
 have lim:vs.length<=sizeLine:=by rw [sizeLine_eq]; omega
 refine Sc (G:=IM vs key) ho lim ?_ λst ⟨p,p1,p2,p3,e⟩=>?_
 ·by_cases c:vs.length<2
  ·exact TK c
  ·exact TJ wF h64 (hk wF)
 ·rw [e]
  exact ⟨by simp [Dv]; omega,h p p1 p2 p3⟩
theorem ZG {x:Value} {Q:Value->Shared->Prop}
  (hc:wpAny (model prog w) A.in1 (collect x) (λvs s1=>∃ key,vs.length<64/\(2<=vs.length->Hb prog w A.in1.in1 vs key { s1 with heap:=FW (s1.heap.push (seqObj "list" vs.toArray 0)) s1.heap.objs.size vs }) /\
   ∀ p:Array Nat,p.Perm (List.toArray (List.range vs.length))->p.size=vs.length->C3 key p vs.length->Q (.ref s1.heap.objs.size) { s1 with heap:=sortedHeap (s1.heap.push (seqObj "list" vs.toArray 0)) s1.heap.objs.size vs (List.toArray (Dv p vs)) }) E s):wpAny (model prog w) A (call (.builtin "sorted") [x]) Q E s:=by
 have body:wpAny (model prog w) A.in1 (Builtin.«sorted» ⟨[x],[]⟩) (λfin s'=>∃ v,fin=.done (.ret v)/\Q v s') E s:=by
  refine wpAny_bind (m:=checkCount "sorted" 1 1 _) (wpAny_pure (wpAny_bind (Al hc λvs s1 ⟨key,h64,hk,hq⟩=>wpAny_bind (wpAny_newList (wpAny_bind (wpAny_holding ?_)) (by rw [sizeLine_eq]; omega)))))
  have own:(s1.heap.push (seqObj "list" vs.toArray 0)).get? s1.heap.objs.size=some (seqObj "list" vs.toArray 0):=Heap.get?_push_size _ rfl
  exact wpAny_call_entry slot_list_sort ⟨_,own,rfl⟩ entry_list_sort (Sf (s:={ s1 with heap:=s1.heap.push (seqObj "list" vs.toArray 0) }) own h64 hk λp p1 p2 p3=>⟨_,rfl,wpAny_pure ⟨_,rfl,hq p p1 p2 p3⟩⟩) (args_list_sort _)
 exact Calls.call_function_entry kind_sorted plain_sorted entry_sorted (args_sorted1 _) body
end
theorem Fm {prog:Program} {w:World} {A:Around} {s:Shared} {id:String} {b:Builtin} {args:Args} {R:Result->Shared->Prop} (pl:plainId id=true) (en:entryFor table id=some b)
  (h:wpAny (model prog w) A.in1 (b args) (λfin s'=>match fin with | .done f=>R (.ok f) s' | .again c=>c.quiet=true/\codeAny (model prog w) A c R s') (λe s'=>R (.error e) s') s):codeAny (model prog w) A (.builtin id args) R s:=
 codeAny_builtin en (by rw [Around.under_plainId pl]; exact h)
abbrev Dk (its:List Value) (c:Nat):Obj:={ cls:=.type "list",dict:=none,data:=.seq its.toArray c,slots:=#[] }
theorem Z3 {M:Model} {A:Around} {E:Value->Shared->Prop} {s:Shared} {α:Type} {t:Sem α} {Q:α->Shared->Prop} {F:Shared->Prop} {u:Sem Unit} (hu:u=pure ()) (h:wpAny M A u (λ_ s2=>F s2) E s) (k:∀ s2,F s2->wpAny M A t Q E s2):wpAny M A t Q E s:=by
 subst hu
 have:=wpAny_bind (f:=λ_=>t) (wpAny_mono h (λ_ s2 q=>k s2 q) λ_ _ e=>e)
 simpa using this
theorem Pp {X:Cx} {pins:List (Addr×Obj)} {H:Hp} {b S:Addr} {o:Obj} (h:BS X pins H b) (hb:S≠b):BS X ((S,o)::pins) H b:=by
 obtain ⟨f0,f1,f2,f3,f4,f5⟩:=h
 refine ⟨f0,f1,f2,f3,f4,λp hp=>?_⟩
 simp only [List.mem_append,List.mem_cons] at hp
 rcases hp with q | rfl | q
 ·exact f5 p (List.mem_append_left _ q)
 ·exact hb
 ·exact f5 p (List.mem_append_right _ q)
theorem QI {X:Cx} {pins:List (Addr×Obj)} {σ:L2.St} {H:Hp} {s:Shared} {q:Addr×Obj} (I:L2.Inv X (q::pins) σ H s):L2.Inv X pins σ H s:=I.pins_of λp hp=>I.pin p (List.mem_append_right _ (List.mem_cons_of_mem _ hp))
structure G0 (X:Cx) (pins:List (Addr×Obj)) (σ:L2.St) (O:Ae) (G1:Wd) (xs:List D) (S:Addr) (i:Nat) (s:Shared) (H:Hp) (G:Wd) (vs:List V) (its:List Value) (c:Nat):Prop where
 inv:L2.Inv X ((S,Dk its c)::pins) σ H s
 ext:Ah G1 G
 sa:SA X.K G H O
 iss:Aj X.K G (xs.take i) vs
 vals:Ar vs its
section
variable {X:Cx} {A:Around} {tg:Expr} {J:It} {fp:List Addr} {it:Addr} {tn:Nat->Heap->Prop} {pins:List (Addr×Obj)} {σ:L2.St} {O:Ae} {G1:Wd} {xs:List D} {S:Addr} {res:Value} {R:Result->Shared->Prop}
theorem G0.more {i:Nat} {s s2:Shared} {H H2:Hp} {G G2:Wd} {vs:List V} {its:List Value} {c:Nat} {x:D} {xv:V} {u:Value} (g:G0 X pins σ O G1 xs S i s H G vs its c) (I2:L2.Inv X ((S,Dk its c)::pins) σ H2 s2) (hSs:X.s₀.heap.objs.size<=S) (hSC:∀ x c,X.env.cells.lookup x=some c->c≠S) (hSp:∀ p∈X.pn++pins,p.1≠S) (hx:xs[i]?=some x) (e2:Ah G G2) (sa2:SA X.K G2 H2 O) (ix:Is X.K G2 x xv) (r:AN xv u) :
  G0 X pins σ O G1 xs S (i+1) { s2 with heap:=s2.heap.update S (Obj.mapSeq (·.push u)) } H2 G2 (vs++[xv]) (its++[u]) (c+1):=by
 have p:=I2.pin (S,Dk its c) (List.mem_append_right _ List.mem_cons_self)
 have Iq:L2.Inv X pins σ H2 { s2 with heap:=s2.heap.update S (Obj.mapSeq (·.push u)) }:=(QI I2).turned (t':=s2.toks) (λb o hb q=>(Heap.get?_update_other _ _ (Ne.symm hb)).trans q) p.2.1 p.2.2.1 (.inr hSs) hSC hSp
 refine ⟨Iq.pins_of λq hq=>?_,g.ext.trans e2,sa2,?_,g.vals.append (.cons r .nil)⟩
 ·rcases List.mem_cons.mp hq with rfl | hq
  ·refine ⟨?_,p.2.1,p.2.2.1,p.2.2.2.1,λv z=>by cases z⟩
   rw [Heap.get?_update_self _ p.1 rfl]
   simp [Obj.mapSeq,Dk]
  ·exact Iq.pin q (List.mem_append_right _ hq)
 ·rw [List.take_add_one,hx]
  exact (g.iss.ext e2).append (.cons ix .nil)
theorem Pl (hA:X.A=A.in1) (hc:X.calm=true) (T:EJ X.prog X.w X.K tg J fp it tn) (hgo:∀ v,letOwnedTupleGo tg (.ref it) v=pure ()) (Yi:DD X.K G1 J xs) (hsz:xs.length<=sizeLine) (hSs:X.s₀.heap.objs.size<=S) (hSC:∀ x c,X.env.cells.lookup x=some c->c≠S) (hSp:∀ p∈X.pn++pins,p.1≠S)
  (fpS:∀ (H:Hp),(∀ b∈fp,H b=none)->∀ b∈fp,BS X pins H b) (hSf:S∉fp)
  (fin:∀ s H G vs its c,G0 X pins σ O G1 xs S xs.length s H G vs its c->R (.ok (.ret res)) s) :
  ∀ (k i:Nat) (s:Shared) (H:Hp) (G:Wd) (vs:List V) (its:List Value) (c:Nat),i+k=xs.length->G0 X pins σ O G1 xs S i s H G vs its c->tn i s.heap->(∀ b∈fp,H b=none)->
   codeAny (model X.prog X.w) A (.builtin "list.extend.loop" ⟨[.ref S,.ref it,res],[]⟩) R s
 | 0,i,s,H,G,vs,its,c,hk,g,st,fr=>by
  have hi:i=xs.length:=by omega
  subst hi
  have fps:∀ b∈fp,BS X ((S,Dk its c)::pins) H b:=λb hb=>Pp (fpS H fr b hb) λz=>hSf (z ▸ hb)
  refine Fm F.plain_extend_loop F.entry_extend_loop (hA ▸ wpAny_bind (Al (T.done X rfl rfl rfl hc xs.length _ s σ H _ g.inv fps st (Yi.stop _ H (g.ext.g.trans g.sa.sub) (Nat.le_refl _))) λr s' ⟨hr,I'⟩=>?_))
  subst hr
  exact wpAny_pure (fin s' H G vs its c ⟨I',g.ext,g.sa,g.iss,g.vals⟩)
 | k+1,i,s,H,G,vs,its,c,hk,g,st,fr=>by
  have hi:i<xs.length:=by omega
  have fps:∀ b∈fp,BS X ((S,Dk its c)::pins) H b:=λb hb=>Pp (fpS H fr b hb) λz=>hSf (z ▸ hb)
  have hl:its.length=i:=by
   rw [<- g.vals.length,<- g.iss.length,List.length_take]; omega
  refine Fm F.plain_extend_loop F.entry_extend_loop (hA ▸ wpAny_bind (Al (T.item X rfl rfl rfl hc i _ s σ H _ g.inv fps st (Yi.go i H (g.ext.g.trans g.sa.sub) hi)) λr s1 ⟨u,hr,h1⟩=>?_))
  subst hr
  refine Z3 (hgo u) h1 λs2 ⟨xv,H2,I2,r2,y2,st2,fr2⟩=>?_
  obtain ⟨x,G2,hx,e2,sa2,ix⟩:=Yi.yld i xv H H2 G O g.ext g.sa y2 hi
  have p2:=I2.pin (S,Dk its c) (List.mem_append_right _ List.mem_cons_self)
  refine wpAny_bind (listUpdate_at p2.1 rfl (wpAny_pure ⟨plainId_quiet F.plain_extend_loop _,Pl hA hc T hgo Yi hsz hSs hSC hSp fpS hSf fin k (i+1) _ H2 G2 _ _ (c+1) wF (g.more I2 hSs hSC hSp hx e2 sa2 ix r2) ?_ fr2⟩) (by simp; omega) (by simp; omega))
  exact T.keep _ _ _ st2 λb hb o q=>(Heap.get?_update_other _ _ (λz=>hSf (by rw [z]; exact hb))).trans q
end
theorem QT:typeLookup (.type "zip") "__len__" = pure none:=by rw [typeLookup_type,builtinLookup_eq_fast]; kernel_rfl
theorem QU:typeLookup (.type "zip") "__length_hint__" = pure none:=by rw [typeLookup_type,builtinLookup_eq_fast]; kernel_rfl
structure IQ (T:String):Prop where
 len:typeLookup (.type T) "__len__" = pure none
 hint:typeLookup (.type T) "__length_hint__" = pure none
 nl:(Value.type T==Value.type "list")=false
 nt:(Value.type T==Value.type "tuple")=false
theorem WS:IQ "zip" :=⟨QT,QU,by decide,by decide⟩
theorem Zt {prog:Program} {w:World} {A:Around} {s:Shared} {E:Value->Shared->Prop} {it:Addr} {Ty:String} {Q:List Value->Shared->Prop} (hN:IQ Ty) (hT:s.TypeIs (.ref it) Ty)
  (hi:∀ (h:Heap) (F:Value->Shared->Prop) (E':Value->Shared->Prop),(∀ c o,s.heap.get? c=some o->h.get? c=some o)->F (.ref it) { s with heap:=h }->wpAny (model prog w) A.in1 (pyIter (.ref it)) F E' { s with heap:=h })
  (k:∀ (h:Heap) (c:Nat) (R:Result->Shared->Prop),(∀ b o,s.heap.get? b=some o->h.get? b=some o)->h.get? s.heap.objs.size=some (Dk [] c)->(∀ s' its c',s'.heap.get? s.heap.objs.size=some (Dk its c')->Q its s'->R (.ok (.ret (.ref s.heap.objs.size))) s')->
   codeAny (model prog w) A (.builtin "list.extend.loop" ⟨[.ref s.heap.objs.size,.ref it,.ref s.heap.objs.size],[]⟩) R { s with heap:=h }) :
  wpAny (model prog w) A (collect (.ref it)) Q E s:=by
 obtain ⟨h,g,d,tk,os⟩:=s
 obtain ⟨o,ho,hc⟩:=hT
 have lt:it<h.objs.size:=Heap.lt_size ho
 have ne:h.objs.size≠it:=Nat.ne_of_gt lt
 dsimp only at hi k
 wp_walk
 refine Fm F.plain_proto_collect F.entry_proto_collect ?_
 wp_walk
 have up:∀ b u,h.get? b=some u->(h.push { cls:=.type "list",data:=.seq #[] }).get? b=some u:=λb u e=>Heap.get?_push_of_some _ e
 have own:(h.push { cls:=.type "list",data:=.seq #[] }).get? h.objs.size=some { cls:=.type "list",data:=.seq #[] }:=Heap.get?_push_size _ rfl
 have ty:Shared.TypeIs ⟨h.push { cls:=.type "list",data:=.seq #[] },g,d,tk,os⟩ (.ref it) Ty:=⟨o,up _ _ ho,hc⟩
 have len:=hN.len
 have hint:=hN.hint
 have nl:=hN.nl
 have nt:=hN.nt
 refine ⟨plainId_quiet F.plain_list_iadd _,Fm F.plain_list_iadd F.entry_list_iadd ?_⟩
 have sr:Builtin.List.listSameRef (.ref h.objs.size) (.ref it)=false:=beq_eq_false_iff_ne.mpr ne
 wp_walk using hi _ _ _ up
 have g1:=Heap.get?_update_self (Obj.mapSeq λx=>x.push Value.none) own rfl
 refine ⟨plainId_quiet F.plain_extend_loop _,k _ _ _ (λb u e=>?_) (Heap.get?_update_self (Obj.mapSeq λx=>x.pop) g1 rfl) λs' its c' e q=>wpAny_bind (wpAny_load e (wpAny_pure q))⟩
 have nb:h.objs.size≠b:=λz=>Nat.lt_irrefl _ (z ▸ Heap.lt_size e)
 rw [Heap.get?_update_other _ _ nb,Heap.get?_update_other _ _ nb]
 exact up b u e
theorem Zs {X:Cx} {A:Around} {tg:Expr} {J:It} {fp:List Addr} {it:Addr} {tn:Nat->Heap->Prop} {pins:List (Addr×Obj)} {σ:L2.St} {O:Ae} {G1:Wd} {xs:List D} {s:Shared} {H:Hp} {E:Value->Shared->Prop} {Ty:String} {Q:List Value->Shared->Prop}
  (hA:X.A=A.in1) (hc:X.calm=true) (T:EJ X.prog X.w X.K tg J fp it tn) (hgo:∀ v,letOwnedTupleGo tg (.ref it) v=pure ()) (Yi:DD X.K G1 J xs) (hsz:xs.length<=sizeLine) (hN:IQ Ty) (hT:s.TypeIs (.ref it) Ty) (I:L2.Inv X pins σ H s) (st:tn 0 s.heap) (f:∀ b∈fp,BS X pins H b) (sa:SA X.K G1 H O)
  (hQ:∀ (s':Shared) (H':Hp) (G':Wd) (vs:List V) (its:List Value),L2.Inv X pins σ H' s'->Ah G1 G'->SA X.K G' H' O->Aj X.K G' xs vs->Ar vs its->Q its s'):wpAny (model X.prog X.w) A (collect (.ref it)) Q E s:=by
 have out:s.heap.objs.size∉fp:=λm=>let ⟨o,e,_⟩:=T.obj 0 _ st _ m; Nat.lt_irrefl _ (Heap.lt_size e)
 obtain ⟨g0,g1,g2,g3,g4,g5⟩:BS X pins H s.heap.objs.size:=I.fpOk (Nat.le_refl _) (I.hok.fresh (Nat.le_refl _))
 refine Zt hN hT (λh F E' up q=>T.self A.in1 0 _ _ _ (T.keep 0 _ _ st λb _ o e=>up b o e) q) λh c R up own kr=>?_
 have I3:L2.Inv X pins σ H { s with heap:=h,toks:=s.toks }:=I.kept up
 refine Pl hA hc T hgo Yi hsz I.sz g4 g5 (λH' fr b hb=>⟨fr b hb,(f b hb).2⟩) out (λs' H' G' vs its c' g=>?_) xs.length 0 _ H G1 [] [] c wF ⟨I3.pins_of λp hp=>?_,Ah.refl _,sa,.nil,.nil⟩ (T.keep 0 _ _ st λb _ o e=>up b o e) λb hb=>(f b hb).1
 ·exact kr s' its c' (g.inv.pin (_,Dk its c') (List.mem_append_right _ List.mem_cons_self)).1 (hQ s' H' G' vs its (QI g.inv) g.ext g.sa (by have:=g.iss; rwa [List.take_length] at this) g.vals)
 ·rcases List.mem_cons.mp hp with rfl | q
  ·exact ⟨own,g0,g1,g2,λv z=>by cases z⟩
  ·exact I3.pin p (List.mem_append_right _ q)
structure D0 {α:Type} (lt:α->α->Bool):Prop where
 irr:∀ a,lt a a=false
 tr:∀ a b c,lt a b=true->lt b c=true->lt a c=true
 tot:∀ a b,lt a b=false->lt b a=false->a=b
def B0 {α:Type} (lt:α->α->Bool) (l:List α):List α:=l.mergeSort λa b=>!lt b a
theorem Hm {α:Type} (lt:α->α->Bool) (l:List α):(B0 lt l).Perm l:=List.mergeSort_perm _ _
theorem D0.trle {α:Type} {lt:α->α->Bool} (o:D0 lt):∀ a b c:α,(!lt b a)=true->(!lt c b)=true->(!lt c a)=true:=λa b c h1 h2=>by
 have h1:lt b a=false:=by simpa using h1
 have h2:lt c b=false:=by simpa using h2
 cases h:lt c a with
 | false=>rfl
 | true=>
  cases h3:lt a b with
  | true=>rw [o.tr _ _ _ h h3] at h2; cases h2
  | false=>rw [o.tot _ _ h3 h1] at h; rw [h] at h2; cases h2
theorem D0.totle {α:Type} {lt:α->α->Bool} (o:D0 lt):∀ a b:α,((!lt b a)||(!lt a b))=true:=λa b=>by
 cases h:lt b a with
 | false=>rfl
 | true=>
  cases h2:lt a b with
  | false=>rfl
  | true=>have:=o.tr _ _ _ h h2; rw [o.irr] at this; cases this
theorem Np {α:Type} {lt:α->α->Bool} (o:D0 lt) (l:List α):(B0 lt l).Pairwise λa b=>(!lt b a)=true:=List.pairwise_mergeSort o.trle o.totle l
theorem R5 {α:Type} {lt:α->α->Bool} (o:D0 lt) {l q:List α} (h1:q.Perm l) (h2:q.Pairwise λa b=>(!lt b a)=true):q=B0 lt l:=
 List.Perm.eq_of_pairwise (λa b _ _ x y=>o.tot a b (by simpa using y) (by simpa using x)) h2 (Np o l) (h1.trans (Hm lt l).symm)
theorem UB {p:Array Nat} {n:Nat} (g:p.Perm (List.toArray (List.range n))):∀ i∈p.toList,i<n:=λi hi=>by
 have:i∈List.toArray (List.range n):=g.mem_iff.mp (Array.mem_toList_iff.mp hi)
 simpa using this
theorem UC {α:Type} [Inhabited α] {p:Array Nat} {ps:List α} (g:p.Perm (List.toArray (List.range ps.length))):(p.toList.map λi=>ps.getD i default).Perm ps:=by
 have e:(List.range ps.length).map (λi=>ps.getD i default)=ps:=by
  apply List.ext_getElem
  ·simp
  ·intro i h1 h2
   simp
   rw [List.getElem?_eq_getElem h2]
   rfl
 have q:p.toList.Perm (List.range ps.length):=by
  have:=Array.perm_iff_toList_perm.mp g
  simpa using this
 have:=q.map λi=>ps.getD i default
 rw [e] at this
 exact this
theorem Sb {α:Type} [Inhabited α] {lt:α->α->Bool} (o:D0 lt) {K:PySem.W.Frag} {G:Wd} {ps:List α} {f:α->D} {vs:List V} {its:List Value} {key:Nat->Int} (hkey:∀ i,i<ps.length->key i=D9 lt ps (ps.getD i default)) (is:Aj K G (ps.map f) vs) (va:Ar vs its)
  {p:Array Nat} (g1:p.Perm (List.toArray (List.range ps.length))) (g2:p.size=ps.length) (g3:C3 key p ps.length):∃ us,Ar us (Dv p its)/\Aj K G ((B0 lt ps).map f) us/\us.length=ps.length:=by
 have hb:=UB g1
 have e1:=is.length
 have e2:=va.length
 rw [List.length_map] at e1
 refine ⟨p.toList.map λi=>vs.getD i .non,?_,?_,by simp [g2]⟩
 ·unfold Dv
  have:∀ l:List Nat,(∀ i∈l,i<ps.length)->Ar (l.map λi=>vs.getD i .non) (l.map λi=>its.getD i Value.none):=λl=>by
   induction l with
   | nil=>intro _; exact .nil
   | cons a l ih=>
    intro h
    have ha:=h a List.mem_cons_self
    obtain ⟨u,hu,ru⟩:=va.get (i:=a) (x:=vs[a]'wF) (by simp)
    refine .cons ?_ (ih λi hi=>h i (List.mem_cons_of_mem _ hi))
    dsimp only
    rw [List.getD_eq_getElem?_getD,List.getD_eq_getElem?_getD,List.getElem?_eq_getElem (show a<vs.length by omega),hu]
    exact ru
  exact this _ hb
 ·rw [<- R5 o (UC g1) ?_]
  ·have:∀ l:List Nat,(∀ i∈l,i<ps.length)->Aj K G ((l.map λi=>ps.getD i default).map f) (l.map λi=>vs.getD i .non):=λl=>by
    induction l with
    | nil=>intro _; exact .nil
    | cons a l ih=>
     intro h
     have ha:=h a List.mem_cons_self
     obtain ⟨v,hv,iv⟩:=is.get (i:=a) (d:=f ps[a]) (by simp [ha])
     refine .cons ?_ (ih λi hi=>h i (List.mem_cons_of_mem _ hi))
     dsimp only
     rw [List.getD_eq_getElem?_getD,List.getD_eq_getElem?_getD,List.getElem?_eq_getElem ha,hv]
     exact iv
   exact this _ hb
  ·rw [List.pairwise_iff_getElem]
   intro i j hi hj hij
   rw [List.length_map,Array.length_toList] at hi hj
   have kq:∀ i (h:i<p.size),KQ key p i=D9 lt ps (ps.getD p[i] default):=λi h=>by
    unfold KQ
    rw [El,Array.getElem?_eq_getElem h,Option.getD_some]
    exact hkey _ (hb _ (Array.mem_toList_iff.mpr (Array.getElem_mem h)))
   have k:=g3 i j (Nat.le_of_lt hij) wF
   rw [kq i hi,kq j hj] at k
   rw [List.getElem_map,List.getElem_map,Array.getElem_toList,Array.getElem_toList]
   have mem:∀ i (h:i<p.size),ps.getD p[i] default∈ps:=λi h=>by
    have:=hb _ (Array.mem_toList_iff.mpr (Array.getElem_mem h))
    rw [List.getD_eq_getElem?_getD,List.getElem?_eq_getElem this]
    exact List.getElem_mem _
   have:=Oi o.irr o.tr o.tot (mem j hj) (mem i hi)
   rw [<- this]
   simp only [Bool.not_eq_true',decide_eq_false_iff_not]
   omega
def AQ (a b:Int×Int):Bool:=decide (a.1<b.1\/(a.1=b.1/\a.2<b.2))
theorem GB:D0 AQ:=⟨λa=>by simp [AQ],λa b c h1 h2=>by simp [AQ] at *; omega,λa b h1 h2=>by
 simp [AQ] at *
 obtain ⟨a1,a2⟩:=a; obtain ⟨b1,b2⟩:=b
 simp at *
 omega⟩
abbrev pD (p:Int×Int):D:=.tup [.int p.1,.int p.2]
def MJ {α:Type} [Inhabited α] (X:Cx) (lt:α->α->Bool) (f:α->D):Prop:=
 ∀ (A:Around) (G:Wd) (H:Hp) (pins:List (Addr×Obj)) (σ:L2.St) (s:Shared) (s':Shared) (O:Ae) (ps:List α) (vs:List V) (its:List Value),L2.Inv X pins σ H s->SA X.K G H O->Aj X.K G (ps.map f) vs->Ar vs its->2<=ps.length->(∀ b o,s.heap.get? b=some o->s'.heap.get? b=some o)->
  Hb X.prog X.w A its (λi=>D9 lt ps (ps.getD i default)) s'
theorem Pn {α:Type} {l:List α} {i:Nat} (h:i<l.length) (d:α):l.getD i d=l[i]:=by rw [List.getD_eq_getElem?_getD,List.getElem?_eq_getElem h]; rfl
theorem Qv {α:Type} {l:List α} {i:Nat} (h:i<l.length) (d:α):l.getD i d∈l:=by rw [Pn h]; exact List.getElem_mem _
theorem Zz {X:Cx}:MJ X AQ pD:=λA G H pins σ s s' O ps vs its I sa is va h2 up=>by
 have e1:=is.length
 have e2:=va.length
 rw [List.length_map] at e1
 have at':∀ i,i<ps.length->∃ a t u,its.getD i Value.none=.ref a/\∃ o n,s'.heap.get? a=some o/\o.cls=.type "tuple" /\ o.data=.seq #[.int (ps.getD i default).1 t,.int (ps.getD i default).2 u] n:=λi hi=>by
  obtain ⟨v,hv,iv⟩:=is.get (i:=i) (d:=pD ps[i]) (by simp [hi])
  obtain ⟨w,hw,rw'⟩:=va.get hv
  cases iv with
  | tup h r=>
  cases r with | cons j1 r=>cases r with | cons j2 r=>
  cases r
  cases j1
  cases j2
  cases rw'
  obtain ⟨its2,v2,⟨o,g1,g2,n,g3⟩,_⟩:=I.tuple (C6 sa.sub h)
  obtain ⟨u1,u2,rfl,q1,q2⟩:=Ds v2
  obtain ⟨t,rfl⟩:=q1
  obtain ⟨t',rfl⟩:=q2
  refine ⟨_,t,t',by rw [List.getD_eq_getElem?_getD,hw]; rfl,o,n,up _ _ g1,g2,?_⟩
  rw [Pn hi]
  exact g3
 refine ⟨tuples' (Value.type "int" != Value.type "tuple"),λE Q hq=>?_,λi j C hi hj hC=>?_⟩
 ·have tp:∀ (l:List Nat),(∀ i∈l,i<ps.length)->∃ fs,KatTups s'.heap (l.map λi=>its.getD i Value.none) fs/\fs.length=l.length/\∀ f∈fs,∃ k t,f=Value.int k t:=λl=>by
   induction l with
   | nil=>intro _; exact ⟨[],.nil,rfl,λf h=>by cases h⟩
   | cons a l ih=>
    intro h
    obtain ⟨fs,f1,f2,f3⟩:=ih λi hi=>h i (List.mem_cons_of_mem _ hi)
    obtain ⟨b,t,u,e,o,n,g1,g2,g3⟩:=at' a (h a List.mem_cons_self)
    refine ⟨.int (ps.getD a default).1 t::fs,?_,by simp [f2],λf hf=>?_⟩
    ·show KatTups s'.heap (its.getD a Value.none::_) _
     rw [e]
     exact .cons g1 g2 g3 rfl f1
    ·rcases List.mem_cons.mp hf with q | q
     ·exact ⟨_,_,q⟩
     ·exact f3 f q
  obtain ⟨fs,f1,f2,f3⟩:=tp (List.range ps.length) λi hi=>List.mem_range.mp hi
  have ei:((List.range ps.length).map λi=>its.getD i Value.none)=its:=by
   apply List.ext_getElem
   ·simp; omega
   ·intro i h1 h3
    simp
    rw [List.getElem?_eq_getElem h3]; rfl
  rw [ei] at f1
  refine kat_kind f1 (by rw [f2,List.length_range]; omega) (λf hf=>?_) wE hq
  obtain ⟨k,t,rfl⟩:=f3 f hf
  exact .now
 ·obtain ⟨a,t,u,ea,oa,na,a1,a2,a3⟩:=at' i wF
  obtain ⟨b,t',u',eb,ob,nb,b1,b2,b3⟩:=at' j wF
  have hr:=Oi GB.irr GB.tr GB.tot (Qv (show i<ps.length by omega) default) (Qv (show j<ps.length by omega) default)
  rw [hr] at hC
  rw [ea,eb]
  generalize ps.getD i default=x at hC a3
  generalize ps.getD j default=y at hC b3
  refine kat_lt a1 a3 b1 b3 ?_
  show KatLex _ _ _ _ _ _ [(Value.int x.1 t,Value.int y.1 t'),(Value.int x.2 u,Value.int y.2 u')] 0 s'
  refine kat_cons (wpAny_eqBool_int ?_)
  by_cases h1:x.1=y.1
  ·rw [show (x.1==y.1)=true by simpa using h1]
   refine kat_yes (kat_cons (wpAny_eqBool_int ?_))
   by_cases h2:x.2=y.2
   ·rw [show (x.2==y.2)=true by simpa using h2]
    refine kat_yes (kat_nil ?_)
    have:AQ x y=false:=by unfold AQ; exact decide_eq_false wF
    rw [this] at hC
    exact hC
   ·rw [show (x.2==y.2)=false by simpa using h2]
    refine kat_no (kat_one _ _ (lt_int ?_))
    have:AQ x y=decide (x.2<y.2):=by unfold AQ; exact decide_eq_decide.mpr wF
    rw [this] at hC
    exact hC
  ·rw [show (x.1==y.1)=false by simpa using h1]
   refine kat_no ?_
   have e:((Value.type "int" != Value.type "tuple")&&(0:Nat)==0)=true:=by decide
   rw [e]
   refine oneLt_int ?_
   have:AQ x y=decide (x.1<y.1):=by unfold AQ; exact decide_eq_decide.mpr wF
   rw [this] at hC
   exact hC
section
variable {X:Cx} {ρ:Ai} {O:Ae} {e a b c:Expr} {es:List Expr} {d da db:D} {ds:List D} {R:D->Ae->Prop} {pos p:Pos} {x:Str} {xs ys:List D} {α:Type} [Inhabited α] {lt:α->α->Bool} {f:α->D} {ps:List α}
theorem Sa (o:D0 lt) (cm:MJ X lt f) {pins:List (Addr×Obj)} {σ:L2.St} {s1:Shared} {H1:Hp} {G1:Wd} {vs:List V} {its:List Value} {Q:VK} (I:L2.Inv X pins σ H1 s1) (sa:SA X.K G1 H1 O) (is:Aj X.K G1 (ps.map f) vs) (va:Ar vs its) (h64:ps.length<64)
  (hq:∀ v G' H',Ah G1 G'->SA X.K G' H' O->Is X.K G' (.lst ((B0 lt ps).map f)) v->Q v H') :
  ∃ key,its.length<64/\(2<=its.length->Hb X.prog X.w X.A.in1.in1 its key { s1 with heap:=FW (s1.heap.push (seqObj "list" its.toArray 0)) s1.heap.objs.size its }) /\
   ∀ p:Array Nat,p.Perm (List.toArray (List.range its.length))->p.size=its.length->C3 key p its.length->EP X pins σ Q (.ref s1.heap.objs.size) { s1 with heap:=sortedHeap (s1.heap.push (seqObj "list" its.toArray 0)) s1.heap.objs.size its (List.toArray (Dv p its)) }:=by
 have e1:=is.length
 have e2:=va.length
 rw [List.length_map] at e1
 have el:its.length=ps.length:=by omega
 refine ⟨λi=>D9 lt ps (ps.getD i default),by omega,λh2=>?_,λp p1 p2 p3=>?_⟩
 ·refine cm _ G1 H1 pins σ s1 _ O ps vs its I sa is va wF λb ob q=>?_
  exact XM (Nat.ne_of_lt (Heap.lt_size q)) (Heap.get?_push_of_some _ q)
 ·rw [el] at p1 p2 p3
  obtain ⟨us,u1,u2,u3⟩:=Sb o (λi _=>rfl) is va p1 p2 p3
  obtain ⟨ec,hD⟩:=sortedHeap_at (h:=s1.heap.push (seqObj "list" its.toArray 0)) (a:=s1.heap.objs.size) (vs:=its) (n:=0) (out:=List.toArray (Dv p its)) (Heap.get?_push_size _ rfl)
  have fr:H1 s1.heap.objs.size=none:=I.hok.fresh (Nat.le_refl _)
  obtain ⟨e3,s3⟩:=sa.laid (o:=.lst us) fr
  refine ⟨.ref s1.heap.objs.size,Ap H1 s1.heap.objs.size (.lst us),?_,rfl,hq _ _ _ e3 s3 (.lst AW (u2.ext e3))⟩
  refine I.laid (t':=s1.toks) (λb u q=>?_) (Nat.le_refl _) ⟨by rw [u3,sizeLine_eq]; omega,Dv p its,ec,u1,hD⟩
  have hb:b<s1.heap.objs.size:=Heap.lt_size q
  rw [sortedHeap_old (Nat.ne_of_lt hb) (by rw [Heap.size_push]; exact Nat.lt_succ_of_lt hb)]
  exact Heap.get?_push_of_some _ q
theorem YA (o:D0 lt) (cm:∀ Y,MJ Y lt f) {Ty:String} (hN:IQ Ty) (hz:F9 X ρ O e (ps.map f) Ty) (h64:ps.length<64) (hm:X.mg "sorted" = none) (hc:X.calm=true:=by rfl) (hg:Gl X "sorted" := by rfl) (hs:starEach [e] X.env=[(false,eval e X.env)]:=by rfl) :
  Ad X ρ O (.Call (.Name "sorted" p) [e] [] pos) (.lst ((B0 lt ps).map f)):=λG pins s σ H Q I ⟨h1,h2,h3⟩=>by
 refine wpAny_Call_Name_kw (EE I hg hm boot_sorted ?_)
 refine PyProof.Rows.callWith_builtin1 ?_ (by rw [hs]; rfl) rfl
 rw [hs]
 show wpAny _ _ (spliced ((false,eval e X.env)::backTo pos [])) _ _ s
 refine Calls.spliced_cons (Al (hz G (.Name "" pos) pins s σ H (λJ H1=>∃ G1,Ah G G1/\SA X.K G1 H1 O/\DD X.K G1 J (ps.map f)) I h1 h2 λJ G' H' q1 q2 q3=>⟨G',q1,q2,q3⟩) λv s1 ⟨⟨it,fp,tn,J,H1,hv,I1,T,st,fo,G1,e1,sa1,Yi⟩,hT⟩=>Calls.spliced_nil ?_)
 subst hv
 refine ZG (Zs (X:=Cx.wA X X.A.in1.in1) (A:=X.A.in1) rfl hc T (λv=>rfl) Yi (by rw [List.length_map,sizeLine_eq]; omega) hN hT (Q1w I1 rfl rfl) st fo sa1 λs' H' G' vs its I' e' sa' is' va'=>?_)
 exact Sa o (cm X) (Q1v I' I.ok) sa' is' va' h64 λv G'' H'' q1 q2 q3=>h3 v G'' H'' (e1.trans (e'.trans q1)) q2 q3
end
mutual
def De:D->PyData
 | .non=>.none | .bl b=>.bool b | .int i=>.int i | .str x=>.str x | .tup xs=>.tuple (Du xs) | .lst xs=>.list (Du xs) | .scr xs=>.list (Du xs) | .ptr _=>.none | .ty _=>.none | .fn _=>.none | .dct _ _=>.none
def Du:List D->List PyData
 | []=>[]
 | x::xs=>De x::Du xs
end
mutual
def B1:D->Bool
 | .non=>true | .bl _=>true | .int _=>true | .str x=>PyData.strOk x | .tup xs=>C7 xs | .lst xs=>C7 xs | .scr xs=>C7 xs | .ptr _=>false | .ty _=>false | .fn _=>false | .dct _ _=>false
def C7:List D->Bool
 | []=>true
 | x::xs=>B1 x&&C7 xs
end
mutual
def CV:D->Nat
 | .tup xs=>DB xs+1 | .lst xs=>DB xs+1 | .scr xs=>DB xs+1 | .non=>0 | .bl _=>0 | .int _=>0 | .str _=>0 | .ptr _=>0 | .ty _=>0 | .fn _=>0 | .dct _ _=>0
def DB:List D->Nat
 | []=>0
 | x::xs=>max (CV x) (DB xs)
end
def CU (a b:D):Bool:=PyData.eqv (De a) (De b)
def PX (a b:List D):Bool:=PyData.eqvAll (Du a) (Du b)
mutual
theorem GS:∀ d:D,(De d).depth=CV d
 | .non=>rfl | .bl _=>rfl | .int _=>rfl | .str _=>rfl | .ptr _=>rfl | .ty _=>rfl | .fn _=>rfl | .dct _ _=>rfl
 | .tup xs=>by simp only [De,PyData.depth,CV]; rw [IB xs]
 | .lst xs=>by simp only [De,PyData.depth,CV]; rw [IB xs]
 | .scr xs=>by simp only [De,PyData.depth,CV]; rw [IB xs]
theorem IB:∀ xs:List D,PyData.depthAll (Du xs)=DB xs
 | []=>rfl
 | x::xs=>by simp only [Du,PyData.depthAll,DB]; rw [GS x,IB xs]
end
mutual
theorem Gy:∀ d:D,B1 d=true->(De d).canLay0=true
 | .non,_=>rfl | .bl _,_=>rfl | .int _,_=>rfl | .str x,h=>by simp only [B1] at h; simp only [De,PyData.canLay0]; exact h | .ptr _,h=>nomatch h | .ty _,h=>nomatch h | .fn _,h=>nomatch h | .dct _ _,h=>nomatch h
 | .tup xs,h=>HI xs h
 | .lst xs,h=>HI xs h
 | .scr xs,h=>HI xs h
theorem HI:∀ xs:List D,C7 xs=true->PyData.canLayAll0 (Du xs)=true
 | [],_=>rfl
 | x::xs,h=>by
  have h:(B1 x&&C7 xs)=true:=h
  rw [Bool.and_eq_true] at h
  show (PyData.canLay0 (De x)&&PyData.canLayAll0 (Du xs))=true
  rw [Gy x h.1,HI xs h.2]; rfl
end
section
variable {X:Cx} {pins:List (Addr×Obj)} {σ:L2.St} {H:Hp} {s:Shared} {G:Wd}
mutual
theorem Og (I:L2.Inv X pins σ H s) (sub:Bm G.g H):∀ {d:D} {v:V} {u:Value},Is X.K G d v->AN v u->B1 d=true->∃ as,Reads s.heap u (De d) as
 | _,_,_,.non,r,_=>by cases r; exact ⟨[],.none⟩
 | _,_,_,.bl b,r,_=>by cases r; exact ⟨[],.bool b⟩
 | _,_,_,.int i,r,_=>by obtain ⟨t,rfl⟩:=r; exact ⟨[],.int i t⟩
 | _,_,_,.str x,r,_=>by obtain ⟨t,rfl⟩:=r; exact ⟨[],.str x t⟩
 | _,_,_,.tup h q,r,p=>by
  cases r
  obtain ⟨its,va,⟨o,g1,g2,n,g3⟩,_⟩:=I.tuple (C6 sub h)
  obtain ⟨as,ra⟩:=Gw I sub q va p
  exact ⟨as,.tuple g1 g2 g3 (by simpa using ra)⟩
 | _,_,_,.lst h q,r,p=>by
  cases r
  obtain ⟨its,va,pl,_⟩:=I.list (A0.of (sub _ _ h))
  obtain ⟨o,g1,g2,n,g3⟩:=pl.isList
  obtain ⟨as,ra⟩:=Gw I sub q va p
  exact ⟨_,.list g1 g2 g3 (by simpa using ra)⟩
 | _,_,_,.scr h q,r,p=>by
  cases r
  obtain ⟨its,va,pl,_⟩:=I.list (sub.seq h)
  obtain ⟨o,g1,g2,n,g3⟩:=pl.isList
  obtain ⟨as,ra⟩:=Gw I sub q va p
  exact ⟨_,.list g1 g2 g3 (by simpa using ra)⟩
 | _,_,_,.ptr _ _,_,p=>by simp [B1] at p
 | _,_,_,.ty _,_,p=>by simp [B1] at p
 | _,_,_,.fn _,_,p=>by simp [B1] at p
 | _,_,_,.dct _ _ _,_,p=>by simp [B1] at p
theorem Gw (I:L2.Inv X pins σ H s) (sub:Bm G.g H):∀ {ds:List D} {vs:List V} {us:List Value},Aj X.K G ds vs->Ar vs us->C7 ds=true->∃ as,ReadsAll s.heap us (Du ds) as
 | _,_,_,.nil,.nil,_=>⟨[],.nil⟩
 | d::ds,_,_,.cons i is,.cons r rs,p=>by
  have p:(B1 d&&C7 ds)=true:=p
  rw [Bool.and_eq_true] at p
  obtain ⟨as,ra⟩:=Og I sub i r p.1
  obtain ⟨bs,rb⟩:=Gw I sub is rs p.2
  exact ⟨_,.cons ra rb⟩
end
end
def RD (O:Ae) (d e:D):Prop:=e=d\/∃ n xs,d=.ptr n/\O[n]?=some (some (.lst xs))/\e=.lst xs
theorem RD.reads {X:Cx} {pins:List (Addr×Obj)} {σ:L2.St} {H:Hp} {s:Shared} {G:Wd} {O:Ae} {d e:D} {v:V} {u:Value} (h:RD O d e) (I:L2.Inv X pins σ H s) (sa:SA X.K G H O) (i:Is X.K G d v) (r:AN v u) (p:B1 e=true):∃ as,Reads s.heap u (De e) as:=by
 rcases h with rfl | ⟨n,xs,rfl,h,rfl⟩
 ·exact Og I sa.sub i r p
 ·cases i with | ptr _ ha=>
  cases r
  obtain ⟨a,g0,_,vs,g1,g2⟩:=sa.mt n _ h
  have:=Option.some.inj (ha.symm.trans g0)
  subst this
  obtain ⟨its,va,pl,_⟩:=I.list (A0.of g1)
  obtain ⟨o,q1,q2,k,q3⟩:=pl.isList
  obtain ⟨as,ra⟩:=Gw I sa.sub g2 va p
  exact ⟨_,.list q1 q2 q3 (by simpa using ra)⟩
section
variable {X:Cx} {ρ:Ai} {O:Ae} {e a b c:Expr} {es:List Expr} {d da db ea eb:D} {ds xs ys:List D} {R:D->Ae->Prop} {pos p:Pos} {x:Str} {k:Nat}
theorem Qf (hr:AM k X.A) (ha:RD O da ea) (hb:RD O db eb) (pa:B1 ea=true) (pb:B1 eb=true) (hd:min (CV ea) (CV eb)<=60):AY X O (compareOp .Eq) da db (.bl (CU ea eb)):=λG pins s σ H x y v u Q I rx ry ⟨h1,h2,h3,h4⟩=>by
 obtain ⟨as,ra⟩:=ha.reads I h1 h2 rx pa
 obtain ⟨bs,rb⟩:=hb.reads I h1 h3 ry pb
 have hu:=hr.units
 exact PySem.SeqAt.compareEq_reads ra rb (Gy _ pa) (Gy _ pb) (by rw [GS,GS]; omega) ⟨.bl _,H,I,rfl,h4 _ G H (Ah.refl _) h1 (.bl _)⟩
theorem Qe (hr:AM k X.A) (ha:RD O da ea) (hb:RD O db eb) (pa:B1 ea=true) (pb:B1 eb=true) (hd:min (CV ea) (CV eb)<=60):AY X O (compareOp .NotEq) da db (.bl (!CU ea eb)):=λG pins s σ H x y v u Q I rx ry ⟨h1,h2,h3,h4⟩=>by
 obtain ⟨as,ra⟩:=ha.reads I h1 h2 rx pa
 obtain ⟨bs,rb⟩:=hb.reads I h1 h3 ry pb
 have hu:=hr.units
 exact PySem.SeqAt.compareNe_reads ra rb (Gy _ pa) (Gy _ pb) (by rw [GS,GS]; omega) ⟨.bl _,H,I,rfl,h4 _ G H (Ah.refl _) h1 (.bl _)⟩
end
theorem UI {l:List D} (h:∀ d∈l,B1 d=true):C7 l=true:=by
 induction l with
 | nil=>rfl
 | cons x xs ih=>
  show (B1 x&&C7 xs)=true
  rw [h x List.mem_cons_self,ih λd hd=>h d (List.mem_cons_of_mem _ hd)]; rfl
theorem UH {α:Type} {f:α->D} {l:List α} (h:∀ a∈l,B1 (f a)=true):C7 (l.map f)=true:=UI λd hd=>by obtain ⟨a,ha,rfl⟩:=List.mem_map.mp hd; exact h a ha
theorem Zf {l:List D} {k:Nat} (h:∀ d∈l,CV d<=k):DB l<=k:=by
 induction l with
 | nil=>exact Nat.zero_le _
 | cons x xs ih=>
  show max (CV x) (DB xs)<=k
  have:=h x List.mem_cons_self
  have:=ih λd hd=>h d (List.mem_cons_of_mem _ hd)
  omega
theorem Ze {α:Type} {f:α->D} {l:List α} {k:Nat} (h:∀ a∈l,CV (f a)<=k):DB (l.map f)<=k:=Zf λd hd=>by obtain ⟨a,ha,rfl⟩:=List.mem_map.mp hd; exact h a ha
theorem PV {α:Type} {f:α->D} [DecidableEq α] (h:∀ a b,CU (f a) (f b)=decide (a=b)):∀ l m:List α,PX (l.map f) (m.map f)=decide (l=m)
 | [],[]=>rfl
 | [],_::_=>rfl
 | _::_,[]=>rfl
 | a::l,b::m=>by
  show (CU (f a) (f b)&&PX (l.map f) (m.map f))=_
  rw [h a b,PV h l m]
  by_cases h1:a=b
  ·by_cases h2:l=m
   ·simp [h1,h2]
   ·simp [h1,h2]
  ·simp [h1]
theorem PY (a b:Int):CU (.int a) (.int b)=decide (a=b):=by
 show (a==b)=_
 by_cases h:a=b
 ·simp [h]
 ·simp [h]
theorem Y2 (a b:List Int):CU (.tup (a.map D.int)) (.tup (b.map D.int))=decide (a=b):=PV PY a b
theorem UJ (a:List Int):C7 (a.map D.int)=true:=UH λ_ _=>rfl
theorem Zg (a:List Int):DB (a.map D.int)<=0:=Ze λ_ _=>Nat.le_refl _
theorem Il {α:Type} {l:List α} {i:Nat} (h:i<l.length) (d:α):l.getD i d=l[i]:=by simp [h]
section
variable {X:Cx} {ρ:Ai} {O:Ae} {e a b c:Expr} {es:List Expr} {d da db ea eb:D} {ds xs ys:List D} {R:D->Ae->Prop} {pos p:Pos} {x:Str} {k:Nat}
theorem LT.sq {K:PySem.W.Frag} {G:Wd} {H:Hp} {O:Ae} {d:D} {xs:List D} {v:V} (h:LT O d xs) (s:SA K G H O) (i:Is K G d v):∃ k a vs,v=.ref a/\Sq k K H a vs/\Aj K G xs vs:=by
 rcases h with h | rfl
 ·obtain ⟨a,vs,rfl,q,r⟩:=h.sq s i; exact ⟨true,a,vs,rfl,q,r⟩
 ·obtain ⟨a,vs,rfl,q,r⟩:=Dt s i; exact ⟨false,a,vs,rfl,q,r⟩
theorem UA (ns:List Int):preSum (λi=>ns.getD i 0) ns.length=ns.sum:=by rw [preSum_getD,List.take_length]
theorem Nn {k:Bool} {h:Heap} {l:Addr} {ys:Array Value} (q:Bz k h l ys):l<h.objs.size:=by
 cases k with
 | true=>obtain ⟨o,g,_⟩:=(q:h.IsList l ys); exact Heap.lt_size g
 | false=>obtain ⟨o,g,_⟩:=(q:h.IsTuple l ys); exact Heap.lt_size g
theorem ZD {prog:Program} {w:World} {A:Around} {E:Value->Shared->Prop} {s:Shared} {k:Bool} {l:Addr} {its:List Value} {ns:List Int} {Q:Value->Shared->Prop} (hh:A.handled=none) (q:Bz k s.heap l its.toArray) (hv:∀ (i:Nat) (v:Value),its[i]?=some v->∃ t,v=.int (ns.getD i 0) t) (hn:ns.length=its.length)
  (h:∀ h' tk t,(∀ b o,s.heap.get? b=some o->h'.get? b=some o)->Q (.int ns.sum t) { s with heap:=h',toks:=tk }):wpAny (model prog w) A (call (.builtin "sum") [.ref l]) Q E s:=by
 have hl:=Nn q
 have fin:∀ (h2:Heap),(∀ b o,s.heap.get? b=some o->h2.get? b=some o)->∀ h' tk t',(∀ b o,b∉[s.heap.objs.size]->h2.get? b=some o->h'.get? b=some o)->Q (.int (preSum (λi=>ns.getD i 0) its.toArray.size) t') { s with heap:=h',toks:=tk }:=λh2 up h' tk t' kp=>by
  rw [show its.toArray.size=ns.length by simp [hn],UA]
  exact h h' tk t' λb o e=>kp b o (by simpa using Nat.ne_of_lt (Heap.lt_size e)) (up b o e)
 cases k with
 | true=>
  refine call_sum_walkG (wpAny_pyIter_list q ⟨s.heap.objs.size,[s.heap.objs.size,l],[s.heap.objs.size],its.toArray.size,λi v=>its.toArray[i]?=some v,λi h=>h.IsListIter s.heap.objs.size l i/\h.IsList l its.toArray,λi=>ns.getD i 0,rfl,Walks.list (A:=A.in1) hh _ l (Nat.ne_of_lt hl) its.toArray,⟨⟨_,Heap.get?_push_size _ rfl,rfl,rfl⟩,Heap.IsList.push q _⟩,λb hb=>?_,λi v e=>hv i v (by simpa using e),fin _ λb o e=>Heap.get?_push_of_some _ e⟩)
  rw [Heap.size_push]
  rcases List.mem_cons.mp hb with rfl | hb
  ·exact Nat.lt_succ_self _
  ·rw [List.mem_singleton.mp hb]; exact Nat.lt_succ_of_lt hl
 | false=>
  refine call_sum_walkG (wpAny_pyIter_tuple q ⟨s.heap.objs.size,[s.heap.objs.size,l],[s.heap.objs.size],its.toArray.size,λi v=>its.toArray[i]?=some v,λi h=>h.IsTupleIter s.heap.objs.size l i/\h.IsTuple l its.toArray,λi=>ns.getD i 0,rfl,Walks.tuple (A:=A.in1) hh _ l (Nat.ne_of_lt hl) its.toArray,⟨⟨_,Heap.get?_push_size _ rfl,rfl,rfl⟩,(Bz.at (k:=false) q λo e=>Heap.get?_push_of_some _ e:Bz false _ l _)⟩,λb hb=>?_,λi v e=>hv i v (by simpa using e),fin _ λb o e=>Heap.get?_push_of_some _ e⟩)
  rw [Heap.size_push]
  rcases List.mem_cons.mp hb with rfl | hb
  ·exact Nat.lt_succ_self _
  ·rw [List.mem_singleton.mp hb]; exact Nat.lt_succ_of_lt hl
theorem Mg {ns:List Int} (h:LT O d (ns.map D.int)) (hc:X.calm=true:=by rfl):BP X O (.builtin "sum") [d] (.int ns.sum):=λG pins s σ H vs us Q I r ⟨h1,h2,h3⟩=>by
 cases h2 with | cons i r2=>
 cases r2
 obtain ⟨kk,ad,ws,rfl,q,is⟩:=h.sq h1 i
 obtain ⟨u,rfl,ru⟩:=DI r
 cases ru
 obtain ⟨its,va,sq,_⟩:=DG I q
 have e:=is.toInts
 subst e
 have el:=va.length
 rw [List.length_map] at el
 refine ZD (ns:=ns) (I.ok.hd hc) sq (λi v hv=>?_) el λh' tk t kp=>⟨.int ns.sum,H,I.kept kp,⟨t,rfl⟩,h3 _ G H (Ah.refl _) h1 (.int _)⟩
 have hi:i<ns.length:=by rw [el]; exact (List.getElem?_eq_some_iff.mp hv).1
 obtain ⟨w,hw,rw'⟩:=va.get (i:=i) (x:=.int ns[i]) (by simp [hi])
 rw [hv] at hw
 cases hw
 obtain ⟨t,e⟩:=rw'
 exact ⟨t,by rw [e,Il hi]⟩
theorem ZO {prog:Program} {w:World} {A:Around} {E:Value->Shared->Prop} {s:Shared} {k:Bool} {l:Addr} {its:List Value} {bs:List Bool} {Q:Value->Shared->Prop} (hh:A.handled=none) (q:Bz k s.heap l its.toArray) (hv:∀ (i:Nat) (v:Value),its[i]?=some v->v=.bool (bs.getD i true)) (hn:bs.length=its.length) (al:Bool)
  (h:∀ h' tk,(∀ b o,s.heap.get? b=some o->h'.get? b=some o)->Q (.bool (if al then bs.all id else bs.any id)) { s with heap:=h',toks:=tk }):wpAny (model prog w) A (call (.builtin (if al then "all" else "any")) [.ref l]) Q E s:=by
 have hl:=Nn q
 have ea:(List.range its.toArray.size).all (λi=>bs.getD i true)=bs.all id:=by
  have:bs=(List.range bs.length).map λi=>bs.getD i true:=by
   apply List.ext_getElem
   ·simp
   ·intro i h1 h2; simp; rw [List.getElem?_eq_getElem h1]; rfl
  conv=>rhs; rw [this,List.all_map]
  rw [show its.toArray.size=bs.length by simp [hn]]
  rfl
 have eb:(List.range its.toArray.size).any (λi=>bs.getD i true)=bs.any id:=by
  have:bs=(List.range bs.length).map λi=>bs.getD i true:=by
   apply List.ext_getElem
   ·simp
   ·intro i h1 h2; simp; rw [List.getElem?_eq_getElem h1]; rfl
  conv=>rhs; rw [this,List.any_map]
  rw [show its.toArray.size=bs.length by simp [hn]]
  rfl
 have kp':∀ (h2:Heap),(∀ b o,s.heap.get? b=some o->h2.get? b=some o)->∀ h':Heap,(∀ b o,b∉[s.heap.objs.size]->h2.get? b=some o->h'.get? b=some o)->∀ b o,s.heap.get? b=some o->h'.get? b=some o:=λh2 up h' kp b o e=>kp b o (by simpa using Nat.ne_of_lt (Heap.lt_size e)) (up b o e)
 have tr:TruthOf prog w A.in1 (λi v=>its.toArray[i]?=some v) (λi=>bs.getD i true):=λi v s Q E hP hQ=>by
  rw [hv i v (by simpa using hP)]; exact wpAny_truthy_bool hQ
 cases k with
 | true=>
  have W:=Walks.list (prog:=prog) (w:=w) (A:=A.in1) hh s.heap.objs.size l (Nat.ne_of_lt hl) its.toArray
  have st:(s.heap.push { cls:=.type "list_iterator",data:=.fields #[.ref l,.int 0 0] }).IsListIter s.heap.objs.size l 0/\(s.heap.push { cls:=.type "list_iterator",data:=.fields #[.ref l,.int 0 0] }).IsList l its.toArray:=⟨⟨_,Heap.get?_push_size _ rfl,rfl,rfl⟩,Heap.IsList.push q _⟩
  cases al with
  | true=>exact call_all_walk (wpAny_pyIter_list q ⟨_,_,_,_,_,_,_,rfl,W,st,tr,λh' tk kp=>by rw [ea]; exact h h' tk (kp' _ (λb o e=>Heap.get?_push_of_some _ e) h' kp)⟩)
  | false=>exact call_any_walk (wpAny_pyIter_list q ⟨_,_,_,_,_,_,_,rfl,W,st,tr,λh' tk kp=>by rw [eb]; exact h h' tk (kp' _ (λb o e=>Heap.get?_push_of_some _ e) h' kp)⟩)
 | false=>
  have W:=Walks.tuple (prog:=prog) (w:=w) (A:=A.in1) hh s.heap.objs.size l (Nat.ne_of_lt hl) its.toArray
  have st:(s.heap.push { cls:=.type "tuple_iterator",data:=.fields #[.ref l,.int 0 0] }).IsTupleIter s.heap.objs.size l 0/\(s.heap.push { cls:=.type "tuple_iterator",data:=.fields #[.ref l,.int 0 0] }).IsTuple l its.toArray:=⟨⟨_,Heap.get?_push_size _ rfl,rfl,rfl⟩,(Bz.at (k:=false) q λo e=>Heap.get?_push_of_some _ e:Bz false _ l _)⟩
  cases al with
  | true=>exact call_all_walk (wpAny_pyIter_tuple q ⟨_,_,_,_,_,_,_,rfl,W,st,tr,λh' tk kp=>by rw [ea]; exact h h' tk (kp' _ (λb o e=>Heap.get?_push_of_some _ e) h' kp)⟩)
  | false=>exact call_any_walk (wpAny_pyIter_tuple q ⟨_,_,_,_,_,_,_,rfl,W,st,tr,λh' tk kp=>by rw [eb]; exact h h' tk (kp' _ (λb o e=>Heap.get?_push_of_some _ e) h' kp)⟩)
theorem Qj {bs:List Bool} (al:Bool) (h:LT O d (bs.map D.bl)) (hc:X.calm=true):BP X O (.builtin (if al then "all" else "any")) [d] (.bl (if al then bs.all id else bs.any id)):=λG pins s σ H vs us Q I r ⟨h1,h2,h3⟩=>by
 cases h2 with | cons i r2=>
 cases r2
 obtain ⟨kk,ad,ws,rfl,q,is⟩:=h.sq h1 i
 obtain ⟨u,rfl,ru⟩:=DI r
 cases ru
 obtain ⟨its,va,sq,_⟩:=DG I q
 have e1:=is.length
 have e2:=va.length
 rw [List.length_map] at e1
 refine ZO (bs:=bs) (I.ok.hd hc) sq (λi v hv=>?_) wF al λh' tk kp=>⟨.bl _,H,I.kept kp,rfl,h3 _ G H (Ah.refl _) h1 (.bl _)⟩
 have hi:i<bs.length:=by rw [e1,e2]; exact (List.getElem?_eq_some_iff.mp hv).1
 obtain ⟨w,hw,iw⟩:=is.get (i:=i) (d:=.bl bs[i]) (by simp [hi])
 obtain ⟨z,hz,rz⟩:=va.get hw
 rw [hv] at hz
 cases hz
 cases iw
 rw [Il hi]
 exact rz
theorem IG {bs:List Bool} (h:LT O d (bs.map D.bl)) (hc:X.calm=true:=by rfl):BP X O (.builtin "all") [d] (.bl (bs.all id)):=Qj true h hc
theorem ZV {bs:List Bool} (h:LT O d (bs.map D.bl)) (hc:X.calm=true:=by rfl):BP X O (.builtin "any") [d] (.bl (bs.any id)):=Qj false h hc
theorem L9 {i:Int} {ns:List Int} (h:LT O d (ns.map D.int)):AY X O (compareOp .In) (.int i) d (.bl (decide (i∈ns))):=.of Vk λG v u H Q s h1 h2 k=>by
  cases h1
  obtain ⟨kk,ad,ws,rfl,q,is⟩:=h.sq s h2
  have e:=is.toInts
  subst e
  have ev:Ig (.int i) (ns.map V.int)=decide (i∈ns):=by
    unfold Ig
    rw [List.any_map]
    by_cases hm:i∈ns
    ·
      rw [decide_eq_true hm,List.any_eq_true]
      exact ⟨i,hm,by simp [DU]⟩
    ·
      rw [decide_eq_false hm,List.any_eq_false]
      intro y hy
      simp only [Function.comp,DU]
      intro z
      exact hm (by
                   have:y=i:=by simpa using z
                   rw [<- this]; exact hy)
  refine ⟨ad,ns.map V.int,rfl,?_,rfl,by simp [Em],by rw [ev]; exact k _ G H (Ah.refl _) s (.bl _)⟩
  cases kk with
  | true=>exact .inl q
  | false=>exact .inr q
theorem Rt {prog:Program} {w:World} {A:Around} {E:Value->Shared->Prop} {s:Shared} {t sl:Addr} {its:Array Value} {vl vu:Value} {lo hi:Option Int} {Q:Value->Shared->Prop} (ht:IsTup s.heap t its) (hs:s.heap.IsSliceOf sl vl vu .none) (pl:IsPart vl lo) (pu:IsPart vu hi)
  (hw:HT.sIx its.size 0 lo=0/\HT.sIx its.size its.size hi=its.size) (h:Q (.ref t) s):wpAny (model prog w) A (getItem (.ref t) (.ref sl)) Q E s:=by
 obtain ⟨osl,hos,hcs,hds⟩:=id hs
 have hTs:s.TypeIs (.ref sl) "slice" :=⟨osl,hos,hcs⟩
 unfold getItem
 try with_reducible refine wpAny_holding ?_
 first | refine wpAny_bind (wpAny_pure ?_) | skip
 refine wpAny_bind (wpAny_sequenceKey ht.typeIs wE (wpAny_bind (wpAny_callSpecial?_slot (name:=Str.ofString "__getitem__") ht.typeIs PyProof.Rows.slot_tuple_getitem (wpAny_call_entry PyProof.Rows.slot_tuple_getitem ht.typeIs entry_tuple_getitem ?_ (args_tuple_getitem _ _)))))
 show wpAny (model prog w) _ (Builtin.Tuple.tupleItemsOf (.ref t) >>= _) _ _ s
 refine wpAny_bind (tupleItemsOf_ ht (wpAny_bind (wpAny_typeOf hTs ?_)))
 rw [if_pos wE]
 refine wpAny_bind (HT.sliceApplied_gen hs pl pu ?_)
 have hyes:((((HT.sIx its.size 0 lo:Nat):Int)==0&&(1:Int)==1&&(HT.sIx its.size its.size hi-HT.sIx its.size 0 lo)==its.size)=true):=by
  rw [hw.1,hw.2]; simp
 show wpAny (model prog w) _ (if (((HT.sIx its.size 0 lo:Nat):Int)==0&&(1:Int)==1&&(HT.sIx its.size its.size hi-HT.sIx its.size 0 lo)==its.size)=true then _ else _) _ _ s
 rw [if_pos hyes]
 first
  | exact wpAny_pure ⟨_,rfl,wpAny_pure h⟩
  | exact wpAny_bind (wpAny_rule (wpAny_pure ⟨_,rfl,wpAny_pure h⟩))
  | (refine wpAny_bind (wpAny_typeOf ht.typeIs ?_); rw [if_pos wE]; exact wpAny_pure ⟨_,rfl,wpAny_pure h⟩)
  | (refine wpAny_bind (wpAny_bind (wpAny_typeOf ht.typeIs (wpAny_pure ?_))); rw [if_pos wE]; exact wpAny_bind (wpAny_rule (wpAny_pure ⟨_,rfl,wpAny_pure h⟩)))
def T1 (K:PySem.W.Frag):V->Option Int->Option Int->Hp->VK->Prop:=λx lo hi H Q=>∃ a xs,x=.ref a/\A1 K H a xs/\(HT.sIx xs.length 0 lo=0/\HT.sIx xs.length xs.length hi=xs.length)/\Q (.ref a) H
theorem So:Fs X (T1 X.K):=λpins s σ H x v vl vu lo hi sl Q I rx hs pl pu h=>by
 obtain ⟨a,xs,rfl,hx,hw,q⟩:=h
 cases rx
 obtain ⟨its,r,ht,hz⟩:=I.tuple hx
 have hlen:its.toArray.size=xs.length:=by rw [List.size_toArray]; exact r.length.symm
 exact ⟨"tuple",_,PyProof.Rows.slot_tuple_getitem.lookup,ht.typeIs,Rt ht hs pl pu (by rw [hlen]; exact hw) ⟨.ref a,H,I,rfl,q⟩⟩
theorem Sn {xs:List D} {l u:Option Int} (h:HT.sIx xs.length 0 l=0/\HT.sIx xs.length xs.length u=xs.length):EY xs l u=xs:=by
 unfold EY
 rw [h.1,h.2]
 simp
theorem YB {xs:List D} {lo hi:Option Expr} {l u:Option Int} {p2:Pos} (ha:Ad X ρ O a (.tup xs)) (hl:Ga X ρ O lo l) (hh:Ga X ρ O hi u):Ad X ρ O (.Subscript a (.Slice lo hi none p2) pos) (.tup (EY xs l u)):=λG=>
 PE.imp (UV (Sr.or So) (ha G) (tl:=λσ H Q=>∃ G1,SA X.K G1 H O/\Au X.K G1 σ ρ/\∀ G' H',Ah G1 G'->SA X.K G' H' O->Q l H') (λpins s σ H Q I ⟨G1,q⟩=>hl G1 pins s σ H Q I q)
  (th:=λσ H Q=>∃ G1,SA X.K G1 H O/\Au X.K G1 σ ρ/\∀ G' H',Ah G1 G'->SA X.K G' H' O->Q u H') (λpins s σ H Q I ⟨G1,q⟩=>hh G1 pins s σ H Q I q)) λσ H Q ⟨h1,h2,h3⟩=>
  ⟨h1,h2,λv G1 H1 e1 s1 i1=>⟨G1,s1,h2.ext e1,λG2 H2 e2 s2=>⟨G2,s2,(h2.ext e1).ext e2,λG3 H3 e3 s3=>by
   have i3:=i1.ext (e2.trans e3)
   obtain ⟨q,vs,rfl,q1,r⟩:=Dt s3 i3
   by_cases hw:HT.sIx vs.length 0 l=0/\HT.sIx vs.length vs.length u=vs.length
   ·refine .inr ⟨q,vs,rfl,q1,hw,h3 _ _ _ ((e1.trans e2).trans e3) s3 ?_⟩
    rw [Sn (by rw [r.length]; exact hw)]
    exact i3
   ·refine .inl ⟨q,vs,rfl,q1,hw,λz hz=>?_⟩
    obtain ⟨e4,s4⟩:=s3.laid (o:=.tup (Fl vs l u)) hz
    exact h3 _ _ _ (((e1.trans e2).trans e3).trans e4) s4 (.tup (A1.of AW) ((Zk r).ext e4))⟩⟩⟩
theorem WR {xs ys:List D} (hx:xs≠[]) (hz:xs.length+ys.length<=sizeLine):AY X O (binaryOp .Add) (.tup xs) (.tup ys) (.tup (xs++ys)):=
 .of Vo λG v u H Q s h1 h2 k=>by
  have j1:=h1
  obtain ⟨q1,vs,rfl,g1,r1⟩:=Dt s h1
  obtain ⟨q2,us,rfl,g2,r2⟩:=Dt s h2
  refine ⟨_,_,_,_,rfl,rfl,g1,g2,?_,by rw [<- r1.length,<- r2.length]; exact hz,λz=>?_,λ_ p hp=>?_⟩
  ·intro z; apply hx; have:=r1.length; rw [z] at this; exact List.eq_nil_of_length_eq_zero this
  ·subst z
   cases r2
   rw [List.append_nil] at k
   exact k _ G H (Ah.refl _) s j1
  ·obtain ⟨e4,s4⟩:=s.laid (o:=.tup _) hp
   exact k _ _ _ e4 s4 (.tup (A1.of AW) ((r1.append r2).ext e4))
end
end DL
namespace DL
open PySem PySem.Spec PyProof.Rows L2
mutual
def HP:D->Bool
 | .ptr _=>false
 | .tup xs=>FR xs
 | .lst xs=>FR xs
 | .scr xs=>FR xs
 | .dct _ xs=>FR xs
 | _=>true
def FR:List D->Bool
 | []=>true
 | d::ds=>HP d&&FR ds
end
section
variable {K:PySem.W.Frag} {G G':Wd} {t:List Addr}
mutual
theorem Is.cut:∀ {d:D} {v:V},Is K G' d v->HP d=true->∀ l,Is K ⟨G'.g,l⟩ d v
 | _,_,.non,_,l=>.non
 | _,_,.bl b,_,l=>.bl b
 | _,_,.int i,_,l=>.int i
 | _,_,.str x,_,l=>.str x
 | _,_,.tup h r,e,l=>.tup h (Aj.cut r e l)
 | _,_,.lst h r,e,l=>.lst h (Aj.cut r e l)
 | _,_,.scr h r,e,l=>.scr h (Aj.cut r e l)
 | _,_,.ptr n h,e,l=>by cases e
 | _,_,.ty n,_,l=>.ty n
 | _,_,.fn n,_,l=>.fn n
 | _,_,.dct h hl r,e,l=>.dct h hl (Aj.cut r e l)
theorem Aj.cut:∀ {ds:List D} {vs:List V},Aj K G' ds vs->FR ds=true->∀ l,Aj K ⟨G'.g,l⟩ ds vs
 | _,_,.nil,_,l=>.nil
 | _,_,.cons h r,e,l=>by
  have e:=(Bool.and_eq_true _ _).mp e
  exact .cons (Is.cut h e.1 l) (Aj.cut r e.2 l)
end
mutual
theorem Is.back (e:G'.l=G.l++t):∀ {d:D} {v v0:V},Is K G d v0->Is K G' d v->Is K ⟨G'.g,G.l⟩ d v
 | _,_,_,.non,h=>by cases h; exact .non
 | _,_,_,.bl b,h=>by cases h; exact .bl b
 | _,_,_,.int i,h=>by cases h; exact .int i
 | _,_,_,.str x,h=>by cases h; exact .str x
 | _,_,_,.tup _ r0,h=>by cases h with | tup h r=>exact .tup h (Aj.back e r0 r)
 | _,_,_,.lst _ r0,h=>by cases h with | lst h r=>exact .lst h (Aj.back e r0 r)
 | _,_,_,.scr _ r0,h=>by cases h with | scr h r=>exact .scr h (Aj.back e r0 r)
 | _,_,_,.ptr n q,h=>by
  cases h with
  | ptr _ h=>
   refine .ptr n ?_
   rw [e,List.getElem?_append_left (List.getElem?_eq_some_iff.mp q).1] at h
   exact h
 | _,_,_,.ty n,h=>by cases h; exact .ty n
 | _,_,_,.fn n,h=>by cases h; exact .fn n
 | _,_,_,.dct _ _ r0,h=>by cases h with | dct h hl r=>exact .dct h hl (Aj.back e r0 r)
theorem Aj.back (e:G'.l=G.l++t):∀ {ds:List D} {vs v0:List V},Aj K G ds v0->Aj K G' ds vs->Aj K ⟨G'.g,G.l⟩ ds vs
 | _,_,_,.nil,h=>by cases h; exact .nil
 | _,_,_,.cons q r,h=>by cases h with | cons h1 h2=>exact .cons (Is.back e q h1) (Aj.back e r h2)
end
theorem Bc.back (e:G'.l=G.l++t):∀ {fs:List (Str×D)} {vs v0:List (Str×V)},Bc K G fs v0->Bc K G' fs vs->Bc K ⟨G'.g,G.l⟩ fs vs
 | _,_,_,.nil,h=>by cases h; exact .nil
 | _,_,_,.cons q r,h=>by cases h with | cons h1 h2=>exact .cons (Is.back e q h1) (Bc.back e r h2)
theorem SA.cut {H H':Hp} {O O2:Ae} (s:SA K G H O) (e:Ah G G') (s':SA K G' H' (O++O2)):Ah G ⟨G'.g,G.l⟩/\SA K ⟨G'.g,G.l⟩ H' O:=by
 obtain ⟨t,et⟩:=e.l
 refine ⟨⟨e.g,[],(List.append_nil _).symm⟩,⟨s'.sub,s.len,s.nd,λa ha=>s'.liv a (by rw [et]; exact List.mem_append_left _ ha),λn m h=>?_⟩⟩
 have hn:=(List.getElem?_eq_some_iff.mp h).1
 obtain ⟨a,q1,q2,q3⟩:=s'.mt n m (by rw [List.getElem?_append_left hn]; exact h)
 obtain ⟨a0,p1,p2,p3⟩:=s.mt n m h
 rw [et,List.getElem?_append_left (by rw [s.len]; exact hn)] at q1
 refine ⟨a,q1,q2,?_⟩
 cases m with
 | lst xs=>
  obtain ⟨vs,g1,g2⟩:=q3
  obtain ⟨v0,h1,h2⟩:=p3
  exact ⟨vs,g1,Aj.back et h2 g2⟩
 | ins C fs=>
  obtain ⟨dx,vs,g1,g2⟩:=q3
  obtain ⟨dx0,v0,h1,h2⟩:=p3
  exact ⟨dx,vs,g1,Bc.back et h2 g2⟩
 | exc C fs ha=>
  obtain ⟨ob,g1,g2,g3,g4⟩:=q3
  obtain ⟨ob0,h1,h2,h3,_⟩:=p3
  refine ⟨ob,g1,g2,?_,g4⟩
  rcases h3 with h3 | ⟨dx0,v0,b1,b2,b3⟩
  ·exact .inl h3
  ·refine g3.imp id ?_
   rintro ⟨dx,vs,a1,a2,a3⟩
   exact ⟨dx,vs,a1,a2,Bc.back et b3 a3⟩
 | dct ks xs=>
  obtain ⟨vs,g1,g2,g3⟩:=q3
  obtain ⟨v0,h1,h2,h3⟩:=p3
  exact ⟨vs,g1,g2,Aj.back et h3 g3⟩
 | pin ob vs ks xs=>exact ⟨q3.1,q3.2.1,Aj.back et p3.2.2 q3.2.2⟩
end
section
variable {X:Cx} {ρ:Ai} {O:Ae} {e a b c:Expr} {es:List Expr} {d da db:D} {ds:List D} {R:D->Ae->Prop} {pos p:Pos} {x:Str} {rest:List Stmt} {P:A3}
theorem Ja (h:Exs X ρ O rest { nx:=λ_ _=>False,rt:=λd O'=>(∃ O2,O'=O++O2)/\HP d=true/\P.rt d O }):Exs X ρ O rest P:=λG pins s σ H E I ⟨q1,q2,q3⟩=>by
 refine h G pins s σ H E I ⟨q1,q2,⟨λσ' ρ' O' G3 H3 e3 s3 n3 q=>q.elim,λv d O' G3 H3 e3 s3 i3 r=>?_,λσ' ρ' O' G3 H3 e3 s3 n3 q=>q.elim,λσ' ρ' O' G3 H3 e3 s3 n3 q=>q.elim⟩⟩
 obtain ⟨⟨O2,rfl⟩,r2,r3⟩:=r
 obtain ⟨e4,s4⟩:=q1.cut e3 s3
 exact q3.rt v d O _ H3 e4 s4 (i3.cut r2 _) r3
theorem Jc {tg:Expr} (he:Ev X ρ O e λd O'=>∃ ρ1,Tg X tg d ρ ρ1/\P.nx ρ1 O') (hs:swapsWithSole [tg] e pos.line X.env=pure false:=by rfl) (hw:swappedStores [tg] e X.env=pure none:=by rfl)
  (h1:(assignEach [tg] X.env).map (·.2)=[assign tg X.env]:=by rfl):Ex X ρ O (.Assign [tg] e pos) P:=λG=>
 PS.imp (Os (he G) (g:=λv σ H Q=>∃ G1 d ρ1,Tg X tg d ρ ρ1/\Is X.K G1 d v/\Bm G1.g H/\Au X.K G1 σ ρ/\∀ σ',Au X.K G1 σ' ρ1->Q σ' H) (λpins s σ H v u Q I r ⟨G1,d,ρ1,ht,q⟩=>ht G1 pins s σ H v u Q I r q) hs hw h1) λE σ H ⟨q1,q2,q3⟩=>
  ⟨q1,q2,λv d O' G' H' e1 s1 i1 ⟨ρ1,t1,r1⟩=>⟨G',d,ρ1,t1,i1,s1.sub,q2.ext e1,λσ' n'=>q3.nx _ _ O' G' H' e1 s1 n' r1⟩⟩
theorem AU {m:Option MO} {O2:Ae}:(O++m::O2)[O.length]?=some m:=by
 rw [List.getElem?_append_right (Nat.le_refl _),Nat.sub_self]; rfl
theorem BD {m z:Option MO} {O2:Ae}:(O++m::O2).set O.length z=O++z::O2:=by
 rw [List.set_append_right (h:=Nat.le_refl _),Nat.sub_self]; rfl
section
variable {α:Type} {ps:List α} {f g:α->D} {h:α->Option D} {tg iter elt:Expr} {ifs:List Expr} {scope:Scope}
theorem Pt (ps:List α) (g:α->D):(ps.map λq=>some (g q)).filterMap id=ps.map g:=by
 induction ps with
 | nil=>rfl
 | cons a l ih=>rw [List.map_cons,List.filterMap_cons,ih]; rfl
theorem Im (ps:List α) (h:α->Option D):(ps.map h).filterMap id=ps.filterMap h:=by
 rw [List.filterMap_map]; rfl
theorem PN (h:α->Option D) (T F:List Str) (js:List Nat) (hi:BX X ρ O tg iter (ps.map f)) (hsz:ps.length<=sizeLine) (turn:∀ q,q∈ps->Gb X T F js ρ O scope tg elt ifs (f q) (h q))
  (hfl:F.length=js.length:=by rfl) (hB:CQ X.N X.env.scope.names scope.names F js=true:=by rfl) (hc:X.calm=true:=by rfl) (hk:scope.kind=.function:=by rfl) (hs:∀ x,foldedSetIterable iter X.env x=pure x:=by intro _; rfl) :
  Ad X ρ O (.ListComp elt [⟨tg,iter,ifs,0⟩] scope pos) (.lst (ps.filterMap h)):=by
 rw [<- Im]
 refine YI T F js hi (by rw [List.length_map,List.length_map]) (by rw [List.length_map]; exact hsz) (λi x z h1 h2=>?_) hfl hB hc hk hs
 rw [List.getElem?_map] at h1 h2
 cases e:ps[i]? with
 | none=>rw [e] at h1; cases h1
 | some q=>rw [e] at h1 h2; cases h1; cases h2; exact turn q (List.mem_of_getElem? e)
theorem Cv (g:α->D) (T F:List Str) (js:List Nat) (hi:BX X ρ O tg iter (ps.map f)) (hsz:ps.length<=sizeLine) (turn:∀ q,q∈ps->Gb X T F js ρ O scope tg elt ifs (f q) (some (g q)))
  (hfl:F.length=js.length:=by rfl) (hB:CQ X.N X.env.scope.names scope.names F js=true:=by rfl) (hc:X.calm=true:=by rfl) (hk:scope.kind=.function:=by rfl) (hs:∀ x,foldedSetIterable iter X.env x=pure x:=by intro _; rfl) :
  Ad X ρ O (.ListComp elt [⟨tg,iter,ifs,0⟩] scope pos) (.lst (ps.map g)):=by
 rw [<- Pt,Im]
 exact PN (λq=>some (g q)) T F js hi hsz turn hfl hB hc hk hs
theorem CJ {xs:List D} (he:Ad X ρ O e d) (fa:LF d xs):BX X ρ O tg e xs:=by
 rcases fa with rfl | rfl | rfl
 ·exact Zb he
 ·exact Y9 he
 ·exact Y8 he
end
end
def Eo {α:Type} (a:List α) (lo hi:Option Int):List α:=(a.drop (HT.sIx a.length 0 lo)).take (HT.sIx a.length a.length hi-HT.sIx a.length 0 lo)
theorem Sm {α:Type} {f:α->D} (a:List α) (lo hi:Option Int):EY (a.map f) lo hi=(Eo a lo hi).map f:=by
 unfold EY Eo
 rw [List.length_map,List.map_take,List.map_drop]
theorem FZ {α:Type} (a:List α) (lo hi:Option Int):(Eo a lo hi).length<=a.length:=by
 unfold Eo
 rw [List.length_take,List.length_drop]
 omega
theorem P9 {α:Type} (a:List α) (k:Nat):Eo a none (some (k:Int))=a.take k:=by
 unfold Eo
 rw [HT.sIx_none,HT.sIx_nat,List.drop_zero,Nat.sub_zero]
 rcases Nat.le_total k a.length with h | h
 ·rw [Nat.min_eq_left h]
 ·rw [Nat.min_eq_right h,List.take_of_length_le (Nat.le_refl _),List.take_of_length_le h]
theorem Qa {α:Type} (a:List α) (k:Nat):Eo a (some (k:Int)) none=a.drop k:=by
 unfold Eo
 rw [HT.sIx_none,HT.sIx_nat]
 rcases Nat.le_total k a.length with h | h
 ·rw [Nat.min_eq_left h,List.take_of_length_le (by rw [List.length_drop]; exact Nat.le_refl _)]
 ·rw [Nat.min_eq_right h,Nat.sub_self,List.take_zero,List.drop_of_length_le h]
theorem MP {α β:Type} {f:α->D} {g:β->D}:∀ (a:List α) (b:List β),ET (a.map f) (b.map g)=(a.zip b).map λq=>.tup [f q.1,g q.2]
 | [],_=>rfl
 | _::_,[]=>rfl
 | x::a,y::b=>by
  have ih:=MP (f:=f) (g:=g) a b
  unfold ET at ih ⊢
  rw [List.map_cons,List.map_cons,List.zipWith_cons_cons,ih]
  rfl
section
variable {X:Cx} {ρ:Ai} {O:Ae} {e a b c:Expr} {es:List Expr} {d da db:D} {ds:List D} {R:D->Ae->Prop} {pos p:Pos} {x:Str} {rest:List Stmt} {P:A3}
theorem Ir {α:Type} {f:α->D} {as:List α} {lo hi:Option Expr} {l u:Option Int} {p2:Pos} (ha:Ad X ρ O a (.tup (as.map f))) (hl:Ga X ρ O lo l) (hh:Ga X ρ O hi u):Ad X ρ O (.Subscript a (.Slice lo hi none p2) pos) (.tup ((Eo as l u).map f)):=by
 rw [<- Sm]
 exact YB ha hl hh
theorem GJ {α β:Type} {f:α->D} {g:β->D} {as:List α} {bs:List β} (ha:Ad X ρ O a da) (hb:Ad X ρ O b db) (fa:LF da (as.map f)) (fb:LF db (bs.map g)) (hm:X.mg "zip" = none) (hg:Gl X "zip" := by rfl) (hs:starEach [a,b] X.env=[(false,eval a X.env),(false,eval b X.env)]:=by rfl) (hs2:starEach [b] X.env=[(false,eval b X.env)]:=by rfl) :
  F9 X ρ O (.Call (.Name "zip" p) [a,b] [] pos) ((as.zip bs).map λq=>.tup [f q.1,g q.2]) "zip" := by
 rw [<- MP]
 exact Ym ha hb fa fb hm hg hs hs2
end
theorem Z0 {α:Type} {f:α->D} {a:List α} {i:Int} {v:α} (h0:0<=i) (h:a[i.toNat]?=some v):Bf (a.map f) i=some (f v):=by
 obtain ⟨k,rfl⟩:=Int.eq_ofNat_of_zero_le h0
 rw [Int.toNat_natCast] at h
 exact Fq (by rw [List.getElem?_map,h]; rfl)
def sm {α:Type} (g:α->Int):List α->Int
 | []=>0
 | a::l=>g a+sm g l
section
variable {α β:Type} {g h:α->Int} {l m:List α}
theorem JN:sm g (l++m)=sm g l+sm g m:=by
 induction l with
 | nil=>exact (Int.zero_add _).symm
 | cons a l ih=>show g a+sm g (l++m)=(g a+sm g l)+sm g m; rw [ih]; omega
theorem JM (p:l.Perm m):sm g l=sm g m:=by
 induction p with
 | nil=>rfl
 | cons a _ ih=>unfold sm; rw [ih]
 | swap a b l=>unfold sm; unfold sm; omega
 | trans _ _ h1 h2=>rw [h1,h2]
theorem Sj {i:Nat} {a:α} (e:l[i]?=some a):sm g (l.take (i+1))=sm g (l.take i)+g a:=by
 rw [List.take_add_one,e,JN]
 show _+(g a+0)=_
 omega
theorem Hx (g:α->Int) (l:List α):(l.map g).sum=sm g l:=by
 induction l with
 | nil=>rfl
 | cons a l ih=>rw [List.map_cons,List.sum_cons,ih]; rfl
theorem R3 (l:List Int):l.sum=sm (λi=>i) l:=by rw [<- Hx,List.map_id']
theorem NT (q:∀ a∈l,g a<=h a):sm g l<=sm h l:=by
 induction l with
 | nil=>exact Int.le_refl _
 | cons a l ih=>
  have h1:=q a List.mem_cons_self
  have h2:=ih λb hb=>q b (List.mem_cons_of_mem _ hb)
  unfold sm
  omega
theorem NU (q:∀ a∈l,g a=h a):sm g l=sm h l:=by
 induction l with
 | nil=>rfl
 | cons a l ih=>
  have h1:=q a List.mem_cons_self
  have h2:=ih λb hb=>q b (List.mem_cons_of_mem _ hb)
  unfold sm
  omega
theorem Sl:sm (λa=>g a+h a) l=sm g l+sm h l:=by
 induction l with
 | nil=>rfl
 | cons a l ih=>unfold sm; rw [ih]; omega
theorem NS:sm (λ_:α=>(0:Int)) l=0:=by
 induction l with
 | nil=>rfl
 | cons a l ih=>unfold sm; rw [ih]; rfl
theorem Hy (q:∀ a∈l,0<=g a):0<=sm g l:=by
 have:=NT (g:=λ_=>0) (h:=g) q
 rw [NS] at this
 exact this
theorem Sk {B:Int} (q:∀ a∈l,g a<=B):sm g l<=l.length*B:=by
 induction l with
 | nil=>show (0:Int)<=((0:Nat):Int)*B; simp
 | cons a l ih=>
  have h1:=q a List.mem_cons_self
  have h2:=ih λb hb=>q b (List.mem_cons_of_mem _ hb)
  unfold sm
  rw [List.length_cons,Int.natCast_add,Int.add_mul]
  show _<=_+(1:Int)*B
  omega
theorem sm_bd' {B:Int} {n:Nat} (hB:0<=B) (hn:l.length<=n) (q:∀ a∈l,g a<=B):sm g l<=n*B:=by
 have h1:=Sk q
 have h2:(l.length:Int)*B<=(n:Int)*B:=Int.mul_le_mul_of_nonneg_right wF hB
 omega
theorem Si {a:List β} {b:List Int} (e:a.length=b.length):sm (λq:β×Int=>q.2) (a.zip b)=b.sum:=by
 induction a generalizing b with
 | nil=>cases b with | nil=>rfl | cons _ _=>cases e
 | cons x a ih=>
  cases b with
  | nil=>cases e
  | cons y b=>
   rw [List.zip_cons_cons,List.sum_cons]
   unfold sm
   rw [ih (by simpa using e)]
end
theorem Qk {b:Int} {n:Nat} (h0:0<=b) (h1:b<2 ^ n):PySem.Builtin.Int.intBits b<=n:=by
 unfold PySem.Builtin.Int.intBits
 split
 ·exact Nat.zero_le _
 ·rename_i hz
  have hn:b.natAbs<2 ^ n:=by
   have e:((2 ^ n:Nat):Int)=2 ^ n:=by rw [Int.natCast_pow]; rfl
   omega
  have hp:b.natAbs≠0:=by
   intro z; apply hz; rw [Int.natAbs_eq_zero.mp z]; rfl
  have:=(Nat.log2_lt hp).mpr hn
  omega
theorem Ef {a b:Int} {m n:Nat} (a0:0<=a) (a1:a<2 ^ m) (b0:0<=b) (b1:b<2 ^ n) (h:m+n<=134217728:=by decide):IntMulOk a b:=IntMulOk.of_le (Qk a0 a1) (Qk b0 b1) h
section
variable {prog:Program} {w:World} {A:Around} {E:Value->Shared->Prop} {s:Shared}
end
section
variable {X:Cx} {ρ:Ai} {O:Ae} {e a b c st:Expr} {es:List Expr} {d da db:D} {ds xs:List D} {R:D->Ae->Prop} {pos p p2:Pos} {x:Str} {rest:List Stmt} {P:A3}
theorem TW {K:PySem.W.Frag} {G:Wd} {vs:List V} (r:Aj K G xs vs) (k:Nat):Aj K G (List.replicate k xs).flatten (List.replicate k vs).flatten:=by
 induction k with
 | zero=>exact .nil
 | succ k ih=>rw [List.replicate_succ,List.replicate_succ,List.flatten_cons,List.flatten_cons]; exact r.append ih
theorem K6 {d:D} (n:Nat):(List.replicate n [d]).flatten=List.replicate n d:=by
 induction n with
 | zero=>rfl
 | succ n ih=>rw [List.replicate_succ,List.flatten_cons,ih]; rfl
end
theorem Yk {α:Type} (p:α->Bool) (g:α->D) (l:List α):l.filterMap (λq=>if p q=true then some (g q) else none)=(l.filter p).map g:=by
 induction l with
 | nil=>rfl
 | cons a l ih=>
  rw [List.filterMap_cons,List.filter_cons]
  cases h:p a with
  | true=>simp [ih]
  | false=>simp [ih]
section
variable {prog:Program} {w:World} {A:Around} {E:Value->Shared->Prop} {s:Shared}
theorem WT:fillsNumberSlot (.type "tuple") "mul" = pure false:=
 PySem.fillsNumberSlot_seq (id := "tuple.__mul__") (r:=some (.builtin "tuple.__rmul__")) F.slot_tuple_mul.lookup wD F.slot_tuple_rmul.lookup wD
theorem TX:seqRepeat? (.type "tuple")=pure (some (.builtin "tuple.__mul__")):=by
 unfold seqRepeat?
 rw [PySem.seqSlot_of (T := "tuple") (name := "__mul__") F.slot_tuple_mul.lookup wD,PySem.seqSlot_of (T := "tuple") (name := "__rmul__") F.slot_tuple_rmul.lookup wD]
 rfl
theorem TR {a:Int} {t:Tok} {l:Addr} {its:List Value} {Q:Value->Shared->Prop} (ht:IsTup s.heap l its.toArray) (h:Q .notImplemented s):wpAny (model prog w) A (call (.builtin "int.__rmul__") [.int a t,.ref l]) Q E s:=by
 refine wpAny_call_entry F.slot_int_rmul (typeIs_int s a t) F.entry_int_rmul ?_ (F.args_int_rmul_2 _ _)
 obtain ⟨o,ho,hc,n,hd⟩:=ht
 show wpAny (model prog w) _ (asInt? (.ref l) >>= _) _ _ s
 refine wpAny_bind ?_
 unfold asInt?
 refine wpAny_bind (wpAny_load ho ?_)
 rw [hd]
 refine wpAny_pure ?_
 exact wpAny_bind (wpAny_rule (wpAny_pure ⟨_,rfl,h⟩))
theorem W8 {k:Int} {t:Tok} {l:Addr} {its:List Value} {Q:Value->Shared->Prop} (ht:IsTup s.heap l its.toArray) (h1:1<=k) (h2:k<2 ^ 62) (hn:its≠[]) (hz:its.length*k.toNat<=sizeLine)
  (hq1:k=1->Q (.ref l) s) (hq2:k≠1->Q (.ref s.heap.objs.size) { s with heap:=s.heap.push { cls:=.type "tuple",data:=.seq (List.replicate k.toNat its).flatten.toArray } }):wpAny (model prog w) A (call (.builtin "tuple.__mul__") [.ref l,.int k t]) Q E s:=by
 refine wpAny_call_entry F.slot_tuple_mul ht.typeIs F.entry_tuple_mul ?_ (F.args_tuple_mul_2 _ _)
 show wpAny (model prog w) _ (asIndex (.int k t) >>= _) _ _ s
 refine wpAny_bind ?_
 show wpAny (model prog w) _ (pure k) _ _ s
 refine wpAny_pure ?_
 rw [if_neg (by rw [Bool.or_eq_true,decide_eq_true_eq,decide_eq_true_eq]; omega)]
 refine wpAny_bind (tupleItemsOf_ ht ?_)
 have he:its.toArray.isEmpty=false:=by cases its with | nil=>exact absurd rfl hn | cons a l=>rfl
 by_cases hk:k=1
 ·rw [if_pos (by rw [hk,Bool.or_eq_true]; exact Or.inr rfl)]
  unfold Builtin.Tuple.tupleIsExact
  refine wpAny_bind (wpAny_bind (wpAny_typeOf ht.typeIs (wpAny_pure ?_)))
  rw [if_pos wE]
  exact wpAny_bind (wpAny_rule (wpAny_pure ⟨_,rfl,hq1 hk⟩))
 ·have hk2:(k==1)=false:=by simpa using hk
  rw [if_neg (by rw [he,hk2]; exact Bool.false_ne_true)]
  rw [if_neg (by rw [he,Bool.or_false,decide_eq_true_eq]; omega)]
  have hs:((its.toArray.size:Nat):Int)*k<=(sizeLine:Nat):=by
   rw [List.size_toArray]
   have e:k=((k.toNat:Nat):Int):=by omega
   rw [e]
   exact_mod_cast hz
  have hl:=sizeLine_eq
  rw [hl] at hs
  rw [if_neg wF]
  have ht2:Builtin.Tuple.tupleTooMany (((its.toArray.size:Nat):Int)*k)=false:=by
   unfold Builtin.Tuple.tupleTooMany
   rw [hl]
   exact decide_eq_false wF
  rw [if_neg (by rw [ht2]; exact Bool.false_ne_true)]
  have e:List.foldl (λx1 x2=>x1++x2) #[] (List.replicate k.toNat its.toArray)=(List.replicate k.toNat its).flatten.toArray:=by
   have:=Pq its k.toNat []
   rw [List.nil_append] at this
   exact this
  rw [e]
  exact wpAny_bind (m:=Builtin.Tuple.tupleExact _) (wpAny_newObj_type (wpAny_pure ⟨_,rfl,hq2 hk⟩) (by
   show (List.replicate k.toNat its).flatten.toArray.size<=sizeLine
   rw [List.size_toArray,OY,Nat.mul_comm]
   exact hz))
end
section
variable {X:Cx} {O:Ae} {xs:List D}
theorem Ed {i:Int} (h1:1<=i) (h2:i<2 ^ 62) (hn:xs≠[]) (hz:xs.length*i.toNat<=sizeLine):AY X O (binaryOp .Mult) (.tup xs) (.int i) (.tup (List.replicate i.toNat xs).flatten):=λG pins s σ H x y v u Q I rx ry ⟨sa,j1,j2,k⟩=>by
 cases j2
 have j:=j1
 obtain ⟨q,vs,rfl,g,r⟩:=Dt sa j1
 cases rx
 obtain ⟨t,rfl⟩:=ry
 obtain ⟨its,rr,ht,hzz⟩:=I.tuple g
 have hlen:=rr.length
 have hn2:its≠[]:=by
  rintro rfl
  have:=r.length
  rw [hlen] at this
  exact hn (List.eq_nil_of_length_eq_zero this)
 refine wpAny_binaryOp_repeat_ref (T := "tuple") (U := "int") wE ht.typeIs (λs'=>typeIs_int s' i t) WT F.fills_int_mul F.slot_int_rmul TX F.slot_int_index.lookup
  (TR ht ⟨rfl,ht.typeIs,W8 ht h1 h2 hn2 (by rw [<- hlen,<- r.length]; exact hz) (λe=>?_) (λe=>?_)⟩)
 ·subst e
  refine ⟨.ref q,H,I,rfl,k _ G H (Ah.refl _) sa ?_⟩
  have:(List.replicate (1:Int).toNat xs).flatten=xs:=by show (xs++[])=xs; rw [List.append_nil]
  rw [this]
  exact j
 ·obtain ⟨e4,s4⟩:=sa.laid (o:=.tup (List.replicate i.toNat vs).flatten) (p:=s.heap.objs.size) (I.hok.fresh (Nat.le_refl _))
  refine ⟨.ref _,_,I.laid (t':=s.toks) (o:=.tup (List.replicate i.toNat vs).flatten) (λb ob q=>Heap.get?_push_of_some _ q) (Nat.le_refl _) ?_,rfl,k _ _ _ e4 s4 (.tup (A1.of AW) ((TW r _).ext e4))⟩
  exact ⟨by rw [OY,Nat.mul_comm,<- r.length]; exact hz,_,rr.rep i.toNat,DF.new _ _⟩
end
def AX (f:Str) (d:D):List (Str×D)->List (Str×D)
 | []=>[(f,d)]
 | (g,x)::r=>if g=f then (g,d)::r else (g,x)::AX f d r
section
variable {K:PySem.W.Frag} {G:Wd}
theorem Bc.look {f:Str} {d:D}:∀ {fs:List (Str×D)} {vs:List (Str×V)},Bc K G fs vs->fs.lookup f=some d->∃ v,vs.lookup f=some v/\Is K G d v
 | _,_,.nil,e=>by cases e
 | _,_,.cons (f:=g) h r,e=>by
  rw [List.lookup_cons] at e
  cases hc:f==g with
  | true=>
   rw [hc] at e
   cases e
   exact ⟨_,by rw [List.lookup_cons,hc],h⟩
  | false=>
   rw [hc] at e
   obtain ⟨v,e1,e2⟩:=Bc.look r e
   exact ⟨v,by rw [List.lookup_cons,hc]; exact e1,e2⟩
theorem Bc.none {f:Str}:∀ {fs:List (Str×D)} {vs:List (Str×V)},Bc K G fs vs->fs.lookup f=Option.none->vs.lookup f=Option.none
 | _,_,.nil,e=>rfl
 | _,_,.cons (f:=g) h r,e=>by
  rw [List.lookup_cons] at e
  cases hc:f==g with
  | true=>rw [hc] at e; cases e
  | false=>
   rw [hc] at e
   rw [List.lookup_cons,hc]
   exact Bc.none r e
theorem Bc.put {f:Str} {d:D} {v:V} (i:Is K G d v):∀ {fs:List (Str×D)} {vs:List (Str×V)},Bc K G fs vs->Bc K G (AX f d fs) (Cg f v vs)
 | _,_,.nil=>.cons i .nil
 | _,_,.cons (f:=g) h r=>by
  unfold AX Cg
  by_cases e:g=f
  ·rw [if_pos e,if_pos e]; exact .cons i r
  ·rw [if_neg e,if_neg e]; exact .cons h (Bc.put i r)
theorem Bc.len:∀ {fs:List (Str×D)} {vs:List (Str×V)},Bc K G fs vs->fs.length=vs.length
 | _,_,.nil=>rfl
 | _,_,.cons _ r=>by rw [List.length_cons,List.length_cons,r.len]
end
theorem SA.ins {K:PySem.W.Frag} {G:Wd} {H:Hp} {O:Ae} {q:Nat} {C:Addr} {fs:List (Str×D)} {v:V} (s:SA K G H O) (i:Is K G (.ptr q) v) (h:O[q]?=some (some (.ins C fs))):∃ a dx vs,v=.ref a/\G.l[q]?=some a/\H a=some (.ins C dx vs)/\Bc K G fs vs:=by
 cases i with
 | ptr _ ha=>
  obtain ⟨a,h1,h2,dx,vs,h3,h4⟩:=s.mt q _ h
  cases Option.some.inj (ha.symm.trans h1)
  exact ⟨_,dx,vs,rfl,h1,h3,h4⟩
section
variable {X:Cx} {ρ:Ai} {O:Ae} {e a b c o value:Expr} {es:List Expr} {d da db:D} {ds:List D} {R:D->Ae->Prop} {pos p apos pos':Pos} {x f m:Str} {rest:List Stmt} {P:A3} {q:Nat} {C:Addr} {fs:List (Str×D)}
theorem As (he:Ad X ρ O e (.ptr q)) (hq:O[q]?=some (some (.ins C fs))) (c:Bn X.K C) (n:Ao X.K C f) (hl:fs.lookup f=some d) (hb:attributeBase e f X.env (eval e X.env)=eval e X.env:=by rfl):Ad X ρ O (.Attribute e f pos) d:=λG=>
 PE.imp (U3 (he G) hb) λσ H Q ⟨h1,h2,h3⟩=>⟨h1,h2,λv G1 H1 e1 s1 i1=>by
  obtain ⟨a,dx,vs,rfl,g1,g2,g3⟩:=s1.ins i1 hq
  obtain ⟨v,l,iv⟩:=g3.look hl
  exact ⟨a,C,dx,vs,v,rfl,g2,c,n,l,h3 v G1 H1 e1 s1 iv⟩⟩
theorem A8 (hv:Ad X ρ O value d) (ho:Ad X ρ O o (.ptr q)) (hq:O[q]?=some (some (.ins C fs))) (c:Bn X.K C) (n:Ao X.K C f) (hz:fs.length<1000) (h:P.nx ρ (O.set q (some (.ins C (AX f d fs))))) (hs:swapsWith value (some (.Attribute o f pos')) pos.line X.env=pure false:=by rfl) :
  Ex X ρ O (.Assign [.Attribute o f pos'] value pos) P:=λG pins s σ H E I ⟨h1,h2,h3⟩=>by
 refine plainObj_wpAny_Assign_Attribute (Al (hv G pins s σ H (λv H1=>∃ G1,Ah G G1/\SA X.K G1 H1 O/\Is X.K G1 d v) I ⟨h1,h2,λv G' H' e s i=>⟨G',e,s,i⟩⟩) λu s1 ⟨y,H1,I1,ry,G1,e1,sa1,i1⟩=>
  Al (ho G1 pins s1 σ H1 (λv H2=>∃ G2,Ah G1 G2/\SA X.K G2 H2 O/\Is X.K G2 (.ptr q) v) I1 ⟨sa1,h2.ext e1,λv G' H' e s i=>⟨G',e,s,i⟩⟩) λov s2 ⟨x,H2,I2,rx,G2,e2,sa2,i2⟩=>?_) hs
 obtain ⟨a,dx,vs,rfl,g1,g2,g3⟩:=sa2.ins i2 hq
 obtain rfl:ov=Value.ref a:=rx
 refine NW I2 g2 c n (by rw [<- g3.len]; exact hz) ry λs3 I3=>⟨σ,_,I3,?_⟩
 exact h3.nx σ ρ _ G2 _ (e1.trans e2) (sa2.put (m':=.ins C (AX f d fs)) hq g1 ⟨dx,_,AW,g3.put (i1.ext e2)⟩) (h2.ext (e1.trans e2)) h
structure AI (P:Program) (w:World) (K:PySem.W.Frag) (mg:Str->Option Value) (base:Heap) (C:Addr) (k:Nat) (m:Str) (sp:AE):Prop where
 ex:∃ f fd ps,AC P w K mg base AO k f fd ps (AR K sp)/\GX K C m f/\Binds K fd ps []
 cls:Bn K C
theorem CG {k:Nat} {sp:AE} {pl:Sem Bool} (M:AI X.prog X.w X.K X.mg X.base C k m sp) (hr:AM k X.A) (ho:Ad X ρ O o (.ptr q)) (hq:O[q]?=some (some (.ins C fs))) (hno:fs.lookup m=none) (ha:Bd X ρ O (e::es) ds) (hs:sp (.ptr q::ds) O R)
  (hst:starEach (e::es) X.env=(false,eval e X.env)::starEach es X.env:=by rfl) (hpl:(backTo pos (starEach es X.env)).any (·.1)=false:=by rfl)
  (ht:eval (.Call (.Attribute o m apos) (e::es) [] pos) X.env=(do
   let ov <- eval o X.env
   standAt apos.atName
   let (f,first) <- holding [ov] (getMethod ov m pl)
   callWith pos f first (backTo pos (starEach (e::es) X.env)) (backToKw pos (keywordEach [] X.env))):=by rfl):Ev X ρ O (.Call (.Attribute o m apos) (e::es) [] pos) R:=λG pins s σ H Q I ⟨h1,h2,h3⟩=>by
 obtain ⟨f,fd,ps,g1,g2,g3⟩:=M.ex
 refine U0 (t:=λσ H Q=>∃ G1,SA X.K G1 H O/\Au X.K G1 σ ρ/\∀ vs G' H',Ah G1 G'->SA X.K G' H' O->Aj X.K G' ds vs->Q vs H') (ho G) M.cls g2 g1 hr g3 .nil Gz (λpos pins s σ H Q I ⟨G1,z⟩=>ha G1 pos pins s σ H Q I z) hst hpl ht pins s σ H Q I ⟨h1,h2,λv G1 H1 e1 s1 i1=>?_⟩
 obtain ⟨a,dx,vs,rfl,k1,k2,k3⟩:=s1.ins i1 hq
 refine ⟨a,dx,vs,rfl,k2,k3.none hno,G1,s1,h2.ext e1,λus G2 H2 e2 s2 i2=>?_⟩
 show AR X.K sp (V.ref a::(us++[])) H2 Q E0
 rw [List.append_nil]
 exact ⟨G2,O,.ptr q::ds,R,s2,.cons (i1.ext e2) i2,hs,λv d O' G' H' e3 s3 i3 r3=>h3 v d O' G' H' ((e1.trans e2).trans e3) s3 i3 r3⟩
theorem DT {k:Nat} {sp:AE} {pl:Sem Bool} (M:AI X.prog X.w X.K X.mg X.base C k m sp) (hr:AM k X.A) (ho:Ad X ρ O o (.ptr q)) (hq:O[q]?=some (some (.ins C fs))) (hno:fs.lookup m=none) (hs:sp [.ptr q] O R)
  (ht:eval (.Call (.Attribute o m apos) [] [] pos) X.env=(do
   let ov <- eval o X.env
   standAt apos.atName
   let (f,first) <- holding [ov] (getMethod ov m pl)
   callWith pos f first (backTo pos (starEach [] X.env)) (backToKw pos (keywordEach [] X.env))):=by rfl):Ev X ρ O (.Call (.Attribute o m apos) [] [] pos) R:=λG pins s σ H Q I ⟨h1,h2,h3⟩=>by
 obtain ⟨f,fd,ps,g1,g2,g3⟩:=M.ex
 refine UZ (ho G) M.cls g2 g1 hr g3 .nil Gz ht pins s σ H Q I ⟨h1,h2,λv G1 H1 e1 s1 i1=>?_⟩
 obtain ⟨a,dx,vs,rfl,k1,k2,k3⟩:=s1.ins i1 hq
 refine ⟨a,dx,vs,rfl,k2,k3.none hno,?_⟩
 show AR X.K sp (V.ref a::[]) H1 Q E0
 exact ⟨G1,O,[.ptr q],R,s1,.cons i1 .nil,hs,λv d O' G' H' e3 s3 i3 r3=>h3 v d O' G' H' (e1.trans e3) s3 i3 r3⟩
structure Cn (P:Program) (w:World) (K:PySem.W.Frag) (mg:Str->Option Value) (base:Heap) (C:Addr) (k:Nat) (x:Str) (sp:AE):Prop where
 ex:∃ f fd ps,AC P w K mg base AO k f fd ps (AR K sp)/\Mk K C f/\Binds K fd ps []
 at_:mg x=some (.ref C)
theorem made {K:PySem.W.Frag} {G:Wd} {H:Hp} {y dx:Addr} (s:SA K G H O) (h1:H y=none) (h2:H dx=none) (h3:dx≠y):Ah G ⟨G.g,G.l++[y]⟩/\SA K ⟨G.g,G.l++[y]⟩ (Ap (Ap H dx (.own y)) y (.ins C dx [])) (O++[some (.ins C [])]):=
 (s.grow (Gt h2)).new (by rw [AB]; exact h1; exact λe=>h3 e.symm) ⟨dx,[],AW,.nil⟩
theorem B2 {k:Nat} {sp:AE} (M:Cn X.prog X.w X.K X.mg X.base C k x sp) (hr:AM (k+1) X.A) (ha:Bd X ρ O (e::es) ds) (hs:sp (.ptr O.length::ds) (O++[some (.ins C [])]) λd O'=>d=.non/\R (.ptr O.length) O')
  (hg:Gl X x:=by rfl) (hdb:(x==("__debug__" : Str))=false:=by decide) (he:starEach (e::es) X.env=(false,eval e X.env)::starEach es X.env:=by rfl) (hpl:(backTo pos (starEach es X.env)).any (·.1)=false:=by rfl) :
  Ev X ρ O (.Call (.Name x p) (e::es) [] pos) R:=λG pins s σ H Q I ⟨h1,h2,h3⟩=>by
 obtain ⟨f,fd,ps,g1,g2,g3⟩:=M.ex
 refine U1 g2 g1 hr hg M.at_ g3 .nil Gz (ha G) hdb he hpl pins s σ H Q I ⟨h1,h2,λvs G1 H1 e1 s1 i1=>λy dx k1 k2 k3=>?_⟩
 obtain ⟨e2,s2⟩:=made (C:=C) s1 k1 k2 k3
 have iy:Is X.K ⟨G1.g,G1.l++[y]⟩ (.ptr O.length) (.ref y):=.ptr _ (by rw [<- s1.len,List.getElem?_append_right (Nat.le_refl _),Nat.sub_self]; rfl)
 show AR X.K sp (V.ref y::(vs++[])) _ _ E0
 rw [List.append_nil]
 refine ⟨_,_,.ptr O.length::ds,_,s2,.cons iy (i1.ext e2),hs,λv d O' G' H' e3 s3 i3 r3=>?_⟩
 obtain ⟨rfl,r⟩:=r3
 cases i3
 exact ⟨rfl,h3 _ _ O' G' H' ((e1.trans e2).trans e3) s3 (iy.ext e3) r⟩
end
section
variable {X:Cx} {ρ:Ai} {O:Ae} {e a b c o ix value:Expr} {es:List Expr} {d da db:D} {ds xs:List D} {R:D->Ae->Prop} {pos p apos tpos:Pos} {x f m:Str} {rest:List Stmt} {P:A3} {q j:Nat} {i:Int}
theorem SA.lstAt {K:PySem.W.Frag} {G:Wd} {H:Hp} {v:V} (s:SA K G H O) (h1:Is K G (.ptr q) v) (h:O[q]?=some (some (.lst xs))):∃ ad vs,v=.ref ad/\G.l[q]?=some ad/\H ad=some (.lst vs)/\Aj K G xs vs:=by
 cases h1 with
 | ptr _ ha=>
  obtain ⟨ad,g1,g2,vs,g3,g4⟩:=s.mt q _ h
  cases Option.some.inj (ha.symm.trans g1)
  exact ⟨_,vs,rfl,g1,g3,g4⟩
theorem Q3 (hv:Ad X ρ O value d) (ho:Ad X ρ O o (.ptr q)) (hq:O[q]?=some (some (.lst xs))) (hi:Ad X ρ O ix (.int i)) (hj:Dw xs.length i=some j) (h:P.nx ρ (O.set q (some (.lst (xs.set j d)))))
  (hs:swapsWithSole [.Subscript o ix tpos] value pos.line X.env=pure false:=by rfl) (hw:swappedStores [.Subscript o ix tpos] value X.env=pure none:=by rfl)
  (h1:(assignEach [.Subscript o ix tpos] X.env).map (·.2)=[assign (.Subscript o ix tpos) X.env]:=by rfl)
  (ha:∀ v,assign (.Subscript o ix tpos) X.env v=(do
   let ov <- holding [v] (eval o X.env)
   let iv <- holding [v,ov] (eval ix X.env)
   standAt tpos
   holding [v,ov,iv] (setItem ov iv v)
   release [v,ov,iv] []):=by intro _; rfl):Ex X ρ O (.Assign [.Subscript o ix tpos] value pos) P:=λG=>by
 refine PS.imp (Os (hv G) (UR (to:=λσ H Q=>∃ G1,SA X.K G1 H O/\Au X.K G1 σ ρ/\∀ v G' H',Ah G1 G'->SA X.K G' H' O->Is X.K G' (.ptr q) v->Q v H') (ti:=λσ H Q=>∃ G1,SA X.K G1 H O/\Au X.K G1 σ ρ/\∀ v G' H',Ah G1 G'->SA X.K G' H' O->Is X.K G' (.int i) v->Q v H')
  (λpins s σ H Q I ⟨G1,z⟩=>ho G1 pins s σ H Q I z) (λpins s σ H Q I ⟨G1,z⟩=>hi G1 pins s σ H Q I z) Sx ha) hs hw h1) λE σ H ⟨q1,q2,q3⟩=>?_
 refine ⟨q1,q2,λy G1 H1 e1 s1 i1=>⟨G1,s1,q2.ext e1,λov G2 H2 e2 s2 i2=>⟨G2,s2,q2.ext (e1.trans e2),λiv G3 H3 e3 s3 i3=>?_⟩⟩⟩
 obtain ⟨ad,vs,rfl,g1,g3,g4⟩:=s3.lstAt (i2.ext e3) hq
 cases i3
 refine ⟨ad,vs,i,j,rfl,rfl,g3,by rw [<- g4.length]; exact hj,?_⟩
 exact q3.nx σ ρ _ G3 _ ((e1.trans e2).trans e3) (s3.put (m':=.lst (xs.set j d)) hq g1 ⟨_,AW,g4.set (i1.ext (e2.trans e3)) j⟩) (q2.ext ((e1.trans e2).trans e3)) h
end
end DL
namespace DL
open PySem PySem.Spec PyProof.Rows L2 PySem.W
structure EW (n:Nat) (k:Bool) (l i:Nat) (j:Int) (xs:Array Value) (f0 f1 old:Value) (h:Heap):Prop where
 z:h.get? (n+1)=some { cls:=.type "enumerate",dict:=none,data:=.fields #[f0,f1,.ref n,.int j 0,.none,old],slots:=#[] }
 w:Cm k h n l i
 s:Bz k h l xs
 b:l<n
def BC (n:Nat) (h h':Heap):Prop:=∀ c o,c≠n->c≠n+1->h.get? c=some o->h'.get? c=some o
theorem BC.refl (n:Nat) (h:Heap):BC n h h:=λ_ _ _ _ e=>e
theorem BC.on {n:Nat} {h h1 h2:Heap} (p:BC n h h1) (q:BC n h1 h2):BC n h h2:=λc o c1 c2 e=>q c o c1 c2 (p c o c1 c2 e)
theorem BC.more {n:Nat} {h h':Heap} {o:Obj} (p:BC n h h'):BC n h (h'.push o):=p.on λc u _ _ q=>Heap.get?_push_of_some _ q
section
variable {prog:Program} {w:World} {A:Around} {E:Value->Shared->Prop} {s:Shared} {n l i:Nat} {j:Int} {k:Bool} {xs:Array Value} {f0 f1 old v:Value}
theorem EW.set {m:Nat} {vs:Array Value} {Q:Unit->Shared->Prop} (W:EW n k l i j xs f0 f1 old s.heap) (hm:m<6)
  (hQ:∀ h',h'.get? (n+1)=some { cls:=.type "enumerate",dict:=none,data:=.fields ((#[f0,f1,.ref n,.int j 0,.none,old]:Array Value).setIfInBounds m v),slots:=#[] }->Cm k h' n l i->Bz k h' l xs->BC n s.heap h'->h'.objs.size=s.heap.objs.size->Q () { s with heap:=h' }):wpAny (model prog w) A (setField (.ref (n+1)) m v) Q E s:=
 wpAny_setField_rec W.z hm λh' g e=>hQ h' g (W.w.at λo=>e.extBut _ _ (ap wF)) (W.s.at λo=>e.extBut _ _ (ap (by have:=W.b; omega))) (λc o _ c2 q=>e.extBut _ _ c2 q) e.1
theorem EW.set0 {Q:Unit->Shared->Prop} (W:EW n k l i j xs f0 f1 old s.heap) (hQ:∀ h',EW n k l i j xs v f1 old h'->BC n s.heap h'->h'.objs.size=s.heap.objs.size->Q () { s with heap:=h' }):wpAny (model prog w) A (setField (.ref (n+1)) 0 v) Q E s:=W.set (vs:=#[]) wE λh' a b c d e=>hQ h' ⟨a,b,c,W.b⟩ d e
theorem EW.set1 {Q:Unit->Shared->Prop} (W:EW n k l i j xs f0 f1 old s.heap) (hQ:∀ h',EW n k l i j xs f0 v old h'->BC n s.heap h'->h'.objs.size=s.heap.objs.size->Q () { s with heap:=h' }):wpAny (model prog w) A (setField (.ref (n+1)) 1 v) Q E s:=W.set (vs:=#[]) wE λh' a b c d e=>hQ h' ⟨a,b,c,W.b⟩ d e
theorem EW.set3 {j':Int} {Q:Unit->Shared->Prop} (W:EW n k l i j xs f0 f1 old s.heap) (hQ:∀ h',EW n k l i j' xs f0 f1 old h'->BC n s.heap h'->h'.objs.size=s.heap.objs.size->Q () { s with heap:=h' }):wpAny (model prog w) A (setField (.ref (n+1)) 3 (rawInt j')) Q E s:=W.set (vs:=#[]) wE λh' a b c d e=>hQ h' ⟨a,b,c,W.b⟩ d e
theorem EW.set4 {Q:Unit->Shared->Prop} (W:EW n k l i j xs f0 f1 old s.heap) (hQ:∀ h',EW n k l i j xs f0 f1 old h'->BC n s.heap h'->h'.objs.size=s.heap.objs.size->Q () { s with heap:=h' }):wpAny (model prog w) A (setField (.ref (n+1)) 4 .none) Q E s:=W.set (vs:=#[]) wE λh' a b c d e=>hQ h' ⟨a,b,c,W.b⟩ d e
theorem EW.set5 {Q:Unit->Shared->Prop} (W:EW n k l i j xs f0 f1 old s.heap) (hQ:∀ h',EW n k l i j xs f0 f1 v h'->BC n s.heap h'->h'.objs.size=s.heap.objs.size->Q () { s with heap:=h' }):wpAny (model prog w) A (setField (.ref (n+1)) 5 v) Q E s:=W.set (vs:=#[]) wE λh' a b c d e=>hQ h' ⟨a,b,c,W.b⟩ d e
theorem EW.inner {Q:Value->Shared->Prop} (W:EW n k l i j xs f0 f1 old s.heap) (h:Q (.ref n) s):wpAny (model prog w) A (field (.ref (n+1)) 2) Q E s:=wpAny_field W.z rfl (x:=.ref n) rfl h
theorem EW.draw {x:Value} {Q:Value->Shared->Prop} (W:EW n k l i j xs f0 f1 old s.heap) (hx:xs[i]?=some x) (hQ:∀ h',EW n k l (i+1) j xs f0 f1 old h'->BC n s.heap h'->h'.objs.size=s.heap.objs.size->Q x { s with heap:=h' }):wpAny (model prog w) A (Builtin.SmallTypes.nextOf (.ref n)) Q E s:=
 Jl W.w W.s hx λh' g e=>hQ h' ⟨e.extBut _ _ (ap wF) W.z,g,W.s.at λo=>e.extBut _ _ (ap (by have:=W.b; omega)),W.b⟩ (λc o c1 _ q=>e.extBut _ _ c1 q) e.1
theorem EW.free {Q:Bool->Shared->Prop} (W:EW n k l i j xs f0 f1 old s.heap) (hf:ZF f0) (y:Q true s) (z:∀ h' f,EW n k l i j xs f0 f old h'->BC n s.heap h'->h'.objs.size=s.heap.objs.size->Q false { s with heap:=h' }):wpAny (model prog w) A (Builtin.SmallTypes.ownedTupleIsFree (.ref (n+1))) Q E s:=by
 obtain ⟨h,g,d,tk,os⟩:=s
 have hz:=W.z
 dsimp only at hz
 rcases hf with rfl | ⟨c,rfl⟩
 ·wp_walk
  exact y
 ·wp_walk using Qz
  cases h.get? (Int.toNat (c:Int)) with
  | none=>wp_walk; exact y
  | some o=>
   by_cases m:f1=.bool true
   ·subst m
    wp_walk
    exact z _ _ W (BC.refl _ _) rfl
   ·wp_walk using W.set1
    exact λh' V o1 o2=>wpAny_pure (z h' _ V o1 o2)
theorem EW.more {h:Heap} {o:Obj} (W:EW n k l i j xs f0 f1 old h):EW n k l i j xs f0 f1 old (h.push o):=
 have e:∀ c u,h.get? c=some u->(h.push o).get? c=some u:=λc u q=>Heap.get?_push_of_some _ q
 ⟨e _ _ W.z,W.w.at (e _),W.s.at (e _),W.b⟩
theorem Y6 {x:Value} {Q:Value->Shared->Prop} (W:EW n k l i j xs f0 f1 old s.heap) (hf:ZF f0) (hx:xs[i]?=some x)
  (hQ:∀ h' t f0' f1' old' tk',EW n k l (i+1) (j+1) xs f0' f1' old' h'->ZF f0'->IsPair h' s.heap.objs.size (.int j t) x->BC n s.heap h'->Q (.ref s.heap.objs.size) { s with heap:=h',toks:=tk' }) :
  wpAny (model prog w) A (Builtin.«enumerate.__next__» ⟨[.ref (n+1)],[]⟩) (λfin s'=>∃ v,fin=.done (.ret v)/\Q v s') E s:=by
 obtain ⟨h,g,d,tk,os⟩:=s
 dsimp only at W hQ
 have z:=W.z
 have lt:n+1<h.objs.size:=Heap.lt_size z
 wp_walk using W.inner,W.draw hx
 intro h1 W1 o1 z1
 have t1:=W1.z
 wp_walk using EW.set3 (s:=⟨h1,g,d,tk+1,os⟩) W1
 intro h2 W2 o2 z2
 wp_walk using EW.set4 (s:=⟨h2,g,d,tk+1,os⟩) W2
 intro h3 W3 o3 z3
 have zl:h3.objs.size=h.objs.size:=z3.trans (z2.trans z1)
 have ol:BC n h h3:=o1.on (o2.on o3)
 have W4:EW n k l (i+1) (j+1) xs f0 f1 old (h3.push { cls:=.type "tuple",data:=.seq #[.int j tk,x] }):=W3.more
 have t4:=W4.z
 have pr:IsPair (h3.push { cls:=.type "tuple",data:=.seq #[.int j tk,x] }) h3.objs.size (.int j tk) x:=Heap.get?_push_size _ rfl
 have far:∀ m,m<=1->h3.objs.size≠n+m:=λm hm=>by omega
 have far0:h3.objs.size≠n:=far 0 wE
 have far1:h3.objs.size≠n+1:=far 1 wE
 rw [<- zl] at hQ
 wp_walk using EW.free (s:=⟨h3.push _,g,d,tk+1,os⟩) W4 hf,EW.set5 (s:=⟨h3.push _,g,d,tk+1,os⟩) W4
 ·intro h5 W5 o5 z5
  wp_walk using EW.set0 (s:=⟨h5,g,d,tk+1,os⟩) W5
  intro h6 W6 o6 z6
  wp_walk using EW.set1 (s:=⟨h6,g,d,tk+1,os⟩) W6
  intro h7 W7 o7 z7
  wp_walk
  exact ⟨_,rfl,hQ h7 tk _ _ _ _ W7 (.inr ⟨_,rfl⟩) (o7 _ _ far0 far1 (o6 _ _ far0 far1 (o5 _ _ far0 far1 pr))) (ol.more.on (o5.on (o6.on o7)))⟩
 ·intro h5 f W5 o5 z5
  wp_walk
  exact ⟨_,rfl,hQ h5 tk _ _ _ _ W5 hf (o5 _ _ far0 far1 pr) (ol.more.on o5)⟩
theorem Y7 {Q:PySem.Fin->Shared->Prop} (hh:A.handled=none) (W:EW n k l i j xs f0 f1 old s.heap) (he:xs[i]?=none) (hE:∀ h' e,BC n s.heap h'->(∃ o,h'.get? e=some o/\o.cls=.type "StopIteration")->E (.ref e) { s with heap:=h' }) :
  wpAny (model prog w) A (Builtin.«enumerate.__next__» ⟨[.ref (n+1)],[]⟩) Q E s:=by
 obtain ⟨h,g,d,tk,os⟩:=s
 dsimp only at W hE
 wp_walk using W.inner,Jm hh W.w W.s he
 exact λh' e x y=>hE h' e (λc o c1 _ q=>x c o c1 q) y
def Fk (k:Bool) (n l i:Nat) (h:Heap):Prop:=∃ f0 f1 old,ZF f0/\h.get? (n+1)=some { cls:=.type "enumerate",dict:=none,data:=.fields #[f0,f1,.ref n,.int i 0,.none,old],slots:=#[] }/\Cm k h n l i
theorem EW.tn {h:Heap} (W:EW n k l i i xs f0 f1 old h) (hf:ZF f0):Fk k n l i h:=⟨f0,f1,old,hf,W.z,W.w⟩
theorem X7 {tg:Expr} {u:Value} {Q:Unit->Shared->Prop} (W:EW n k l i j xs f0 f1 old s.heap) (hf:ZF f0) (hQ:∀ h' f,EW n k l i j xs f f1 old h'->ZF f->BC n s.heap h'->Q () { s with heap:=h' }):wpAny (model prog w) A (letOwnedTupleGo tg (.ref (n+1)) u) Q E s:=by
 have same:Q () s:=hQ s.heap _ W hf (BC.refl _ _)
 obtain ⟨h,g,d,tk,os⟩:=s
 have z:=W.z
 dsimp only at z
 unfold letOwnedTupleGo
 cases tg <;> try exact wpAny_pure same
 all_goals cases u <;> try exact wpAny_pure same
 all_goals
  wp_walk
  split
  ·exact wpAny_bind (wpAny_rule (W.set0 (s:=⟨h,g,d,tk,os⟩) (v:=.none) λh' V o z=>hQ h' _ V (.inl rfl) o))
  ·exact wpAny_pure same
theorem Ry {M:Model} {c:Value} {Q:Bool->Shared->Prop} (h:∀ b,Q b s):wpAny M A (Builtin.SmallTypes.calledThroughType c) Q E s:=wpAny_bind (wpAny_stack_any λ_=>wpAny_pure (h _))
end
theorem Y5 (k:Bool) (l:Addr) (xs:Array Value) :
  Meets (Builtin.«enumerate.__new__» ⟨[.type "enumerate",.ref l],[]⟩) (λ_ R s=>Bz k s.heap l xs /\
   ∀ h',EW s.heap.objs.size k l 0 0 xs .none (.bool false) .none h'->(∀ c o,s.heap.get? c=some o->h'.get? c=some o)->R (.ok (.ret (.ref (s.heap.objs.size+1)))) { s with heap:=h' }):=
 .of_wp λprog w A R s q=>by
  obtain ⟨h,g,d,tk,os⟩:=s
  obtain ⟨t,q⟩:=q
  have hsub:=sub_enumerate
  have lt:l<h.objs.size:=by
   cases k with
   | true=>obtain ⟨o,g,_⟩:=(t:h.IsList l xs); exact Heap.lt_size g
   | false=>obtain ⟨o,g,_⟩:=(t:h.IsTuple l xs); exact Heap.lt_size g
  wp_walk using Ry
  intro b
  have fin:∀ a,a.isFreed=false->(∀ (h:Heap) c,h.get? c=some a->Cm k h c l 0)->R (.ok (.ret (.ref (h.push a).objs.size))) ⟨(h.push a).push { cls:=.type "enumerate",data:=.fields #[.none,.bool false,.ref h.objs.size,.int 0 0,.none,.none] },g,d,tk,os⟩:=λa fa ia=>by
   have up:∀ c u,h.get? c=some u->((h.push a).push { cls:=.type "enumerate",data:=.fields #[.none,.bool false,.ref h.objs.size,.int 0 0,.none,.none] }).get? c=some u:=λc u e=>Heap.get?_push_of_some _ (Heap.get?_push_of_some _ e)
   rw [Heap.size_push]
   refine q _ ⟨?_,ia _ _ (Heap.get?_push_of_some _ (Heap.get?_push_size _ fa)),t.at (up _),lt⟩ up
   rw [<- Heap.size_push h a]
   exact Heap.get?_push_size _ rfl
  cases b
  all_goals
   wp_walk using LJ t
   intro a fa ia
   wp_walk
   exact ⟨_,rfl,fin a fa ia⟩
theorem ZN {prog:Program} {w:World} {A:Around} {E:Value->Shared->Prop} {s:Shared} {k:Bool} {l:Addr} {xs:Array Value} {Q:Value->Shared->Prop} (t:Bz k s.heap l xs)
  (hQ:∀ h',Fk k s.heap.objs.size l 0 h'->(∀ c o,s.heap.get? c=some o->h'.get? c=some o)->Q (.ref (s.heap.objs.size+1)) { s with heap:=h' }):wpAny (model prog w) A (call (.type "enumerate") [.ref l]) Q E s:=
 callType_new F.called_enumerate wE (F.typeCall_enumerate_1 _) (F.newCall_enumerate_1 _) (λobj=>F.args_object_init_2 obj _) F.entry_enumerate_new (Y5 k l xs) ⟨t,λh' W up=>⟨⟨_,W.z,rfl⟩,hQ h' (W.tn (.inl rfl)) up⟩⟩
def MF (k:Bool) (K:PySem.W.Frag) (l:Addr):It:=
  ⟨λi H=>∃ as a,Sq k K H l as/\as[i]?=some a,
   λi H x H'=>∃ T a,H T=none/\H'=Ap H T (.tup [.int (i:Nat),a])/\x=.ref T/\∀ as,Sq k K H l as->as[i]?=some a,
   λi H=>∃ as,Sq k K H l as/\as.length<=i⟩
def DA (n:Nat):List Addr:=[n,n+1]
theorem YS {k:Bool} {n l i:Nat} {h h':Heap} (st:Fk k n l i h) (q:∀ b∈DA n,∀ o,h.get? b=some o->h'.get? b=some o):Fk k n l i h':=by
 obtain ⟨f0,f1,old,hf,z,w⟩:=st
 exact ⟨f0,f1,old,hf,q _ (by simp [DA]) _ z,w.at (q _ (by simp [DA]))⟩
theorem PR {k:Bool} {n l i:Nat} {h:Heap} (st:Fk k n l i h):∀ b∈DA n,∃ o,h.get? b=some o/\∀ v,o.data≠.cell v:=by
 obtain ⟨f0,f1,old,hf,z,w⟩:=st
 intro b hb
 rcases List.mem_cons.mp hb with rfl | hb
 ·exact w.obj
 ·cases List.mem_singleton.mp hb
  exact ⟨_,z,λv e=>by cases e⟩
theorem BC.fp {n:Nat} {h h':Heap} (p:BC n h h'):∀ c o,c∉DA n->h.get? c=some o->h'.get? c=some o:=λc o hc=>p c o (λe=>hc (by simp [DA,e])) (λe=>hc (by simp [DA,e]))
theorem Rr {P:Program} {w:World} {K:PySem.W.Frag} {tg:Expr} (k:Bool) (n l:Nat) (hl:l<n):EJ P w K tg (MF k K l) (DA n) (n+1) (Fk k n l) where
 mem:=by simp [DA]
 obj:=λi h st=>PR st
 keep:=λi h h' st q=>YS st q
 item:=by
  intro X hP hw hK hc i pins s σ H E I hf st hg
  subst hP hw hK
  obtain ⟨as,a,q1,ga⟩:=hg
  obtain ⟨ia,va,sa,_⟩:=DG I q1
  obtain ⟨ua,hua,rua⟩:=va.get ga
  have hTn:s.heap.objs.size∉DA n:=λm=>let ⟨o,e,_⟩:=PR st _ m; Nat.lt_irrefl _ (Heap.lt_size e)
  obtain ⟨f0,f1,old,zf,z,w1⟩:=st
  refine HR ⟨_,z,rfl⟩ F.slot_enumerate_next F.entry_enumerate_next (F.args_enumerate_next_1 _) (Y6 (x:=ua) ⟨z,w1,sa,hl⟩ zf (by simpa using hua) λh1 t f0' f1' old' tk' W1 zf1 pr o1=>⟨_,rfl,X7 (s:={ s with heap:=h1,toks:=tk' }) W1 zf1 λh2 f W2 zf2 o2=>?_⟩)
  have Iz:L2.Inv X pins σ H { s with heap:=h2,toks:=tk' }:=IT I hf (o1.on o2).fp
  have fr:H s.heap.objs.size=none:=I.hok.fresh (Nat.le_refl _)
  refine ⟨.ref s.heap.objs.size,Ap H s.heap.objs.size (.tup [.int (i:Nat),a]),?_,rfl,⟨_,a,fr,rfl,rfl,λcs q=>?_⟩,?_,λc hb=>?_⟩
  ·refine QJ Iz (I.fpOk (Nat.le_refl _) fr) I.sz ⟨show 2<=sizeLine by decide,[.int i t,ua],.cons ⟨t,rfl⟩ (.cons rua .nil),?_⟩
   exact ⟨_,o2.fp _ _ hTn pr,rfl,rfl,_,rfl⟩
  ·rw [MG I q q1]; exact ga
  ·exact EW.tn (i:=i+1) W2 zf2
  ·rw [AB (λe=>hTn (by rw [<- e]; exact hb))]; exact (hf c hb).1
 done:=by
  intro X hP hw hK hc i pins s σ H E I hf st hg
  subst hP hw hK
  obtain ⟨as,q1,hend⟩:=hg
  obtain ⟨ia,va,sa,_⟩:=DG I q1
  obtain ⟨f0,f1,old,zf,z,w1⟩:=st
  have e1:=va.length
  exact HR ⟨_,z,rfl⟩ F.slot_enumerate_next F.entry_enumerate_next (F.args_enumerate_next_1 _) (Y7 (I.ok.hd hc) ⟨z,w1,sa,hl⟩ (by simp; omega) λh' e p q=>⟨q,rfl,IT (t':=s.toks) I hf p.fp⟩)
 self:=λA i s Q E st h=>by
  obtain ⟨f0,f1,old,zf,z,_⟩:=st
  exact OA ⟨_,z,rfl⟩ F.slot_enumerate_iter F.entry_enumerate_iter (F.args_enumerate_iter_1 _) F.slot_enumerate_next (wpAny_pure ⟨rfl,rfl⟩) h
theorem XF {K:PySem.W.Frag} {G:Wd} {k:Bool} {l:Addr} {vs:List V} {xs:List D} (h1:Sq k K G.g l vs) (r1:Aj K G xs vs):DD K G (MF k K l) (xs.zipIdx.map λp=>.tup [.int (p.2:Nat),p.1]) where
 go:=λi H e hi=>by
  have hi:i<xs.length:=by simpa using hi
  obtain ⟨a,ha,_⟩:=r1.get (i:=i) (d:=xs[i]) (by simp)
  exact ⟨vs,a,h1.same e,ha⟩
 stop:=λi H e hi=>by
  have hi:xs.length<=i:=by simpa using hi
  exact ⟨vs,h1.same e,by rw [<- r1.length]; exact hi⟩
 yld:=λi v H H' G2 O2 e s y hi=>by
  obtain ⟨T,a,hT,rfl,rfl,y1⟩:=y
  obtain ⟨x,hx,ix⟩:=r1.getV (y1 vs (h1.same (e.g.trans s.sub)))
  obtain ⟨e3,s3⟩:=s.laid (o:=.tup [.int (i:Nat),a]) hT
  refine ⟨.tup [.int (i:Nat),x],_,?_,e3,s3,.tup (A1.of AW) (.cons (.int _) (.cons (ix.ext (e.trans e3)) .nil))⟩
  rw [List.getElem?_map,List.getElem?_zipIdx,hx]
  simp
section
variable {X:Cx} {ρ:Ai} {O:Ae} {e a b c:Expr} {es:List Expr} {d da db:D} {ds:List D} {R:D->Ae->Prop} {pos p:Pos} {x:Str} {xs ys:List D}
theorem Yo (ha:Ad X ρ O a da) (fa:LF da xs) (hm:X.mg "enumerate" = none) (hg:Gl X "enumerate" := by rfl) (hs:starEach [a] X.env=[(false,eval a X.env)]:=by rfl) :
  F9 X ρ O (.Call (.Name "enumerate" p) [a] [] pos) (xs.zipIdx.map λp=>.tup [.int (p.2:Nat),p.1]) "enumerate" := λG tg pins s σ H R I sa en k=>by
 refine Call_ (EE I hg hm boot_enumerate (PyProof.Rows.callWith_type1 (Al (Ab ha Af hs G pos pins s σ H (λvs H'=>∃ G',Ah G G'/\SA X.K G' H' O/\Aj X.K G' [da] vs) I ⟨sa,en,λvs G' H' e1 s1 i1=>⟨G',e1,s1,i1⟩⟩) λus s1 ⟨vs,H1,I1,r1,G1,e1,sa1,is1⟩=>?_) (by rw [hs]; rfl) rfl))
 cases is1 with | cons i1 is1=>
 cases is1
 obtain ⟨k1,l1,v1,rfl,q1,j1⟩:=fa.sq i1
 obtain ⟨u,rfl,ru⟩:=DI r1
 cases ru
 obtain ⟨t1,w1,g1,z1⟩:=DG I1 (q1.same sa1.sub)
 have lt:l1<s1.heap.objs.size:=by
  cases k1 with
  | true=>obtain ⟨o,g,_⟩:=(g1:s1.heap.IsList l1 _); exact Heap.lt_size g
  | false=>obtain ⟨o,g,_⟩:=(g1:s1.heap.IsTuple l1 _); exact Heap.lt_size g
 refine ZN g1 λh' Z kp=>?_
 have Ik:L2.Inv X pins σ H1 { s1 with heap:=h',toks:=s1.toks }:=I1.kept kp
 refine ⟨⟨s1.heap.objs.size+1,DA s1.heap.objs.size,Fk k1 s1.heap.objs.size l1,MF k1 X.K l1,H1,rfl,Ik,Rr k1 _ l1 lt,Z,λb hb=>?_,k _ G1 H1 e1 sa1 (XF q1 j1)⟩,?_⟩
 ·have hb':s1.heap.objs.size<=b:=by
   rcases List.mem_cons.mp hb with rfl | hb
   ·exact Nat.le_refl _
   ·cases List.mem_singleton.mp hb; exact Nat.le_succ _
  exact I1.fpOk hb' (I1.hok.fresh hb')
 ·obtain ⟨f0,f1,old,_,hz,_⟩:=Z
  exact ⟨_,hz,rfl⟩
theorem Yn {α:Type} {f:α->D} {as:List α} (ha:Ad X ρ O a da) (fa:LF da (as.map f)) (hm:X.mg "enumerate" = none) (hg:Gl X "enumerate" := by rfl) (hs:starEach [a] X.env=[(false,eval a X.env)]:=by rfl) :
  F9 X ρ O (.Call (.Name "enumerate" p) [a] [] pos) (as.zipIdx.map λp=>.tup [.int (p.2:Nat),f p.1]) "enumerate" := by
 have e:(as.zipIdx.map λp=>D.tup [.int (p.2:Nat),f p.1])=((as.map f).zipIdx.map λp=>D.tup [.int (p.2:Nat),p.1]):=by
  rw [List.zipIdx_map,List.map_map]
  rfl
 rw [e]
 exact Yo ha fa hm hg hs
end
end DL
namespace DL
open PySem PySem.Spec PyProof.Rows L2
section
variable {X:Cx} {ρ:Ai} {O:Ae} {e a b c o value:Expr} {es:List Expr} {d da db:D} {ds:List D} {R:D->Ae->Prop} {pos p p2 apos pos':Pos} {x y f m:Str} {rest:List Stmt} {P:A3} {q:Nat} {C C2:Addr} {fs:List (Str×D)}
theorem GQ {i:Int} {t:Tok} (hm:X.mg x=some (.int i t)) (hg:Gl X x:=by rfl) (hd:(x==("__debug__" : Str))=false:=by decide):Ad X ρ O (.Name x pos) (.int i):=λG=>
 PE.imp (HJ (v:=.int i) hg hm ⟨t,rfl⟩ hd) λσ H Q ⟨h1,h2,h3⟩=>h3 _ G H (Ah.refl _) h1 (.int i)
structure Br (K:PySem.W.Frag) (C:Addr):Prop where
 cls:Bn K C
 ha:PySem.W.findIn K (.ref C) "__class__" = some (some (.builtin "object.__class__"))
 hn:PySem.W.specialIn K (.builtin "object.__class__") "__get__" = some (some (.builtin "getset_descriptor.__get__"))
 htk:PySem.W.takesIn K (.builtin "object.__class__")=some true
 hm:PySem.W.mroIn K C (.type "object")=some true
theorem Fj {k:Bool} (hm:X.mg "isinstance" = none) (he:Ad X ρ O e (.ptr q)) (hq:O[q]?=some (some (.ins C fs))) (T:Br X.K C) (hx:X.mg x=some (.ref C2)) (hk:PySem.W.kitOne X.K (.ref C) (.ref C2)=some k)
  (hg:Gl X "isinstance" := by rfl) (hgx:Gl X x:=by rfl) (hdx:(x==("__debug__" : Str))=false:=by decide) (hs:starEach [e,.Name x p2] X.env=(false,eval e X.env)::starEach [.Name x p2] X.env:=by rfl) (hpl:(backTo pos (starEach [.Name x p2] X.env)).any (·.1)=false:=by rfl) :
  Ad X ρ O (.Call (.Name "isinstance" p) [e,.Name x p2] [] pos) (.bl k):=λG=>by
 refine PE.imp (FO (id := "isinstance") (r:=λvs H Q=>∃ a dx fs,vs=[.ref a,.ref C2]/\H a=some (.ins C dx fs)/\Q (.bl k) H) (λpins s σ H xs us Q I r h=>?_) hg hm (by first | rfl | decide +kernel) (Cq (he G) (Cq (HJ (v:=.ref C2) hgx hx rfl hdx) DN rfl) hs) wE wE hs hpl) λσ H Q ⟨h1,h2,h3⟩=>?_
 ·obtain ⟨a,dx,fs,rfl,ha,hQ⟩:=h
  obtain ⟨u,u',rfl,ru,ru'⟩:=Ds r
  cases ru'
  exact Pf I ru (.ins ha T.cls T.ha T.hn T.htk T.hm) hk λtk=>⟨.bl k,H,I.kept λ_ _ e=>e,rfl,hQ⟩
 ·refine ⟨h1,h2,λv G1 H1 e1 s1 i1=>?_⟩
  obtain ⟨a,dx,vs,rfl,g1,g2,g3⟩:=s1.ins i1 hq
  exact ⟨a,dx,vs,rfl,g2,h3 _ G1 H1 e1 s1 (.bl k)⟩
structure EL (P:Program) (w:World) (K:PySem.W.Frag) (mg:Str->Option Value) (base:Heap) (x:Str) (k:Nat) (m:Str) (sp:AE):Prop where
 ex:∃ C mc f fd ps,mg x=some (.ref C)/\PySem.W.specialIn K (.ref C) "__getattribute__" = some (some (.builtin "type.__getattribute__"))/\PySem.W.readsIn K C mc=true/\PySem.W.findCls K (.ref C) mc m=some (.val (.ref f))/\PySem.W.handedIn (.ref f)=true /\
  AC P w K mg base AO k f fd ps (AR K sp)/\PySem.W.keepIn K (.ref f)=true/\Binds K fd ps []
theorem GM {k:Nat} {sp:AE} {pl:Sem Bool} (M:EL X.prog X.w X.K X.mg X.base x k m sp) (hr:AM k X.A) (ha:Bd X ρ O (e::es) ds) (hs:sp ds O R) (hg:Gl X x:=by rfl) (hdb:(x==("__debug__" : Str))=false:=by decide)
  (hst:starEach (e::es) X.env=(false,eval e X.env)::starEach es X.env:=by rfl) (hpl:(backTo pos (starEach es X.env)).any (·.1)=false:=by rfl)
  (ht:eval (.Call (.Attribute (.Name x p) m apos) (e::es) [] pos) X.env=(do
   let ov <- eval (.Name x p) X.env
   standAt apos.atName
   let (f,first) <- holding [ov] (getMethod ov m pl)
   callWith pos f first (backTo pos (starEach (e::es) X.env)) (backToKw pos (keywordEach [] X.env))):=by rfl):Ev X ρ O (.Call (.Attribute (.Name x p) m apos) (e::es) [] pos) R:=λG pins s σ H Q I ⟨h1,h2,h3⟩=>by
 obtain ⟨C,mc,f,fd,ps,g1,g2,g3,g4,g5,g6,g7,g8⟩:=M.ex
 refine PySem.W.methodCall_KW (pl:=pl) (DQ I hg g1 (PySem.W.method_cls I.kIn g2 (PySem.W.cls_value I.kIn g3 g4 g5 ?_)) hdb) ht
 have I1:L2.Inv X pins σ H { s with toks:=s.toks+1 }:=I.kept λ_ _ e=>e
 refine PySem.W.callWith_K (first:=[]) (h₀:=X.base) I.ok.mod.kin g7 (Al (ha G pos pins _ σ H (λvs H'=>∃ G',Ah G G'/\SA X.K G' H' O/\Aj X.K G' ds vs) I1 ⟨h1,h2,λvs G' H' e1 s1 i1=>⟨G',e1,s1,i1⟩⟩) λus s2 ⟨vs,H2,I2,r,G1,e1,s1,i1⟩=>⟨I2.kIn,?_⟩) hst hpl
 refine HD (us:=us) (vs:=vs) (dvs:=[]) (E:=E0) g6 hr g8 .nil Gz I2 r ?_
 show AR X.K sp (vs++[]) H2 Q E0
 rw [List.append_nil]
 exact ⟨G1,O,ds,R,s1,i1,hs,λv d O' G' H' e2 s2 i2 r2=>h3 v d O' G' H' (e1.trans e2) s2 i2 r2⟩
end
def Fw (X:Cx) (ρ:Ai) (O:Ae) (e:Expr) (R:Bool->Ae->Prop):Prop:=
 ∀ G,PT X e (λσ H Q=>SA X.K G H O/\Au X.K G σ ρ/\∀ k O' G' H',Ah G G'->SA X.K G' H' O'->R k O'->Q k H')
section
variable {X:Cx} {ρ:Ai} {O:Ae} {e a b c:Expr} {body orelse:List Stmt} {d da db:D} {pos:Pos} {P:A3}
theorem YV {op:CmpOp} {Ra:D->Ae->Prop} {R:Bool->Ae->Prop} (ha:Ev X ρ O a Ra) (hb:∀ da O1,Ra da O1->∃ db k,Ad X ρ O1 b db/\AY X O1 (compareOp op) da db (.bl k)/\R k O1) (hm:behindInMarks op b=false:=by first | exact HQ _ | (with_unfolding_all rfl)) :
  Fw X ρ O (.Compare a [op] [b] pos) R:=λG pins s σ H Q I ⟨h1,h2,h3⟩=>by
 refine wpAny_isTrue_Compare1 (Al (ha G pins s σ H _ I ⟨h1,h2,λv da O1 G1 H1 e1 s1 i1 r1=>(⟨G1,da,O1,e1,s1,i1,r1⟩:∃ G1 da O1,Ah G G1/\SA X.K G1 H1 O1/\Is X.K G1 da v/\Ra da O1)⟩) λv s1 ⟨x,H1,I1,r1,G1,da,O1,e1,sa1,i1,ra⟩=>?_) hm
 obtain ⟨db,k,g1,g2,g3⟩:=hb da O1 ra
 refine Al (g1 G1 pins s1 σ H1 _ I1 ⟨sa1,h2.ext e1,λu G2 H2 e2 s2 i2=>(⟨G2,e2,s2,i2⟩:∃ G2,Ah G1 G2/\SA X.K G2 H2 O1/\Is X.K G2 db u)⟩) λu s2 ⟨y,H2,I2,r2,G2,e2,sa2,i2⟩=>?_
 refine Al (g2 G2 pins s2 σ H2 x y v u _ I2 r1 r2 ⟨sa2,i1.ext e2,i2,λw G3 H3 e3 s3 i3=>(⟨G3,e3,s3,i3⟩:∃ G3,Ah G2 G3/\SA X.K G3 H3 O1/\Is X.K G3 (.bl k) w)⟩) λz s3 ⟨zv,H3,I3,r3,G3,e3,sa3,i3⟩=>?_
 cases i3
 cases r3
 exact wpAny_truthy_bool ⟨H3,I3,h3 k O1 G3 H3 ((e1.trans e2).trans e3) sa3 g3⟩
theorem MQ {R:Bool->Ae->Prop} (hc:Fw X ρ O c R) (h:∀ k O',R k O'->(k=true->Exs X ρ O' body P)/\(k=false->Exs X ρ O' orelse P)):Ex X ρ O (.If c body orelse pos) P:=λG=>
 PS.imp (Lb (hc G) (t:=λE σ H=>∃ G1 O',R true O'/\SA X.K G1 H O'/\Au X.K G1 σ ρ/\Cy X.K G1 P E) (λpins s σ H E I ⟨G1,O',z,q⟩=>(h true O' z).1 rfl G1 pins s σ H E I q)
  (u:=λE σ H=>∃ G1 O',R false O'/\SA X.K G1 H O'/\Au X.K G1 σ ρ/\Cy X.K G1 P E) (λpins s σ H E I ⟨G1,O',z,q⟩=>(h false O' z).2 rfl G1 pins s σ H E I q)) λE σ H ⟨q1,q2,q3⟩=>
  ⟨q1,q2,λk O' G' H' e1 s1 r1=>by
   cases k with
   | true=>exact HZ ⟨G',O',r1,s1,q2.ext e1,q3.ext e1⟩
   | false=>exact H0 ⟨G',O',r1,s1,q2.ext e1,q3.ext e1⟩⟩
end
section
variable {X:Cx} {ρ:Ai} {O:Ae} {a b:Expr} {pos:Pos} {R:D->Ae->Prop} {xs:List D}
end
end DL
namespace DL
open PySem PySem.Spec PyProof.Rows L2 PySem.W
section
variable {X:Cx} {ρ:Ai} {O:Ae} {d:D} {xs ys:List D}
theorem PD {es:List Expr} {R:D->Ae->Prop} {pos:Pos} (h:EQ X ρ O es λds O'=>ds.length<=sizeLine/\R (.lst ds) O'):Ev X ρ O (.List es pos) R:=λG=>
 PE.imp (Lg (h G)) λσ H Q ⟨h1,h2,h3⟩=>⟨h1,h2,λvs ds O1 G1 H1 e1 s1 i1 ⟨hz,r⟩=>⟨by rw [<- i1.length]; exact hz,λp hp=>by
  obtain ⟨e2,s2⟩:=s1.laid (o:=.lst vs) hp
  exact h3 _ _ _ _ _ (e1.trans e2) s2 (.lst AW (i1.ext e2)) r⟩⟩
theorem Aj.toBls {K:PySem.W.Frag} {G:Wd}:∀ {bs:List Bool} {vs:List V},Aj K G (bs.map D.bl) vs->vs=bs.map V.bl
 | [],_,.nil=>rfl
 | b::bs,_,.cons h r=>by cases h; rw [Aj.toBls r]; rfl
theorem Qr (bt:Nat->Nat->Bool):∀ k,argBest bt k<=k
 | 0=>Nat.le_refl _
 | k+1=>by
  have:=Qr bt k
  unfold argBest
  split <;> omega
end
structure G6 (K:PySem.W.Frag) (x qual:Str) (st:Stmt) (f:Addr) (fd:FuncData) (dv:List Value):Prop where
 ex:∃ (T:Addr) (cT:Value) (dT:Option Addr) (nT:Nat) (sT:Array (Option Value)) (oc:Value) (od:Option Addr) (kV doc pm:Value) (an:Option Addr) (cdv ct:Value) (osl:Array (Option Value)),
  fd=PySem.W.fnOf x qual (CY st) (BR st) (Ak st) (.ref T) kV doc pm an cdv ct/\K.lookup f=some ⟨oc,od,.func fd,osl⟩/\PySem.W.codeIn K cdv qual=true/\K.lookup T=some ⟨cT,dT,.seq dv.toArray nT,sT⟩
 kp:PySem.W.keepIn K (.ref f)=true
theorem Yg {K:PySem.W.Frag} {x qual:Str} {st:Stmt} {f T:Addr} {cT oc:Value} {dT od an:Option Addr} {nT:Nat} {sT osl:Array (Option Value)} {kV doc pm cdv ct:Value} {dv:List Value} (l:K.lookup f=some ⟨oc,od,.func (PySem.W.fnOf x qual (CY st) (BR st) (Ak st) (.ref T) kV doc pm an cdv ct),osl⟩)
  (t:K.lookup T=some ⟨cT,dT,.seq dv.toArray nT,sT⟩) (c:PySem.W.codeIn K cdv qual=true) (k:PySem.W.keepIn K (.ref f)=true):G6 K x qual st f (PySem.W.fnOf x qual (CY st) (BR st) (Ak st) (.ref T) kV doc pm an cdv ct) dv:=⟨⟨T,cT,dT,nT,sT,oc,od,kV,doc,pm,an,cdv,ct,osl,rfl,l,c,t⟩,k⟩
theorem G6.binds {K:PySem.W.Frag} {x qual:Str} {st:Stmt} {f:Addr} {fd:FuncData} {dv rest:List Value} {ps:List Str} (F:G6 K x qual st f fd dv)
  (h:∀ (T:Addr) (kV doc pm:Value) (an:Option Addr) (cdv ct:Value) (us:List Value),(us++rest).length=ps.length->∃ k,bindArgs (PySem.W.fnOf x qual (CY st) (BR st) (Ak st) (.ref T) kV doc pm an cdv ct) ⟨us,[]⟩=seqItems? (.ref T) >>= k/\k (some dv.toArray)=pure (ps.zip (us++rest))):Binds K fd ps rest:=by
 obtain ⟨T,cT,dT,nT,sT,oc,od,kV,doc,pm,an,cdv,ct,osl,rfl,l,c,t⟩:=F.ex
 intro s us X hl
 obtain ⟨k,h1,h2⟩:=h T kV doc pm an cdv ct us hl
 exact PySem.W.binds_K X rfl t rfl h1 h2
section
variable {P:Program} {w:World} {K:PySem.W.Frag} {mg:Str->Option Value} {base:Heap}
theorem WJ {x qual:Str} {st:Stmt} {f:Addr} {fd:FuncData} {N ps:List Str} {k:Nat} {sp:AE} {dv:List Value} (F:G6 K x qual st f fd dv) (S:Ax N ps (Ak st))
  (len:∀ ds O R,sp ds O R->ds.length=ps.length)
  (hbody:∀ (cdv:Value) (A:Around) (outer:List Env) (s:Shared) (H:Hp) (E:XK) (ds:List D) (O:Ae) (R:D->Ae->Prop),AM k (A.deeper (envOfC qual (Ak st) s.heap.objs.size f cdv))->sp ds O R->
   Exs (CZ AO P w K mg base N qual (Ak st) f cdv A outer s H E).nox (EC N ds) O (BR st) { nx:=λ_ O'=>R .non O',rt:=R }):AC P w K mg base AO (k+1) f fd ps (AR K sp):=by
 obtain ⟨T,cT,dT,nT,sT,oc,od,kV,doc,pm,an,cdv,ct,osl,rfl,l,c,t⟩:=F.ex
 refine L0 l c S (λvs H Q E h=>?_) λA outer s H vs Q E hr h=>?_
 ·obtain ⟨G,O,ds,R,h1,h2,h3,h4⟩:=h
  rw [<- h2.length]
  exact len _ _ _ h3
 ·obtain ⟨G,O,ds,R,h1,h2,h3,h4⟩:=h
  exact ⟨_,(hbody cdv A outer s H E ds O R hr h3 G).nox,h1,Hl h2,⟨λσ ρ O' G' H' e1 s1 n1 q=>h4 _ _ O' G' H' e1 s1 .non q,λv d O' G' H' e1 s1 i1 q=>h4 v d O' G' H' e1 s1 i1 q,λσ ρ O' G' H' e1 s1 n1 q=>q.elim,λσ ρ O' G' H' e1 s1 n1 q=>q.elim⟩⟩
end
section
variable {X:Cx} {ρ:Ai} {O:Ae} {a:Expr} {pos p:Pos} {R:D->Ae->Prop} {xs:List D} {d:D}
end
def Fg (ps:List (Int×Int)):Int×Int:=ps.getD (argBest (λi j=>AQ (ps.getD i (0,0)) (ps.getD j (0,0))) (ps.length-1)) (0,0)
theorem OU (g:Nat->Int×Int):∀ k i,i<=k->AQ (g i) (g (argBest (λi j=>AQ (g i) (g j)) k))=false
 | 0,i,h=>by
  have:i=0:=by omega
  subst this
  show AQ (g 0) (g 0)=false
  unfold AQ
  exact decide_eq_false wF
 | k+1,i,h=>by
  have ih:=OU g k
  unfold argBest
  by_cases hd:AQ (g (k+1)) (g (argBest (λi j=>AQ (g i) (g j)) k))=true
  ·rw [if_pos hd]
   by_cases he:i=k+1
   ·subst he; unfold AQ; exact decide_eq_false wF
   ·have:=ih i wF
    generalize argBest (λi j=>AQ (g i) (g j)) k=b at *
    unfold AQ at *
    have h1:=of_decide_eq_true hd
    have h2:=of_decide_eq_false this
    exact decide_eq_false wF
  ·rw [if_neg hd]
   by_cases he:i=k+1
   ·subst he; exact Bool.eq_false_iff.mpr hd
   ·exact ih i wF
theorem Xd {ps:List (Int×Int)} (h:ps≠[]):Fg ps∈ps:=by
 have h0:=List.length_pos_iff.mpr h
 unfold Fg
 rw [Il (by have:=Qr (λi j=>AQ (ps.getD i (0,0)) (ps.getD j (0,0))) (ps.length-1); omega)]
 exact List.getElem_mem _
theorem Xe {ps:List (Int×Int)} {q:Int×Int} (h:q∈ps):AQ q (Fg ps)=false:=by
 obtain ⟨i,hi,rfl⟩:=List.getElem_of_mem h
 have:=OU (λi=>ps.getD i (0,0)) (ps.length-1) i wF
 rw [Il hi] at this
 exact this
def GV (h:Heap) (v:Value) (p:Int×Int):Prop:=∃ a o n t u,v=.ref a/\h.get? a=some o/\o.cls=.type "tuple" /\ o.data=.seq #[.int p.1 t,.int p.2 u] n
section
variable {prog:Program} {w:World} {A:Around} {E:Value->Shared->Prop} {s:Shared}
theorem OT {a b:Int} {t u:Tok} {Q:Value->Shared->Prop} (h:Q (.bool (decide (a<b))) s):wpAny (model prog w) A (richCompare .Lt (.int a t) (.int b u)) Q E s:=
 CmpOf.ints_lt (P:=λi v=>v=if i=0 then .int a t else .int b u) (λi=>if i=0 then a else b) (λi v e=>⟨if i=0 then t else u,by subst e; split <;> rfl⟩) 0 1 _ _ s Q E rfl rfl h
theorem Xm {x y:Value} {p q:Int×Int} {Q:Value->Shared->Prop} (hx:GV s.heap x p) (hy:GV s.heap y q) (hu:A.units<cLine) (h:Q (.bool (AQ p q)) s):wpAny (model prog w) A (richCompare .Lt x y) Q E s:=by
 obtain ⟨a,oa,na,ta,ua,rfl,a1,a2,a3⟩:=hx
 obtain ⟨b,ob,nb,tb,ub,rfl,b1,b2,b3⟩:=hy
 have Ta:s.TypeIs (.ref a) "tuple" :=⟨oa,a1,a2⟩
 have Tb:s.TypeIs (.ref b) "tuple" :=⟨ob,b1,b2⟩
 refine wpAny_richCompare_same_room (op:=.Lt) Ta Tb PySem.F.slot_tuple_lt (wpAny_call_entry PySem.F.slot_tuple_lt Ta PySem.F.entry_tuple_lt ?_ (PySem.F.args_tuple_lt_2 _ _)) hu
 obtain ⟨h0,g,d,tk,os⟩:=s
 obtain ⟨ca,da,xa,sa⟩:=oa
 obtain ⟨cb,db,xb,sb⟩:=ob
 simp only at a2 a3 b2 b3
 subst a2 a3 b2 b3
 dsimp only at a1 b1
 have f2:=AutoSeq1.sub_tuple_tuple
 have hq1:((p.1==q.1)=true) ↔ p.1=q.1:=by simp
 by_cases e1:p.1=q.1
 ·have z1:(p.1==q.1)=true:=by simpa using e1
  by_cases e2:p.2=q.2
  ·have z2:(p.2==q.2)=true:=by simpa using e2
   have z:AQ p q=false:=by unfold AQ; exact decide_eq_false wF
   rw [z] at h
   wp_walk using wpAny_loadPart' a1,wpAny_loadPart' b1,wpAny_eqBool_int
   exact ⟨.bool false,rfl,λz=>(by cases z),h⟩
  ·have z2:(p.2==q.2)=false:=by simpa using e2
   have z:AQ p q=decide (p.2<q.2):=by unfold AQ; exact decide_eq_decide.mpr wF
   rw [z] at h
   wp_walk using wpAny_loadPart' a1,wpAny_loadPart' b1,wpAny_eqBool_int,OT
   exact ⟨_,rfl,λz=>(by cases z),h⟩
 ·have z1:(p.1==q.1)=false:=by simpa using e1
  have z:AQ p q=decide (p.1<q.1):=by unfold AQ; exact decide_eq_decide.mpr wF
  rw [z] at h
  wp_walk using wpAny_loadPart' a1,wpAny_loadPart' b1,wpAny_eqBool_int,OT
  exact ⟨_,rfl,λz=>(by cases z),h⟩
theorem Lu {R:Result->Shared->Prop} {I S:Addr} {fp wr:List Addr} {n:Nat} {P:Nat->Value->Prop} {St:Nat->Heap->Prop} {Kp:Heap->Prop} {bt:Nat->Nat->Bool} (W:Walks prog w A.in1 I fp wr n P St)
  (hc:∀ i j vi vj (s:Shared) (Q:Value->Shared->Prop) (E:Value->Shared->Prop),P i vi->P j vj->Kp s.heap->Q (.bool (bt i j)) s->wpAny (model prog w) A.in1 (richCompare .Lt vi vj) Q E s)
  (hK:∀ h h':Heap,Kp h->(∀ b o,b∉wr->b≠S->h.get? b=some o->h'.get? b=some o)->Kp h') (hS:S∉fp) :
  ∀ (k j:Nat) (s:Shared) (vb:Value) (c:Nat),j+1+k=n->St (j+1) s.heap->Kp s.heap->P (argBest bt j) vb->s.heap.get? S=some (Dk [vb,vb] c)->
   (∀ v h' tk,P (argBest bt (n-1)) v->(∀ b o,b∉wr->b≠S->s.heap.get? b=some o->h'.get? b=some o)->R (.ok (.ret v)) { s with heap:=h',toks:=tk })->codeAny (model prog w) A (.builtin "min.loop" ⟨[.ref I,.none,.ref S],[]⟩) R s
 | 0,j,s,vb,c,hk,st,kp,pb,own,fin=>by
  refine Fm F.plain_min_loop F.entry_min_loop ?_
  obtain ⟨h,g,d,tk,os⟩:=s
  have hn:j+1=n:=hk
  subst hn
  have nx:∀ (Q:Option Value->Shared->Prop) (E:Value->Shared->Prop) (f:Value->Sem (Option Value)),(∀ h' tk',(∀ b o,b∉wr->h.get? b=some o->h'.get? b=some o)->Q none ⟨h',g,d,tk',os⟩)->wpAny (model prog w) A.in1 ((pyNext (.ref I)).tryCatch f) Q E ⟨h,g,d,tk,os⟩:=λQ E f q=>wpAny_tryCatch (W.done _ _ _ st q)
  wp_walk using wpAny_seqItems own rfl,nx
  intro h' tk' ke
  have own':=ke S _ (λz=>hS (W.sub _ z)) own
  wp_walk using wpAny_updateSeq own' rfl
  exact fin vb _ _ pb λb o hb hbS e=>(Heap.get?_update_other _ _ (Ne.symm hbS)).trans (ke b o hb e)
 | k+1,j,s,vb,c,hk,st,kp,pb,own,fin=>by
  refine Fm F.plain_min_loop F.entry_min_loop ?_
  obtain ⟨h,g,d,tk,os⟩:=s
  have nx:∀ (Q:Option Value->Shared->Prop) (E:Value->Shared->Prop) (f:Value->Sem (Option Value)),(∀ v h' tk',P (j+1) v->St (j+2) h'->(∀ b o,b∉wr->h.get? b=some o->h'.get? b=some o)->Q (some v) ⟨h',g,d,tk',os⟩)->wpAny (model prog w) A.in1 ((pyNext (.ref I)).tryCatch f) Q E ⟨h,g,d,tk,os⟩:=λQ E f q=>wpAny_tryCatch (W.item _ _ _ _ wF st q)
  wp_walk using wpAny_seqItems own rfl,nx
  intro v h' tk' pv st' ke
  have own':=ke S _ (λz=>hS (W.sub _ z)) own
  have kp':Kp h':=hK h h' kp λb o hb _ e=>ke b o hb e
  have cmp:∀ (Q:Value->Shared->Prop) (E:Value->Shared->Prop),Q (.bool (bt (j+1) (argBest bt j))) ⟨h',g,d,tk',os⟩->wpAny (model prog w) A.in1 (richCompare .Lt v vb) Q E ⟨h',g,d,tk',os⟩:=λQ E q=>hc _ _ _ _ _ Q E pv pb kp' q
  wp_walk
  refine wpAny_tryCatch ?_
  have nm:(toString "min" ++ toString ".loop" : String) = "min.loop" := by decide
  rw [nm]
  have hb1:argBest bt (j+1)=if bt (j+1) (argBest bt j) then j+1 else argBest bt j:=rfl
  cases hz:bt (j+1) (argBest bt j) with
  | true=>
   rw [hz] at cmp hb1
   wp_walk using cmp,wpAny_truthy_bool,wpAny_updateSeq own' rfl
   refine ⟨plainId_quiet F.plain_min_loop _,Lu W hc hK hS k (j+1) _ v _ wF (W.frame _ _ _ st' λb hbf o e=>(Heap.get?_update_other _ _ (λz:S=b=>hS (by rw [z]; exact hbf))).trans e) (hK _ _ kp' λb o _ hbS e=>(Heap.get?_update_other _ _ (Ne.symm hbS)).trans e) (by rw [hb1]; exact pv) (Heap.get?_update_self _ own' rfl) λv2 h2 tk2 p2 ke2=>fin v2 h2 tk2 p2 λb o hbw hbS e=>ke2 b o hbw hbS ((Heap.get?_update_other _ _ (Ne.symm hbS)).trans (ke b o hbw e))⟩
  | false=>
   rw [hz] at cmp hb1
   wp_walk using cmp,wpAny_truthy_bool
   exact ⟨plainId_quiet F.plain_min_loop _,Lu W hc hK hS k (j+1) _ vb _ wF st' kp' (by rw [hb1]; exact pb) own' λv2 h2 tk2 p2 ke2=>fin v2 h2 tk2 p2 λb o hbw hbS e=>ke2 b o hbw hbS (ke b o hbw e)⟩
theorem Xc {R:Result->Shared->Prop} {I S:Addr} {fp wr:List Addr} {n:Nat} {P:Nat->Value->Prop} {St:Nat->Heap->Prop} {Kp:Heap->Prop} {bt:Nat->Nat->Bool} {c:Nat} (W:Walks prog w A.in1 I fp wr n P St)
  (hc:∀ i j vi vj (s:Shared) (Q:Value->Shared->Prop) (E:Value->Shared->Prop),P i vi->P j vj->Kp s.heap->Q (.bool (bt i j)) s->wpAny (model prog w) A.in1 (richCompare .Lt vi vj) Q E s)
  (hK:∀ h h':Heap,Kp h->(∀ b o,b∉wr->b≠S->h.get? b=some o->h'.get? b=some o)->Kp h') (hS:S∉fp) (hn:0<n) (st:St 0 s.heap) (kp:Kp s.heap) (own:s.heap.get? S=some (Dk [] c))
  (fin:∀ v h' tk,P (argBest bt (n-1)) v->(∀ b o,b∉wr->b≠S->s.heap.get? b=some o->h'.get? b=some o)->R (.ok (.ret v)) { s with heap:=h',toks:=tk }):codeAny (model prog w) A (.builtin "min.loop" ⟨[.ref I,.none,.ref S],[]⟩) R s:=by
 refine Fm F.plain_min_loop F.entry_min_loop ?_
 obtain ⟨h,g,d,tk,os⟩:=s
 have nx:∀ (Q:Option Value->Shared->Prop) (E:Value->Shared->Prop) (f:Value->Sem (Option Value)),(∀ v h' tk',P 0 v->St 1 h'->(∀ b o,b∉wr->h.get? b=some o->h'.get? b=some o)->Q (some v) ⟨h',g,d,tk',os⟩)->wpAny (model prog w) A.in1 ((pyNext (.ref I)).tryCatch f) Q E ⟨h,g,d,tk,os⟩:=λQ E f q=>wpAny_tryCatch (W.item _ _ _ _ hn st q)
 wp_walk using wpAny_seqItems own rfl,nx
 intro v h' tk' pv st' ke
 have own':=ke S _ (λz=>hS (W.sub _ z)) own
 wp_walk using wpAny_updateSeq own' rfl
 have nm:(toString "min" ++ toString ".loop" : String) = "min.loop" := by decide
 rw [nm]
 exact ⟨plainId_quiet F.plain_min_loop _,Lu W hc hK hS (n-1) 0 _ v _ wF (W.frame _ _ _ st' λb hbf o e=>(Heap.get?_update_other _ _ (λz:S=b=>hS (by rw [z]; exact hbf))).trans e) (hK _ _ (hK _ _ kp λb o hb _ e=>ke b o hb e) λb o _ hbS e=>(Heap.get?_update_other _ _ (Ne.symm hbS)).trans e) pv (Heap.get?_update_self _ own' rfl) λv2 h2 tk2 p2 ke2=>fin v2 h2 tk2 p2 λb o hbw hbS e=>ke2 b o hbw hbS ((Heap.get?_update_other _ _ (Ne.symm hbS)).trans (ke b o hbw e))⟩
theorem ZH {l:Addr} {its:List Value} {ps:List (Int×Int)} {Q:Value->Shared->Prop} (hh:A.handled=none) (hu:A.in1.units<cLine) (q:s.heap.IsList l its.toArray) (hv:∀ (i:Nat) (v:Value),its[i]?=some v->GV s.heap v (ps.getD i (0,0))) (hn:ps.length=its.length) (h0:0<ps.length)
  (h:∀ v h' tk,its[argBest (λi j=>AQ (ps.getD i (0,0)) (ps.getD j (0,0))) (ps.length-1)]?=some v->(∀ b o,s.heap.get? b=some o->h'.get? b=some o)->Q v { s with heap:=h',toks:=tk }):wpAny (model prog w) A (call (.builtin "min") [.ref l]) Q E s:=by
 obtain ⟨h1,g,d,tk,os⟩:=s
 dsimp only at q hv h
 have hl:l<h1.objs.size:=by obtain ⟨o,e,_⟩:=q; exact Heap.lt_size e
 refine call_function_tree F.kind_min F.plain_min F.entry_min (F.args_min1 (.ref l)) ?_
 have bp:Builtin.Builtins.bindParams "min" ["key","default"] 0 ⟨[],[]⟩=pure [none,none]:=rfl
 wp_walk using wpAny_pyIter_list q
 have nm:(toString "min" ++ toString ".loop" : String) = "min.loop" := by decide
 rw [nm]
 have W:=Walks.list (prog:=prog) (w:=w) (A:=A.in1) hh h1.objs.size l (Nat.ne_of_lt hl) its.toArray
 have ez:its.toArray.size=ps.length:=by simp [hn]
 have up:∀ b o,h1.get? b=some o->((h1.push { cls:=.type "list_iterator",data:=.fields #[.ref l,.int 0 0] }).push { cls:=.type "list",data:=.seq #[] }).get? b=some o:=λb o e=>Heap.get?_push_of_some _ (Heap.get?_push_of_some _ e)
 have es:(h1.push { cls:=.type "list_iterator",data:=.fields #[.ref l,.int 0 0] }).objs.size=h1.objs.size+1:=Heap.size_push ..
 refine ⟨plainId_quiet F.plain_min_loop _,Xc (c:=0) (Kp:=λh'=>∀ b o,h1.get? b=some o->h'.get? b=some o) (bt:=λi j=>AQ (ps.getD i (0,0)) (ps.getD j (0,0))) W (λi j vi vj s' Q' E' pi pj kp hq=>?_) (λh2 h3 kp ke b o e=>?_) ?_ (by rw [ez]; exact h0) ⟨⟨_,Heap.get?_push_of_some _ (Heap.get?_push_size _ rfl),rfl,rfl⟩,?_⟩ up (Heap.get?_push_size _ rfl) λv h2 tk2 pv ke=>?_⟩
 ·have far:∀ {x:Value} {p:Int×Int},GV h1 x p->GV s'.heap x p:=λ⟨a,o,n,t,u,e,e1,r⟩=>⟨a,o,n,t,u,e,kp a o e1,r⟩
  exact Xm (far (hv i vi (by simpa using pi))) (far (hv j vj (by simpa using pj))) hu hq
 ·have hb:=Heap.lt_size e
  refine ke b o (by simpa using Nat.ne_of_lt hb) (λz=>?_) (kp b o e)
  rw [z] at hb
  have hb:h1.objs.size+1<h1.objs.size:=by rw [<- es]; exact hb
  omega
 ·intro z
  have z:h1.objs.size+1∈[h1.objs.size,l]:=by rw [<- es]; exact z
  rcases List.mem_cons.mp z with z | z
  ·exact Nat.succ_ne_self _ z
  ·have z:=List.mem_singleton.mp z
   rw [<- z] at hl
   exact Nat.lt_irrefl _ (Nat.lt_of_succ_lt hl)
 ·obtain ⟨o,e,r⟩:=q
  exact ⟨o,up _ _ e,r⟩
 ·rw [ez] at pv
  refine h v h2 tk2 (by simpa using pv) λb o e=>ke b o (by simpa using Nat.ne_of_lt (Heap.lt_size e)) (λz=>?_) (up b o e)
  have hb:=Heap.lt_size e
  rw [z] at hb
  have hb:h1.objs.size+1<h1.objs.size:=by rw [<- es]; exact hb
  omega
end
section
variable {X:Cx} {O:Ae} {d:D} {k:Nat}
theorem ZQ {ps:List (Int×Int)} (hr:AM k X.A) (h:LV O d (ps.map pD)) (h0:ps≠[]) (hc:X.calm=true:=by rfl):BP X O (.builtin "min") [d] (pD (Fg ps)):=λG pins s σ H vs us Q I r ⟨h1,h2,h3⟩=>by
 cases h2 with | cons i r2=>
 cases r2
 obtain ⟨ad,ws,rfl,q,is⟩:=h.sq h1 i
 obtain ⟨u,rfl,ru⟩:=DI r
 cases ru
 obtain ⟨its,va,sq,_⟩:=I.list q
 have e1:=is.length
 have e2:=va.length
 rw [List.length_map] at e1
 have hp:=List.length_pos_iff.mpr h0
 have at':∀ i (v:Value),its[i]?=some v->∃ x,ws[i]?=some x/\AN x v/\∃ p,ps[i]?=some p/\Is X.K G (pD p) x:=λi v hv=>by
  have hi:i<ps.length:=by rw [e1,e2]; exact (List.getElem?_eq_some_iff.mp hv).1
  obtain ⟨x,hx,ix⟩:=is.get (i:=i) (d:=pD ps[i]) (by simp [hi])
  obtain ⟨z,hz,rz⟩:=va.get hx
  rw [hv] at hz
  cases hz
  exact ⟨x,hx,rz,ps[i],List.getElem?_eq_getElem hi,ix⟩
 refine ZH (ps:=ps) (I.ok.hd hc) (show X.A.in1.units<cLine from ?_) sq.isList (λi v hv=>?_) wF hp λv h' tk hv kp=>?_
 ·exact XW hr
 ·obtain ⟨x,hx,rx,p,hpp,ix⟩:=at' i v hv
  rw [List.getD_eq_getElem?_getD,hpp]
  cases ix with
  | tup hh rr=>
  cases rr with | cons j1 rr=>cases rr with | cons j2 rr=>
  cases rr
  cases j1
  cases j2
  cases rx
  obtain ⟨its2,v2,⟨o,g1,g2,n,g3⟩,_⟩:=I.tuple (C6 h1.sub hh)
  obtain ⟨u1,u2,rfl,q1,q2⟩:=Ds v2
  obtain ⟨t,rfl⟩:=q1
  obtain ⟨t',rfl⟩:=q2
  exact ⟨_,o,n,t,t',rfl,g1,g2,g3⟩
 ·obtain ⟨x,hx,rx,p,hpp,ix⟩:=at' _ v hv
  have e:Fg ps=p:=by
   unfold Fg
   rw [List.getD_eq_getElem?_getD,hpp]
   rfl
  rw [e] at h3
  exact ⟨x,H,I.kept kp,rx,h3 _ G H (Ah.refl _) h1 ix⟩
end
section
variable {X:Cx} {ρ:Ai} {O:Ae} {e:Expr} {p p2 pos pos2:Pos}
end
section
variable {X:Cx} {ρ:Ai} {O:Ae} {e:Expr} {es:List Expr} {ds:List D} {R:D->Ae->Prop} {pos p:Pos} {x:Str} {C:Addr}
end
end DL
namespace DL
open PySem PySem.Spec PyProof.Rows L2
section
variable {X:Cx} {ρ:Ai} {O:Ae} {a b:Expr} {pos:Pos}
theorem YX {R:Bool->Ae->Prop} (ha:Ev X ρ O a λd O'=>∃ k,d=.bl k/\R k O') (he:∀ whole,isTrue a X.env whole=(do let v <- whole; standAt a.pos; holding [v] (truthy v)):=by intro _; rfl):Fw X ρ O a R:=λG=>
 (Op (ha G) he).imp λσ H Q ⟨q1,q2,q3⟩=>⟨q1,q2,λv d O' G' H' e1 s1 i1 r=>by
  obtain ⟨k,rfl,r⟩:=r
  cases i1
  exact ⟨k,rfl,q3 k O' G' H' e1 s1 r⟩⟩
theorem YU {R:Bool->Ae->Prop} (ha:Fw X ρ O a λk O'=>R (!k) O'):Fw X ρ O (.UnaryOp .Not a pos) R:=λG=>
 (Oq (ha G)).imp λσ H Q ⟨q1,q2,q3⟩=>⟨q1,q2,λk O' G' H' e1 s1 r=>q3 (!k) O' G' H' e1 s1 r⟩
end
section
variable {X:Cx} {ρ:Ai} {O:Ae} {a e:Expr} {d:D}
end
section
variable {prog:Program} {w:World} {A:Around} {E:Value->Shared->Prop} {s:Shared}
end
section
variable {X:Cx} {O:Ae} {xs:List D}
end
section
variable {X:Cx} {ρ:Ai} {O:Ae} {a b:Expr} {d:D} {pos:Pos}
end
section
variable {X:Cx} {ρ:Ai} {O:Ae} {e a b c st:Expr} {d da db:D} {xs ys:List D} {R:D->Ae->Prop} {pos p p2:Pos} {P:A3} {q:Nat}
end
section
variable {prog:Program} {w:World} {A:Around} {E:Value->Shared->Prop} {s:Shared}
end
section
variable {X:Cx} {ρ:Ai} {O:Ae} {a st lo:Expr} {xs:List D} {pos p2:Pos}
end
section
variable {X:Cx} {ρ:Ai} {O:Ae} {e:Expr} {C C2:Addr} {x:Str} {p p2 pos:Pos} {R:D->Ae->Prop}
end
section
variable {X:Cx} {ρ:Ai} {O:Ae} {o ix e:Expr} {pos tpos:Pos} {P:A3} {q:Nat}
end
end DL
namespace DL
open PySem PySem.Spec PyProof.Rows L2 PySem.W
section
variable {prog:Program} {w:World} {A:Around} {E:Value->Shared->Prop} {s:Shared} {n l:Nat} {j:Int} {xs:Array Value} {v:Value}
end
section
variable {X:Cx} {ρ:Ai} {O:Ae} {a:Expr} {pos p:Pos} {xs:List D}
end
section
variable {prog:Program} {w:World} {A:Around} {E:Value->Shared->Prop} {s:Shared} {l:Nat} {k:Int} {t:Tok} {vs:List Value} {ns:List Int}
end
section
variable {X:Cx} {ρ:Ai} {O:Ae} {a e:Expr}
end
end DL
namespace L2
open PySem PySem.Spec PyProof.Rows
def AK {α:Type}:Sem α->Prop
 | .pure _=>True
 | .raise _=>True
 | .unsupported _=>True
 | .finish _=>True
 | .rule _ k=>AK (k ())
 | .at _ k=>AK (k ())
 | .load _ _ k=>∀ o,AK (k o)
 | .update _ _ f k=>(∀ o:Obj,((f o).dict=o.dict/\ctxOf (f o)=ctxOf o)/\(o.data≠.freed->(f o).data≠.freed))/\AK (k ())
 | .alloc _ k=>∀ a,AK (k a)
 | .loadIfAlive _ k=>∀ o,AK (k o)
 | .point _ k=>AK (k ())
 | .fresh k=>∀ t,AK (k t)
 | .ask k=>∀ t,AK (k t)
 | .handled _ k=>∀ t,AK (k t)
 | .stack k=>∀ t,AK (k t)
 | .thread k=>∀ t,AK (k t)
 | _=>False
theorem AK.bind {α β:Type} {t:Sem α} {k:α->Sem β} (h:AK t) (g:∀ a,AK (k a)):AK (t >>= k):=by
 show AK (Sem.bind t k)
 induction t with
 | pure a=>exact g a
 | raise _=>trivial
 | unsupported _=>trivial
 | finish _=>trivial
 | rule _ _ ih=>exact ih () h
 | «at» _ _ ih=>exact ih () h
 | load _ _ _ ih=>exact λo=>ih o (h o)
 | update _ _ _ _ ih=>exact ⟨h.1,ih () h.2⟩
 | alloc _ _ ih=>exact λo=>ih o (h o)
 | loadIfAlive _ _ ih=>exact λo=>ih o (h o)
 | point _ _ ih=>exact ih () h
 | fresh _ ih=>exact λo=>ih o (h o)
 | ask _ ih=>exact λo=>ih o (h o)
 | handled _ _ ih=>exact λo=>ih o (h o)
 | stack _ ih=>exact λo=>ih o (h o)
 | thread _ ih=>exact λo=>ih o (h o)
 | _=>exact h.elim
def DK (h h':Heap):Prop:=∀ b o,h.get? b=some o->∃ o',h'.get? b=some o'/\o'.dict=o.dict/\ctxOf o'=ctxOf o
theorem DK.refl (h:Heap):DK h h:=λ_ o e=>⟨o,e,rfl,rfl⟩
theorem DK.trans {h h1 h2:Heap} (x:DK h h1) (y:DK h1 h2):DK h h2:=λb o e=>by
 obtain ⟨o1,e1,d1⟩:=x b o e
 obtain ⟨o2,e2,d2⟩:=y b o1 e1
 exact ⟨o2,e2,d2.1.trans d1.1,d2.2.trans d1.2⟩
theorem DK.push {h:Heap} (o:Obj):DK h (h.push o):=λb o' e=>⟨o',Heap.get?_push_of_some _ e,rfl,rfl⟩
theorem DK.update {h:Heap} {a:Addr} {f:Obj->Obj} (hf:∀ o:Obj,((f o).dict=o.dict/\ctxOf (f o)=ctxOf o)/\(o.data≠.freed->(f o).data≠.freed)):DK h (h.update a f):=λb o e=>by
 by_cases hb:a=b
 ·subst hb
  have hn:o.data≠.freed:=λz=>by
   unfold Heap.get? at e
   split at e
   ·cases e
   ·rename_i hx
    obtain ⟨c,d,x,l⟩:=o
    subst z
    exact hx _ _ _ e
  refine ⟨f o,Heap.get?_update_self f e ?_,(hf o).1⟩
  have:=(hf o).2 hn
  revert this
  generalize f o=z
  obtain ⟨c,d,y,l⟩:=z
  intro this
  cases y <;> first | rfl | exact absurd rfl this
 ·exact ⟨o,(Heap.get?_update_other _ _ hb).trans e,rfl,rfl⟩
theorem AK.wp {α:Type} {M:Model} {Γ:PySem.Ctx} {t:Sem α} (h:AK t):∀ {Q:α->Pos->Shared->Prop} {E:Value->Pos->Shared->Prop} {p:Pos} {s:Shared} {h0:Heap},DK h0 s.heap->Sem.wp M Γ t Q E p s->Sem.wp M Γ t (λa p' s'=>Q a p' s'/\DK h0 s'.heap) (λe p' s'=>E e p' s'/\DK h0 s'.heap) p s:=by
 induction t with
 | pure a=>exact λd q=>⟨q,d⟩
 | raise _=>exact λd q=>⟨q,d⟩
 | unsupported _=>exact λd q=>q.elim
 | finish _=>exact λd q=>q.elim
 | rule _ _ ih=>exact λd q=>ih () h d q
 | «at» _ _ ih=>exact λd q=>ih () h d q
 | load _ _ _ ih=>exact λd ⟨o,e,q⟩=>⟨o,e,ih o (h o) d q⟩
 | update _ _ _ _ ih=>exact λd ⟨e,q⟩=>⟨e,ih () h.2 (d.trans (DK.update h.1)) q⟩
 | alloc _ _ ih=>exact λd q=>ih _ (h _) (d.trans (DK.push _)) q
 | loadIfAlive _ _ ih=>exact λd q=>ih _ (h _) d q
 | point _ _ ih=>exact λd q=>ih () h d q
 | fresh _ ih=>exact λd q=>ih _ (h _) d q
 | ask _ ih=>exact λd q=>ih _ (h _) d q
 | handled _ _ ih=>exact λd q=>ih _ (h _) d q
 | stack _ ih=>exact λd q=>ih _ (h _) d q
 | thread _ ih=>exact λd q=>ih _ (h _) d q
 | _=>exact h.elim
theorem AK.any {α:Type} {M:Model} {A:Around} {t:Sem α} {Q:α->Shared->Prop} {E:Value->Shared->Prop} {s:Shared} (h:AK t) (q:wpAny M A t Q E s):wpAny M A t (λa s'=>Q a s'/\DK s.heap s'.heap) (λe s'=>E e s'/\DK s.heap s'.heap) s:=
 λΓ p hi=>h.wp (DK.refl _) (q Γ p hi)
theorem HW {v:Value} {i:Nat}:AK (field v i):=by
 unfold field fieldsOf
 refine AK.bind ?_ λvs=>?_
 ·cases v with
  | ref a=>
   refine AK.bind (λ_=>trivial) λo=>?_
   split <;> trivial
  | _=>trivial
 ·split <;> trivial
theorem Lx {v x:Value} {i:Nat} (hi:i≠2:=by decide):AK (setField v i x):=by
 unfold setField
 cases v with
 | ref a=>
  show AK (updateField a i x)
  unfold updateField
  refine AK.bind (λ_=>trivial) λo=>?_
  split
  ·split
   ·refine ⟨λo=>?_,trivial⟩
    obtain ⟨c,d,y,l⟩:=o
    cases y <;> refine ⟨⟨rfl,?_⟩,λz=>by first | exact z | (intro q; cases q)⟩
    all_goals first | rfl | (show (Array.setIfInBounds _ i x)[2]?=_; rw [Array.getElem?_setIfInBounds_ne hi]; rfl)
   ·trivial
  ·trivial
 | _=>trivial
theorem Lw {e:Value} {f:Option Addr}:AK (setFlight e f):=by
 unfold setFlight
 refine AK.bind HW λtb=>?_
 split
 ·exact Lx
 ·trivial
theorem Lv:AK stack:=λ_=>trivial
theorem OP:∀ l:List Env,AK (readyFrames l)
 | []=>trivial
 | env::outer=>by
  unfold readyFrames
  split
  ·refine AK.bind (λ_=>trivial) λo=>?_
   split
   ·trivial
   ·refine AK.bind ?_ λim=>AK.bind ?_ λback=>AK.bind ⟨λo=>⟨⟨rfl,rfl⟩,id⟩,trivial⟩ λ_=>OP outer
    ·unfold behindIsImport
     split
     ·trivial
     ·split
      ·trivial
      ·exact AK.bind HW λ_=>trivial
    ·unfold keptBack underTheClaimsCaller
     split
     ·split
      ·trivial
      ·exact AK.bind (AK.bind Lv λ_=>trivial) λ_=>trivial
     ·trivial
  ·trivial
theorem Xi {env:Env}:AK (PySem.frameOf env):=by
 unfold PySem.frameOf frameEnvs
 refine AK.bind (AK.bind Lv λ_=>trivial) λes=>AK.bind ?_ λo=>?_
 ·unfold frameObject
  split
  ·trivial
  ·exact AK.bind (OP _) λ_=>trivial
 ·split <;> trivial
theorem Xg {f:Addr} {b:Bool}:AK (entryPlaceOf f b):=by
 unfold entryPlaceOf
 refine AK.bind Lv λa=>?_
 split <;> trivial
theorem Xh {a b c d e:Value} {l:List Value}:AK (EntryCells.newEntry a b c d e l):=by
 unfold EntryCells.newEntry newFields newObj newObjAsIs
 dsimp only
 split <;> split <;> first | trivial | exact λ_=>trivial
theorem OQ {e:Value} {env:Env}:AK (noteFrame e env):=by
 unfold noteFrame
 split
 ·refine AK.bind HW λhd=>?_
  have rest:∀ (f:Addr) (hd:Value),AK (do setField e 1 (<- EntryCells.newEntry hd (<- PySem.frameOf env) .none (rawInt f) .none (<- entryPlaceOf f (hd != .none)))):=λf hd=>
   AK.bind Xi λ_=>AK.bind Xg λ_=>AK.bind Xh λ_=>Lx
  split
  ·refine AK.bind HW λx=>?_
   split
   ·trivial
   ·exact AK.bind Lx λ_=>rest _ _
  ·exact rest _ _
 ·trivial
theorem OR {e:Value} {env:Env}:AK (leaving env e):=AK.bind OQ λ_=>Lw
def Q1y (B:Heap) (l:List Env) (a C:Addr) (od:Option Addr) (h:Heap):Prop:=
 (∃ t,Heap.FlyingW B l a (.ref C) (.ref t) h)/\∃ oe,h.get? a=some oe/\oe.dict=od/\ctxOf oe=some .none
structure Es (P:Program) (w:World) (outer:List Env) (H H':Hp) (s s':Shared) (a C:Addr) (od:Option Addr) (B:Heap):Prop where
 os:s'.os=s.os
 bare:AllBare s'.gens
 fly:Q1y B outer a C od s'.heap
 un:Un (AZ outer) [] H H' s.heap s'.heap
 hok:Bg P w H' s'.heap
 old:∀ b o,s.heap.get? b=some o->b∉AZ outer->∃ o',B.get? b=some o'
 trk:∀ b u,H' b=some u->∃ o',B.get? b=some o'
def Cp (P:Program) (w:World):Cz:=λouter H s E e s'=>∃ a C od B H',e=.ref a/\Es P w outer H H' s s' a C od B/\E (.ref C) od H'
section
variable {P:Program} {w:World}
theorem LM {H:Hp} {h h' B:Heap} (ok:Bg P w H h) (k1:B.StaysIn h) (k2:B.StaysIn h') (t:∀ b u,H b=some u->∃ o',B.get? b=some o'):Bg P w H h':=λa o e=>
 (ok a o e).stay (λb u hb q=>by
  have hb':∃ v,H b=some v:=by
   rcases hb with rfl | hb
   ·exact ⟨o,e⟩
   ·exact ⟨_,hb⟩
  obtain ⟨v,hv⟩:=hb'
  obtain ⟨o',h1⟩:=t b v hv
  have h2:=k1 b o' h1
  rw [q] at h2
  cases h2
  exact k2 b _ h1) (λ_ q=>q) λ_ _ q=>q
theorem Bg.get {H:Hp} {h:Heap} {a:Addr} {o:HO} (x:Bg P w H h) (e:H a=some o):∃ ob,h.get? a=some ob:=by
 have x:=x a o e
 induction o with
 | lst xs=>obtain ⟨_,_,_,_,e⟩:=x; exact ⟨_,e⟩
 | tup xs=>obtain ⟨_,_,_,_,e,_⟩:=x; exact ⟨_,e⟩
 | dK kvs=>obtain ⟨_,_,_,_,o,_,_,e,_⟩:=x; exact ⟨_,e⟩
 | dT kvs=>obtain ⟨_,_,_,_,o,_,_,e,_⟩:=x; exact ⟨_,e⟩
 | set S n=>obtain ⟨o,_,_,_,e,_⟩:=x; exact ⟨_,e⟩
 | ins C dx fs=>obtain ⟨_,_,_,e,_⟩:=x; exact ⟨_,e⟩
 | own y=>exact x
 | xd fs=>obtain ⟨_,⟨_,_,_,e,_⟩,_⟩:=x; exact ⟨_,e⟩
 | rng lo hi=>obtain ⟨_,_,_,e⟩:=x; exact ⟨_,e⟩
 | frz ob u=>obtain ⟨e,_⟩:=x; exact ⟨_,e⟩
 | tbl ps=>exact ⟨_,show h.get? a=some _ from x⟩
 | met f y=>exact ⟨_,show h.get? a=some _ from x⟩
 | ext φ=>obtain ⟨_,q,_⟩:=x; exact q
theorem XZ {h:Heap} {as:List Addr} {b:Addr} {o:Obj} (e:h.get? b=some o) (n:b∉as):(PySem.W.hideAll h as).get? b=some o:=PySem.W.hideAll_get _ e n
end
section
variable {CX:Cz} {P:Program} {w:World} {K:PySem.W.Frag} {mg:Str->Option Value} {base:Heap} {N:List Str} {qual:Str} {scope:Scope} {f:Addr} {cd:Value} {A:Around} {outer:List Env} {s:Shared} {H:Hp} {E:XK}
theorem U8:EK (Cp P w) (CZ (Cp P w) P w K mg base N qual scope f cd A outer s H E) E:=λpins σ H1 s1 e s2 I hc=>by
 obtain ⟨a,C,od,B,H2,rfl,g,he⟩:=hc
 obtain ⟨⟨t,fl⟩,hd⟩:=g.fly
 show wpAny _ _ (leaving _ _) _ _ s2
 have hne:∀ b o,s.heap.get? b=some o->b≠s.heap.objs.size:=λb o e z=>Nat.lt_irrefl _ (z ▸ Heap.lt_size e)
 have hst:∀ b o,s.heap.get? b=some o->b∉AZ outer->b∉AZ (envOfC qual scope s.heap.objs.size f cd::outer):=λb o e n z=>by
  unfold AZ at z n
  rw [List.filterMap_cons] at z
  have z:b∈s.heap.objs.size::List.filterMap (λx:Env=>x.frame) outer:=z
  rcases List.mem_cons.mp z with z | z
  ·exact hne b o e z
  ·exact n z
 have hin:∀ b,b∈AZ outer->b∈AZ (envOfC qual scope s.heap.objs.size f cd::outer):=λb z=>by
  unfold AZ at z ⊢
  rw [List.filterMap_cons]
  exact List.mem_cons_of_mem _ z
 obtain ⟨oe,ho0,ho1⟩:=hd
 refine wpAny_mono (OR.any (wpAny_leaves_onW (E:=λ_ _=>False) (Q:=λ_ s'=>∃ h',s'={ s2 with heap:=h' }/\Heap.FlyingW B outer a (.ref C) (.ref t) h'/\s2.heap.UpToSlots h') I.ok.frames rfl fl λh' fl' sm=>⟨h',rfl,fl',sm⟩)) (λ_ s3 ⟨⟨h',e3,fl',sm⟩,dk⟩=>?_) λ_ _ z=>z.1.elim
 subst e3
 obtain ⟨oe',ho2,ho3⟩:=dk a oe ho0
 refine ⟨a,C,od,B,H2,rfl,⟨g.os.trans I.os,g.bare,⟨⟨t,fl'⟩,oe',ho2,ho3.1.trans ho1.1,ho3.2.trans ho1.2⟩,?_,LM g.hok fl.1 fl'.1 g.trk,?_,g.trk⟩,he⟩
 ·have hu:Un (AZ outer) [] H H1 s.heap s1.heap:=I.base
  refine ⟨λb o q n hb _=>?_,λb o q n hb _=>?_,λb o q n _=>?_,λb o q _=>?_,λb xs q=>g.un.tups b xs (hu.tups b xs q),λb o u q=>g.un.frzs b o u (hu.frzs b o u q),λb ps q=>?_⟩
  ·have q1:=hu.keep b o q n hb (by simp)
   have n1:=hu.free b o q n (by simp)
   have q2:=g.un.keep b o q1 n1 (hst b o q hb) (by simp)
   obtain ⟨o',ho⟩:=g.old b o q1 (hst b o q hb)
   have h2:=fl.1 b o' ho
   rw [q2] at h2
   cases h2
   exact fl'.1 b _ ho
  ·obtain ⟨sl,q1⟩:=hu.slot b o q n hb (by simp)
   have n1:=hu.free b o q n (by simp)
   obtain ⟨sl2,q2⟩:=g.un.slot b _ q1 n1 (hin b hb) (by simp)
   obtain ⟨_,oo,ho,hnf⟩:=fl.2.2.1.mem (hin b hb)
   rw [q2] at ho
   cases ho
   obtain ⟨sl3,q3⟩:=sm b _ q2 hnf
   exact ⟨sl3,q3⟩
  ·obtain ⟨o1,q1⟩:=hu.there b o q (by simp)
   exact g.un.free b o1 q1 (hu.free b o q n (by simp)) (by simp)
  ·obtain ⟨o1,q1⟩:=hu.there b o q (by simp)
   by_cases hb:b∈AZ outer
   ·obtain ⟨_,oo,ho,hnf⟩:=fl.2.2.1.mem (hin b hb)
    obtain ⟨sl3,q3⟩:=sm b _ ho hnf
    exact ⟨_,q3⟩
   ·obtain ⟨o',ho⟩:=g.old b o1 q1 (hst b o q hb)
    exact ⟨o',fl'.1 b _ ho⟩
  ·obtain ⟨m1,e1⟩:=hu.tbls b ps q
   obtain ⟨m2,e2⟩:=g.un.tbls b _ e1
   exact ⟨m1++m2,by rw [e2,Array.append_assoc]⟩
 ·intro b o q hb
  have hu:Un (AZ outer) [] H H1 s.heap s1.heap:=I.base
  obtain ⟨o1,q1⟩:=hu.there b o q (by simp)
  exact g.old b o1 q1 (hst b o q hb)
theorem T0 {pins:List (Addr×Obj)} {σ:St} {H1:Hp} {s1:Shared} {a C t:Addr} {oe:Obj} {vs:Array Value} (I:Inv (CZ (Cp P w) P w K mg base N qual scope f cd A outer s H E) pins σ H1 s1) (n1:H1 a=none) (n0:s.heap.get? a=none)
  (ho:s1.heap.get? a=some oe) (hc:oe.cls=.ref C) (hv:oe.data=.fields vs) (h1:vs[1]?=some .none) (h0:vs[0]?=some (.ref t)) (h2:vs[2]?=some .none) (he:E (.ref C) oe.dict H1):(CZ (Cp P w) P w K mg base N qual scope f cd A outer s H E).xe (.ref a) s1:=by
 show wpAny _ _ (leaving _ _) _ _ _
 have hu:Un (AZ outer) [] H H1 s.heap s1.heap:=I.base
 have hne:∀ b o,s.heap.get? b=some o->b≠s.heap.objs.size:=λb o e z=>Nat.lt_irrefl _ (z ▸ Heap.lt_size e)
 have hst:∀ b o,s.heap.get? b=some o->b∉AZ outer->b∉AZ (envOfC qual scope s.heap.objs.size f cd::outer):=λb o e n z=>by
  unfold AZ at z n
  rw [List.filterMap_cons] at z
  have z:b∈s.heap.objs.size::List.filterMap (λx:Env=>x.frame) outer:=z
  rcases List.mem_cons.mp z with z | z
  ·exact hne b o e z
  ·exact n z
 have hsub:∀ b,b∈AZ outer->b∈AZ (envOfC qual scope s.heap.objs.size f cd::outer):=λb z=>by
  unfold AZ at z ⊢
  rw [List.filterMap_cons]
  exact List.mem_cons_of_mem _ z
 generalize hB:PySem.W.hideAll s1.heap (a::AZ (envOfC qual scope s.heap.objs.size f cd::outer))=B
 have hin:∀ env∈(envOfC qual scope s.heap.objs.size f cd::outer),∀ b,env.frame=some b->b∈a::AZ (envOfC qual scope s.heap.objs.size f cd::outer):=λenv he b hb=>List.mem_cons_of_mem _ (List.mem_filterMap.mpr ⟨env,he,hb⟩)
 have ff:s1.heap.FunFrames B (envOfC qual scope s.heap.objs.size f cd::outer):=hB ▸ PySem.W.funFrames_hide I.stack hin
 have of:∀ b o,B.get? b=some o->s1.heap.get? b=some o:=λb o q=>PySem.W.of_hideAll _ (hB ▸ q)
 have to:∀ b o,s1.heap.get? b=some o->b≠a->b∉AZ (envOfC qual scope s.heap.objs.size f cd::outer)->B.get? b=some o:=λb o q n1 n2=>hB ▸ XZ q (λz=>by
  rcases List.mem_cons.mp z with z | z
  ·exact n1 z
  ·exact n2 z)
 have ba:B.get? a=none:=hB ▸ PySem.W.hideAll_none _ List.mem_cons_self
 have trk:∀ b u,H1 b=some u->∃ o',B.get? b=some o':=λb u q=>by
  have hb:b∉AZ (envOfC qual scope s.heap.objs.size f cd::outer):=λz=>by
   have:=I.stkFree b z
   rw [q] at this
   cases this
  obtain ⟨o,ho⟩:∃ o,s1.heap.get? b=some o:=I.hok.get q
  exact ⟨o,to b o ho (BL q n1) hb⟩
 refine wpAny_mono (OR.any (wpAny_leaving_firstW (E:=λ_ _=>False) (Q:=λ_ s'=>∃ h',s'={ s1 with heap:=h' }/\Heap.LeftW B (envOfC qual scope s.heap.objs.size f cd::outer) a oe.cls (.ref t) s1.heap h') I.ok.frames ff rfl ho of ba hv h1 h0 λh' l=>⟨h',rfl,l⟩)) (λ_ s3 ⟨⟨h',e3,k1,⟨_,_,k2⟩,k3,sm⟩,dk⟩=>?_) λ_ _ z=>z.1.elim
 subst e3
 obtain ⟨oe',ho2,ho3⟩:=dk a oe ho
 have na:∀ b o,s.heap.get? b=some o->b≠a:=λb o q z=>by rw [z,n0] at q; cases q
 refine ⟨a,C,oe.dict,B,H1,rfl,⟨I.os,I.bare,⟨⟨t,k1,ba,k2,hc ▸ k3⟩,oe',ho2,ho3.1,ho3.2.trans (by unfold ctxOf; rw [hv]; exact h2)⟩,?_,LM I.hok of k1 trk,?_,trk⟩,he⟩
 ·refine ⟨λb o q n hb _=>?_,λb o q n hb _=>?_,λb o q n _=>hu.free b o q n (by simp),λb o q _=>?_,hu.tups,hu.frzs,hu.tbls⟩
  ·exact k1 b o (to b o (hu.keep b o q n hb (by simp)) (na b o q) (hst b o q hb))
  ·obtain ⟨sl,q1⟩:=hu.slot b o q n hb (by simp)
   obtain ⟨_,oo,ho,hnf⟩:=ff.mem (hsub b hb)
   rw [q1] at ho
   cases ho
   obtain ⟨sl3,q3⟩:=sm b _ q1 hnf
   exact ⟨sl3,q3⟩
  ·obtain ⟨o1,q1⟩:=hu.there b o q (by simp)
   by_cases hb:b∈AZ outer
   ·obtain ⟨_,oo,ho,hnf⟩:=ff.mem (hsub b hb)
    obtain ⟨sl3,q3⟩:=sm b _ ho hnf
    exact ⟨_,q3⟩
   ·exact ⟨o1,k1 b _ (to b o1 q1 (na b o q) (hst b o q hb))⟩
 ·intro b o q hb
  obtain ⟨o1,q1⟩:=hu.there b o q (by simp)
  exact ⟨o1,to b o1 q1 (na b o q) (hst b o q hb)⟩
end
end L2
namespace DL
open PySem PySem.Spec PyProof.Rows L2
def Fds (K:PySem.W.Frag) (G:Wd) (od:Option Addr) (fs:List (Str×D)):Prop:=fs=[]\/∃ dx vs,od=some dx/\G.g dx=some (.xd vs)/\Bc K G fs vs
abbrev XR:=Addr->List (Str×D)->Ae->Prop
abbrev Cl:=List D->Ae->(D->Ae->Prop)->XR->Prop
def C5 (K:PySem.W.Frag) (sp:Cl):Sp:=λvs H Q E=>∃ G O ds R RX,SA K G H O/\Aj K G ds vs/\sp ds O R RX/\(∀ v d O' G' H',Ah G G'->SA K G' H' O'->Is K G' d v->R d O'->Q v H') /\
 ∀ C fs od O' G' H',Ah G G'->SA K G' H' O'->Fds K G' od fs->RX C fs O'->E (.ref C) od H'
def IK (X:Cx) (C:Addr) (od:Option Addr) (σ:L2.St) (H':Hp):Prop:=∀ pins H1 s1 a B s2,L2.Inv X pins σ H1 s1->Es X.prog X.w X.stack H1 H' s1 s2 a C od B->X.xe (.ref a) s2
def Z9 (X:Cx) (C:Addr) (od:Option Addr) (σ:L2.St) (H':Hp):Prop:=∀ pins s1 a t oe vs,L2.Inv X pins σ H' s1->H' a=none->X.s₀.heap.get? a=none->s1.heap.get? a=some oe->oe.cls=.ref C->oe.data=.fields vs->vs[1]?=some .none->vs[0]?=some (.ref t)->vs[2]?=some .none->oe.dict=od->X.xe (.ref a) s1
abbrev XC:=Addr->List (Str×D)->Ai->Ae->Prop
def Eu (X:Cx) (mk:Prop) (G:Wd) (RX:XC):Prop:=∀ C fs od σ ρ O' G' H',Ah G G'->SA X.K G' H' O'->Au X.K G' σ ρ->Fds X.K G' od fs->RX C fs ρ O'->IK X C od σ H'/\(mk->Z9 X C od σ H')
theorem Eu.ext {X:Cx} {mk:Prop} {G G':Wd} {RX:XC} (h:Eu X mk G RX) (e:Ah G G'):Eu X mk G' RX:=λC fs od σ ρ O' G2 H' e2=>h C fs od σ ρ O' G2 H' (e.trans e2)
def G8 (X:Cx) (mk:Prop) (ρ:Ai) (O:Ae) (e:Expr) (R:D->Ae->Prop) (RX:XC):Prop:=
 ∀ G,PE X e (λσ H Q=>SA X.K G H O/\Au X.K G σ ρ/\(∀ v d O' G' H',Ah G G'->SA X.K G' H' O'->Is X.K G' d v->R d O'->Q v H')/\Eu X mk G RX)
def F8 (X:Cx) (mk:Prop) (ρ:Ai) (O:Ae) (st:Stmt) (P:A3) (RX:XC):Prop:=∀ G,PS X st (λE σ H=>SA X.K G H O/\Au X.K G σ ρ/\Cy X.K G P E/\Eu X mk G RX)
def D2 (X:Cx) (mk:Prop) (ρ:Ai) (O:Ae) (st:List Stmt) (P:A3) (RX:XC):Prop:=∀ G,PSs X st (λE σ H=>SA X.K G H O/\Au X.K G σ ρ/\Cy X.K G P E/\Eu X mk G RX)
section
variable {X:Cx} {mk:Prop} {ρ:Ai} {O:Ae} {e a b c o:Expr} {es:List Expr} {d da db:D} {ds:List D} {R:D->Ae->Prop} {RX:XC} {pos p apos:Pos} {x m:Str} {st:Stmt} {rest body orelse:List Stmt} {P:A3} {C:Addr} {q:Nat} {fs:List (Str×D)}
theorem _root_.DL.Exs.x_ (h:Exs X ρ O rest P):D2 X mk ρ O rest P RX:=λG=>PSs.imp (h G) λE σ H ⟨h1,h2,h3,_⟩=>⟨h1,h2,h3⟩
theorem Dr (h:P.nx ρ O):D2 X mk ρ O [] P RX:=Exs.x_ (Aw h)
theorem BA (h:F8 X mk ρ O st { P with nx:=λρ' O'=>D2 X mk ρ' O' rest P RX } RX):D2 X mk ρ O (st::rest) P RX:=λG=>
 PSs.imp (La (h G) (u:=λE σ H=>∃ G1 ρ1 O1,SA X.K G1 H O1/\Au X.K G1 σ ρ1/\D2 X mk ρ1 O1 rest P RX/\Cy X.K G1 P E/\Eu X mk G1 RX) (λpins s σ H E I ⟨G1,ρ1,O1,q1,q2,q3,q4,q5⟩=>q3 G1 pins s σ H E I ⟨q1,q2,q4,q5⟩)) λE σ H ⟨h1,h2,h3,h4⟩=>
  ⟨h1,h2,⟨λσ1 ρ1 O1 G1 H1 e1 s1 n1 q1=>⟨G1,ρ1,O1,s1,n1,q1,h3.ext e1,h4.ext e1⟩,h3.rt,h3.bk,h3.ct⟩,h4⟩
theorem D4 {k:Bool} (hc:AH X ρ O c k) (h1:k=true->D2 X mk ρ O body P RX) (h2:k=false->D2 X mk ρ O orelse P RX):F8 X mk ρ O (.If c body orelse pos) P RX:=λG=>
 PS.imp (Lb (hc G) (t:=λE σ H=>∃ G1,k=true/\SA X.K G1 H O/\Au X.K G1 σ ρ/\Cy X.K G1 P E/\Eu X mk G1 RX) (λpins s σ H E I ⟨G1,z,q⟩=>h1 z G1 pins s σ H E I q)
  (u:=λE σ H=>∃ G1,k=false/\SA X.K G1 H O/\Au X.K G1 σ ρ/\Cy X.K G1 P E/\Eu X mk G1 RX) (λpins s σ H E I ⟨G1,z,q⟩=>h2 z G1 pins s σ H E I q)) λE σ H ⟨q1,q2,q3,q4⟩=>
  ⟨q1,q2,λG' H' e1 s1=>by
   cases k with
   | true=>exact HZ ⟨G',rfl,s1,q2.ext e1,q3.ext e1,q4.ext e1⟩
   | false=>exact H0 ⟨G',rfl,s1,q2.ext e1,q3.ext e1,q4.ext e1⟩⟩
theorem Dd (h:G8 X mk ρ O e (λ_ O'=>P.nx ρ O') RX) (hs:swapsWith e none pos.line X.env=pure false:=by rfl):F8 X mk ρ O (.Expr e pos) P RX:=λG=>PS.imp (Gx (h G) hs) λE σ H ⟨h1,h2,h3,h4⟩=>
 ⟨h1,h2,λv d O' G' H' e1 s1 i1 r1=>h3.nx σ ρ O' G' H' e1 s1 (h2.ext e1) r1,h4⟩
theorem Od {CX:Cz} {k:Nat} {f:Addr} {fd:FuncData} {ps:List Str} {sp:Sp} {E:XK} {pins:List (Addr×Obj)} {σ:L2.St} {H:Hp} {s:Shared} {Q:VK} {us:List Value} {vs:List V} (F:AC X.prog X.w X.K X.mg X.base CX k f fd ps sp) (hr:AM k X.A) (hb:Binds X.K fd ps [])
  (I:L2.Inv X pins σ H s) (r:Ar vs us) (h:sp vs H Q E) (hx:∀ e s',CX X.stack H s E e s'->X.xe e s'):wpAny (model X.prog X.w) X.A (call (.ref f) us) (EP X pins σ Q) X.xe s:=by
 have hl:us.length=ps.length:=by rw [<- r.length]; exact F.len _ _ _ _ h
 have hb':=hb s us I.kIn (by rw [List.append_nil]; exact hl)
 rw [List.append_nil] at hb'
 refine wpAny_call (codeAny_mono (F.run X.A X.stack s H ⟨us,[]⟩ us vs Q E hr I.env0 hb' r h) λr s' hq=>?_)
 match r,hq with
 | .error e,hq=>exact hx e s' hq
 | .ok (.ret u),hq=>exact I.after hq
theorem Ji {G:Wd} {H' H1:Hp} {σ:L2.St} {pins:List (Addr×Obj)} {s1 s2:Shared} {e:Value} {E:XK} (I:L2.Inv X pins σ H1 s1) (k:∀ C od H2,E (.ref C) od H2->IK X C od σ H2) (h:Cp X.prog X.w X.stack H1 s1 E e s2):X.xe e s2:=by
 obtain ⟨a,C,od,B,H2,rfl,g,he⟩:=h
 exact k C od H2 he pins H1 s1 a B s2 I g
def Ha (X:Cx) (σ:L2.St):XK:=λc od H'=>∀ C,c=.ref C->IK X C od σ H'
theorem L7 {σ:L2.St}:∀ C od H2,Ha X σ (.ref C) od H2->IK X C od σ H2:=λC od H2 h=>h C rfl
structure D3 (P:Program) (w:World) (K:PySem.W.Frag) (mg:Str->Option Value) (base:Heap) (k:Nat) (x:Str) (sp:Cl):Prop where
 ex:∃ f fd ps,AC P w K mg base (Cp P w) k f fd ps (C5 K sp)/\mg x=some (.ref f)/\PySem.W.keepIn K (.ref f)=true/\Binds K fd ps []
theorem FY {k:Nat} {sp:Cl} (F:D3 X.prog X.w X.K X.mg X.base k x sp) (hr:AM k X.A) (ha:Bd X ρ O (e::es) ds) (hs:sp ds O R λC fs O'=>RX C fs ρ O') (hg:Gl X x:=by rfl) (hdb:(x==("__debug__" : Str))=false:=by decide)
  (he:starEach (e::es) X.env=(false,eval e X.env)::starEach es X.env:=by rfl) (hpl:(backTo pos (starEach es X.env)).any (·.1)=false:=by rfl):G8 X mk ρ O (.Call (.Name x p) (e::es) [] pos) R RX:=λG pins s σ H Q I ⟨h1,h2,h3,h4⟩=>by
 obtain ⟨f,fd,ps,g1,g2,g3,g4⟩:=F.ex
 refine wpAny_Call_Name_kw (DQ I hg g2 ?_ hdb)
 refine PySem.W.callWith_K (h₀:=X.base) I.ok.mod.kin g3 (Al (ha G pos pins s σ H (λvs H'=>∃ G',Ah G G'/\SA X.K G' H' O/\Aj X.K G' ds vs) I ⟨h1,h2,λvs G' H' e1 s1 i1=>⟨G',e1,s1,i1⟩⟩) λus s1 ⟨vs,H1,I1,r,G1,e1,sa,i1⟩=>⟨I1.kIn,?_⟩) he hpl
 refine Od (E:=Ha X σ) g1 hr g4 I1 r ⟨G1,O,ds,R,_,sa,i1,hs,λv d O' G' H' e2 s2 i2 r2=>h3 v d O' G' H' (e1.trans e2) s2 i2 r2,λC fs od O' G' H' e2 s2 f2 r2=>?_⟩ λe s' hx=>Ji (G:=G) (H':=H) I1 L7 hx
 intro C' hC
 cases hC
 exact (h4 _ fs od σ ρ O' G' H' (e1.trans e2) s2 (h2.ext (e1.trans e2)) f2 r2).1
structure EM (P:Program) (w:World) (K:PySem.W.Frag) (mg:Str->Option Value) (base:Heap) (C:Addr) (k:Nat) (m:Str) (sp:Cl):Prop where
 ex:∃ f fd ps,AC P w K mg base (Cp P w) k f fd ps (C5 K sp)/\GX K C m f/\Binds K fd ps []
 cls:Bn K C
theorem Iv {k:Nat} {sp:Cl} {pl:Sem Bool} (M:EM X.prog X.w X.K X.mg X.base C k m sp) (hr:AM k X.A) (ho:Ad X ρ O o (.ptr q)) (hq:O[q]?=some (some (.ins C fs))) (hno:fs.lookup m=none) (ha:Bd X ρ O (e::es) ds)
  (hs:sp (.ptr q::ds) O R λC fs O'=>RX C fs ρ O') (hst:starEach (e::es) X.env=(false,eval e X.env)::starEach es X.env:=by rfl) (hpl:(backTo pos (starEach es X.env)).any (·.1)=false:=by rfl)
  (ht:eval (.Call (.Attribute o m apos) (e::es) [] pos) X.env=(do
   let ov <- eval o X.env
   standAt apos.atName
   let (f,first) <- holding [ov] (getMethod ov m pl)
   callWith pos f first (backTo pos (starEach (e::es) X.env)) (backToKw pos (keywordEach [] X.env))):=by rfl):G8 X mk ρ O (.Call (.Attribute o m apos) (e::es) [] pos) R RX:=λG pins s σ H Q I ⟨h1,h2,h3,h4⟩=>by
 obtain ⟨f,fd,ps,g1,g2,g3⟩:=M.ex
 refine PySem.W.methodCall_KW (pl:=pl) (Al (ho G pins s σ H (λv H'=>∃ G',Ah G G'/\SA X.K G' H' O/\Is X.K G' (.ptr q) v) I ⟨h1,h2,λv G' H' e s i=>⟨G',e,s,i⟩⟩) λu s1 ⟨y,H1,I1,ry,G1,e1,sa1,i1⟩=>?_) ht
 obtain ⟨a,dx,vs,rfl,k1,k2,k3⟩:=sa1.ins i1 hq
 obtain rfl:u=Value.ref a:=ry
 refine LR I1 k2 M.cls g2 (k3.none hno) ?_
 refine PySem.W.callWith_K (first:=[.ref a]) (h₀:=X.base) I.ok.mod.kin g2.kp (Al (ha G1 pos pins s1 σ H1 (λvs H'=>∃ G',Ah G1 G'/\SA X.K G' H' O/\Aj X.K G' ds vs) I1 ⟨sa1,h2.ext e1,λvs G' H' e1 s1 i1=>⟨G',e1,s1,i1⟩⟩) λus s2 ⟨ws,H2,I2,r,G2,e2,sa2,i2⟩=>⟨I2.kIn,?_⟩) hst hpl
 have e12:=e1.trans e2
 refine Od (us:=.ref a::us) (vs:=.ref a::ws) (E:=Ha X σ) g1 hr g3 I2 (.cons rfl r) ⟨G2,O,.ptr q::ds,R,_,sa2,.cons (i1.ext e2) i2,hs,λv d O' G' H' e3 s3 i3 r3=>h3 v d O' G' H' (e12.trans e3) s3 i3 r3,λC fs od O' G' H' e3 s3 f3 r3=>?_⟩ λe s' hx=>Ji (G:=G) (H':=H) I2 L7 hx
 intro C' hC
 cases hC
 exact (h4 _ fs od σ ρ O' G' H' (e12.trans e3) s3 (h2.ext (e12.trans e3)) f3 r3).1
structure F4 (P:Program) (w:World) (K:PySem.W.Frag) (mg:Str->Option Value) (base:Heap) (C:Addr) (k:Nat) (x:Str) (sp:Cl):Prop where
 ex:∃ f fd ps,AC P w K mg base (Cp P w) k f fd ps (C5 K sp)/\Mk K C f/\Binds K fd ps []
 at_:mg x=some (.ref C)
theorem PQ {k:Nat} {sp:Cl} (M:F4 X.prog X.w X.K X.mg X.base C k x sp) (hr:AM (k+1) X.A) (ha:Bd X ρ O (e::es) ds)
  (hs:sp (.ptr O.length::ds) (O++[some (.ins C [])]) (λd O'=>d=.non/\R (.ptr O.length) O') λC fs O'=>RX C fs ρ O')
  (hg:Gl X x:=by rfl) (hdb:(x==("__debug__" : Str))=false:=by decide) (he:starEach (e::es) X.env=(false,eval e X.env)::starEach es X.env:=by rfl) (hpl:(backTo pos (starEach es X.env)).any (·.1)=false:=by rfl) :
  G8 X mk ρ O (.Call (.Name x p) (e::es) [] pos) R RX:=λG pins s σ H Q I ⟨h1,h2,h3,h4⟩=>by
 obtain ⟨f,fd,ps,g1,g2,g3⟩:=M.ex
 refine wpAny_Call_Name_kw (DQ I hg M.at_ ?_ hdb)
 refine PySem.W.callWith_K (h₀:=X.base) I.ok.mod.kin g2.kp (Al (ha G pos pins s σ H (λvs H'=>∃ G',Ah G G'/\SA X.K G' H' O/\Aj X.K G' ds vs) I ⟨h1,h2,λvs G' H' e1 s1 i1=>⟨G',e1,s1,i1⟩⟩) λus s1 ⟨vs,H1,I1,r,G1,e1,sa,i1⟩=>⟨I1.kIn,?_⟩) he hpl
 obtain ⟨e2,sa2⟩:=made (C:=C) sa (I1.hok.fresh (Nat.le_succ _)) (I1.hok.fresh (Nat.le_refl _)) (Nat.ne_of_lt (Nat.lt_succ_self _))
 have I2:=L2.Inv.made (C:=C) I1
 have e12:=e1.trans e2
 have iy:Is X.K ⟨G1.g,G1.l++[s1.heap.objs.size+1]⟩ (.ptr O.length) (.ref (s1.heap.objs.size+1)):=.ptr _ (by rw [<- sa.len,List.getElem?_append_right (Nat.le_refl _),Nat.sub_self]; rfl)
 have hsp:C5 X.K sp (V.ref (s1.heap.objs.size+1)::vs) (Ap (Ap H1 s1.heap.objs.size (.own (s1.heap.objs.size+1))) (s1.heap.objs.size+1) (.ins C s1.heap.objs.size [])) (λv H2=>v=.non/\Q (.ref (s1.heap.objs.size+1)) H2) (Ha X σ):=by
  refine ⟨_,_,.ptr O.length::ds,_,_,sa2,.cons iy (i1.ext e2),hs,λv d O' G' H' e3 s3 i3 r3=>?_,λC fs od O' G' H' e3 s3 f3 r3=>?_⟩
  ·obtain ⟨rfl,r⟩:=r3
   cases i3
   exact ⟨rfl,h3 _ _ O' G' H' (e12.trans e3) s3 (iy.ext e3) r⟩
  ·intro C' hC
   cases hC
   exact (h4 _ fs od σ ρ O' G' H' (e12.trans e3) s3 (h2.ext (e12.trans e3)) f3 r3).1
 have r2:Ar (V.ref (s1.heap.objs.size+1)::vs) (Value.ref (s1.heap.objs.size+1)::us):=.cons rfl r
 have hl:(Value.ref (s1.heap.objs.size+1)::us).length=ps.length:=by rw [<- r2.length]; exact g1.len _ _ _ _ hsp
 have hb:=g3 { s1 with heap:=_ } (Value.ref (s1.heap.objs.size+1)::us) I2.kIn (by rw [List.append_nil]; exact hl)
 rw [List.append_nil] at hb
 refine wpAny_call (OS (f:=f) I1.kIn g2.makes g2.init (beq_iff_eq.mp g2.fn) (codeAny_mono (g1.run _ X.stack _ _ ⟨Value.ref (s1.heap.objs.size+1)::us,[]⟩ _ _ _ (Ha X σ) (hr.make C us []) (I2.env0.make C us []) hb r2 hsp) λr s' hq'=>?_))
 match r,hq' with
 | .error e,hq'=>exact Ji (G:=G) (H':=H) I2 L7 hq'
 | .ok (.ret u),hq'=>
  obtain ⟨v,H',I3,rv,ev,q3⟩:=I2.after hq'
  subst ev
  exact ⟨rv,⟨V.ref (s1.heap.objs.size+1),H',I3,rfl,q3⟩⟩
end
section
variable {P:Program} {w:World} {K:PySem.W.Frag} {mg:Str->Option Value} {base:Heap}
theorem FP {x qual:Str} {st:Stmt} {f:Addr} {fd:FuncData} {N ps:List Str} {k:Nat} {sp:Cl} (F:Av K x qual st f fd) (S:Ax N ps (Ak st)) (len:∀ ds O R RX,sp ds O R RX->ds.length=ps.length)
  (hbody:∀ (cdv:Value) (A:Around) (outer:List Env) (s:Shared) (H:Hp) (E:XK) (ds:List D) (O:Ae) (R:D->Ae->Prop) (RX:XR),AM k (A.deeper (envOfC qual (Ak st) s.heap.objs.size f cdv))->sp ds O R RX->
   D2 (CZ (Cp P w) P w K mg base N qual (Ak st) f cdv A outer s H E) True (EC N ds) O (BR st) { nx:=λ_ O'=>R .non O',rt:=R } λC fs _ O'=>RX C fs O'):AC P w K mg base (Cp P w) (k+1) f fd ps (C5 K sp):=by
 obtain ⟨oc,od,kV,doc,pm,an,cdv,ct,osl,rfl,lk,hcd⟩:=F.ex
 refine L0 lk hcd S (λvs H Q E h=>?_) λA outer s H vs Q E hr h=>?_
 ·obtain ⟨G,O,ds,R,RX,h1,h2,h3,h4⟩:=h
  rw [<- h2.length]
  exact len _ _ _ _ h3
 ·obtain ⟨G,O,ds,R,RX,h1,h2,h3,h4,h5⟩:=h
  refine ⟨_,hbody cdv A outer s H E ds O R RX hr h3 G,h1,Hl h2,⟨λσ ρ O' G' H' e1 s1 n1 q=>h4 _ _ O' G' H' e1 s1 .non q,λv d O' G' H' e1 s1 i1 q=>h4 v d O' G' H' e1 s1 i1 q,λσ ρ O' G' H' e1 s1 n1 q=>q.elim,λσ ρ O' G' H' e1 s1 n1 q=>q.elim⟩,?_⟩
  intro C fs od σ ρ O' G' H' e1 s1 n1 f1 r1
  have hE:=h5 C fs od O' G' H' e1 s1 f1 r1
  refine ⟨λpins H1 s1 a B s2 I g=>U8 pins σ H1 s1 (.ref a) s2 I ⟨a,C,od,B,H',rfl,g,hE⟩,λ_ pins s1 a t oe vs I x1 x2 x3 x4 x5 x6 x7 x9 x8=>T0 I x1 x2 x3 x4 x5 x6 x7 x9 (x8 ▸ hE)⟩
end
end DL
namespace L2
open PySem PySem.Spec PyProof.Rows
theorem Pw {K:PySem.W.Frag} {h:Heap} {C:Addr} {bmB:List Value} {newId:String} (X:K.In h) (q:PySem.W.excIn K C bmB newId=true):OwnCls "e" C bmB newId (λ_=>some (.ref C)) h:=by
 unfold PySem.W.excIn at q
 split at q
 ·rename_i dd cd sl ho
  split at q
  ·rename_i C' bm k0 k1 k2 k3 n k5 hm hs
   have e:=X _ _ ho
   obtain ⟨nm,bs,mro,ns,qn,hd,sn,sub,ab,col,del⟩:=cd
   obtain ⟨l⟩:=sl
   simp only [Bool.and_eq_true,beq_iff_eq,Bool.not_eq_true'] at q hm hs
   obtain ⟨⟨⟨⟨⟨q1,q2⟩,q3⟩,q4⟩,q5⟩,q6⟩:=q
   subst q1 q2 hm hs
   subst q3
   exact ⟨rfl,bm,ns,nm,qn,bs,hd,sn,sub,ab,col,dd,k0,k1,k2,k3,k5,_,e,.of_isNs (PySem.W.isNs_of_in X q5),PySem.W.nsMap_none_of_in X q5 q6,PySem.W.tail_of_in X q4⟩
  ·cases q
 ·cases q
section
variable {X:Cx} {pins:List (Addr×Obj)} {σ:St} {H:Hp} {s:Shared}
theorem HV {M:Model} {A:Around} {E:Value->Shared->Prop} {i:Nat} {n:Str} {pos:Pos} {Q:Unit->Shared->Prop} (I:Inv X pins σ H s) (hN:X.N.Nodup) (hi:X.N[i]?=some n) (hl:X.env.kindOf n=some .local)
  (h:∀ s',Inv X pins (σ.set i none) H s'->Q () s'):wpAny M A (do bindName X.env n .none; unbindBehindTheSuite X.env n pos) Q E s:=by
 refine wpAny_bind (wpAny_bindName (Hk I hN hi (.inl hl) (v:=.non) (u:=.none) rfl (λs1 I1=>?_) (.inr hl)))
 have hiσ:i<σ.length:=by rw [I.len]; exact (List.getElem?_eq_some_iff.mp hi).1
 obtain ⟨m,hn,hk⟩:=id I1.loc
 obtain ⟨u,ru,lu⟩:=hk i n .non hi (List.getElem?_set_self hiσ) (.inl hl)
 have hv:m n=some u:=by
  rcases lu with ⟨_,e⟩ | ⟨k | k,_⟩
  ·exact e
  ·rw [hl] at k; cases k
  ·rw [hl] at k; cases k
 unfold unbindBehindTheSuite
 refine wpAny_onRaise (wpAny_unbindName_local hl hn hv (by rw [I.ok.kind]; rfl) λh' u' hn' hs=>h _ ?_)
 have ne:∀ b o,X.s₀.heap.get? b=some o->b≠X.env.locals:=λb o e=>Nat.ne_of_lt (Nat.lt_of_lt_of_le (Heap.lt_size e) I.ok.above)
 refine ⟨I1.ok,I1.os,I1.bare,⟨λb o e n hb hx=>(hs.2 b (ne b o e)).trans (I1.base.keep b o e n hb hx),λb o e n hb hx=>?_,I1.base.free,λb o e hx=>?_,I1.base.tups,I1.base.frzs,I1.base.tbls⟩,⟨_,hn',λj y v' e1 e2 e3=>?_⟩,λy c e=>?_,I1.free,I1.freeC,λp hp=>?_,λb ob e=>?_,by simpa using I.len⟩
 ·obtain ⟨sl,q⟩:=I1.base.slot b o e n hb hx
  exact ⟨sl,(hs.2 b (ne b o e)).trans q⟩
 ·obtain ⟨o',q⟩:=I1.base.there b o e hx
  exact ⟨o',(hs.2 b (ne b o e)).trans q⟩
 ·have hj:j≠i:=by
   rintro rfl
   rw [List.getElem?_set_self hiσ] at e2
   cases e2
  rw [List.getElem?_set_ne (Ne.symm hj)] at e2
  obtain ⟨u2,r2,q⟩:=hk j y v' e1 (by rw [List.getElem?_set_ne (Ne.symm hj)]; exact e2) e3
  refine ⟨u2,r2,?_⟩
  rcases q with ⟨k,e⟩ | ⟨k,c,e,z⟩
  ·refine .inl ⟨k,?_⟩
   have:y≠n:=λe=>hj (Lq hN e1 (e ▸ hi))
   simp [this,e]
  ·exact .inr ⟨k,c,e,z.sameBut hs (I.cne y c e)⟩
 ·obtain ⟨w',z⟩:=I1.cell y c e
  exact ⟨w',z.sameBut hs (I.cne y c e)⟩
 ·obtain ⟨e,n,ne,nf,d⟩:=I1.pin p hp
  exact ⟨(hs.2 p.1 ne).trans e,n,ne,nf,d⟩
 ·refine (I1.hok b ob e).stay (λc w' hc q=>(hs.2 c ?_).trans q) (λ_ q=>q) λ_ _ q=>q
  intro z
  subst z
  rcases hc with hc | hc
  ·rw [<- hc,I1.free] at e; cases e
  ·rw [I1.free] at hc; cases hc
theorem Es.on {P:Program} {w:World} {l:List Env} {H H':Hp} {s s':Shared} {a C t:Addr} {od:Option Addr} {B h':Heap} (g:Es P w l H H' s s' a C od B) (fl':Heap.FlyingW B l a (.ref C) (.ref t) h') (sm:s'.heap.UpToSlots h') (dk:DK s'.heap h') :
  Es P w l H H' s { s' with heap:=h' } a C od B:=by
 obtain ⟨⟨t0,fl⟩,oe,ho0,ho1⟩:=g.fly
 obtain ⟨oe',ho2,ho3⟩:=dk a oe ho0
 refine ⟨g.os,g.bare,⟨⟨t,fl'⟩,oe',ho2,ho3.1.trans ho1.1,ho3.2.trans ho1.2⟩,⟨λb o q n hb _=>?_,λb o q n hb _=>?_,λb o q n hx=>g.un.free b o q n hx,λb o q _=>?_,g.un.tups,g.un.frzs,g.un.tbls⟩,LM g.hok fl.1 fl'.1 g.trk,g.old,g.trk⟩
 ·obtain ⟨o',ho⟩:=g.old b o q hb
  have h2:=fl.1 b o' ho
  rw [g.un.keep b o q n hb (by simp)] at h2
  cases h2
  exact fl'.1 b _ ho
 ·obtain ⟨sl,q1⟩:=g.un.slot b o q n hb (by simp)
  obtain ⟨_,oo,ho,hnf⟩:=fl.2.2.1.mem hb
  rw [q1] at ho
  cases ho
  obtain ⟨sl3,q3⟩:=sm b _ q1 hnf
  exact ⟨sl3,q3⟩
 ·by_cases hb:b∈AZ l
  ·obtain ⟨_,oo,ho,hnf⟩:=fl.2.2.1.mem hb
   obtain ⟨sl3,q3⟩:=sm b _ ho hnf
   exact ⟨_,q3⟩
  ·obtain ⟨o',ho⟩:=g.old b o q hb
   exact ⟨o',fl'.1 b _ ho⟩
theorem Es.new {P:Program} {w:World} {l:List Env} {H H':Hp} {s s':Shared} {a C:Addr} {od:Option Addr} {B:Heap} (g:Es P w l H H' s s' a C od B):s.heap.get? a=none/\a∉AZ l/\H' a=none:=by
 obtain ⟨⟨t,fl⟩,hd⟩:=g.fly
 have hn:a∉AZ l:=λz=>by
  obtain ⟨_,o,ho,hnf⟩:=fl.2.2.1.mem z
  obtain ⟨oe,vs,h1,h2,h3,h4⟩:=fl.first
  rw [h1] at ho
  cases ho
  exact hnf _ h3
 have hb:=fl.2.1
 refine ⟨?_,hn,?_⟩
 ·cases q:s.heap.get? a with
  | none=>rfl
  | some o=>
   obtain ⟨o',ho⟩:=g.old a o q hn
   rw [hb] at ho
   cases ho
 ·cases q:H' a with
  | none=>rfl
  | some u=>
   obtain ⟨o',ho⟩:=g.trk a u q
   rw [hb] at ho
   cases ho
abbrev Cx.as (X:Cx) (A:Around) (calm:Bool) (pn:List (Addr×Obj)) (E:Value->Shared->Prop):Cx:={ X with A:=A,calm:=calm,pn:=pn,xe:=E }
theorem Inv.as {A:Around} {calm:Bool} {pn pins':List (Addr×Obj)} {E:Value->Shared->Prop} (I:Inv X pins σ H s) (hd:calm=true->A.handled=none) (hf:A.frames=some X.stack) (hp:∀ p∈pn++pins',p∈X.pn++pins):Inv (X.as A calm pn E) pins' σ H s:=
 ⟨⟨I.ok.mod,I.ok.kind,I.ok.glob,I.ok.blt,I.ok.above,I.ok.inj,I.ok.has,I.ok.cab,hd,hf,I.ok.stk,I.ok.exf,I.ok.bs,I.ok.bsz,I.ok.noex,I.ok.exfs,I.ok.funs,I.ok.frf⟩,I.os,I.bare,I.base,I.loc,I.cell,I.free,I.freeC,λp q=>I.pin p (hp p q),I.hok,I.len⟩
theorem Inv.asI {A:Around} {calm:Bool} {pn pins':List (Addr×Obj)} {E:Value->Shared->Prop} (I:Inv (X.as A calm pn E) pins' σ H s) (hd:X.calm=true->X.A.handled=none) (hf:X.A.frames=some X.stack) (hp:∀ p∈X.pn++pins,p∈pn++pins'):Inv X pins σ H s:=
 ⟨⟨I.ok.mod,I.ok.kind,I.ok.glob,I.ok.blt,I.ok.above,I.ok.inj,I.ok.has,I.ok.cab,hd,hf,I.ok.stk,I.ok.exf,I.ok.bs,I.ok.bsz,I.ok.noex,I.ok.exfs,I.ok.funs,I.ok.frf⟩,I.os,I.bare,I.base,I.loc,I.cell,I.free,I.freeC,λp q=>I.pin p (hp p q),I.hok,I.len⟩
theorem Inv.tracked {a:Addr} {ob:Obj} (I:Inv X pins σ H s) (hx:X.ex=[]) (h1:s.heap.get? a=some ob) (h2:H a=none) (h3:X.s₀.heap.get? a=none) (h4:a≠X.env.locals) (h5:∀ x c,X.env.cells.lookup x=some c->c≠a) (h6:∀ p∈X.pn++pins,p.1≠a) :
  Inv X pins σ (Ap H a (.ext λh=>h.get? a=some ob)) s:=by
 refine ⟨I.ok,I.os,I.bare,⟨I.base.keep,I.base.slot,λb o q n hb=>?_,I.base.there,λb xs q=>?_,λb o u q=>?_,λb ps q=>?_⟩,I.loc,I.cell,by rw [AB (Ne.symm h4)]; exact I.free,λx c q=>by rw [AB (h5 x c q)]; exact I.freeC x c q,λp hp=>?_,λb u q=>?_,I.len⟩
 ·rw [AB]
  ·exact I.base.free b o q n hb
  ·rintro rfl; rw [h3] at q; cases q
 ·have:=I.base.tups b xs q
  rw [AB (BL this h2)]; exact this
 ·have:=I.base.frzs b o u q
  rw [AB (BL this h2)]; exact this
 ·obtain ⟨m,this⟩:=I.base.tbls b ps q
  exact ⟨m,by rw [AB (BL this h2)]; exact this⟩
 ·obtain ⟨e,n,r⟩:=I.pin p hp
  exact ⟨e,by rw [AB (h6 p hp)]; exact n,r⟩
 ·by_cases hb:b=a
  ·subst hb
   rw [AW] at q
   cases q
   exact ⟨h1,⟨ob,h1⟩,λx y e k=>k ob e⟩
  ·rw [AB hb] at q
   exact (I.hok b u q).stay (λ_ _ _ e=>e) (λc e=>by rw [AB (BL e h2)]; exact e) λc xs e=>by rw [AB (BL e h2)]; exact e
end
end L2
namespace DL
open PySem PySem.Spec PyProof.Rows L2
abbrev CO:List Value:=[.type "ValueError",.type "Exception",.type "BaseException",.type "object"]
section
variable {X:Cx} {mk:Prop} {ρ:Ai} {O:Ae} {e a b c o:Expr} {es:List Expr} {d da db:D} {ds:List D} {R:D->Ae->Prop} {RX:XC} {pos p np cpos hpos:Pos} {x y n:Str} {st b₀:Stmt} {rest body suite:List Stmt} {P:A3} {C CB:Addr} {fs:List (Str×D)}
theorem MS (hx:PySem.W.excIn X.K C CO "ValueError.__new__" = true) (hm:X.mg x=some (.ref C)) (ha:Bd X ρ O (e::es) ds) (hr:RX C [] ρ O) (hmk:mk) (hz:ds.length<=1000:=by simp) (hc:X.calm=true:=by rfl) (hex:X.ex=[]:=by rfl) (hg:Gl X x:=by rfl)
  (hdb:(x==("__debug__" : Str))=false:=by decide) (he:starEach (e::es) X.env=(false,eval e X.env)::starEach es X.env:=by rfl) (hpl:(backTo cpos (starEach es X.env)).any (·.1)=false:=by rfl) :
  F8 X mk ρ O (.Raise (some (.Call (.Name x np) (e::es) [] cpos)) none pos) P RX:=λG pins s σ H E I ⟨h1,h2,h3,h4⟩=>by
 obtain ⟨tl,N,nm,q,bs,hdct,sn,sub,ab,col,dd,k0,k1,k2,k3,k5,mN,hC,hN,hni,T⟩:=(Pw I.mod.kin hx).obj
 have ha':=ha G cpos pins s σ H (λvs H'=>∃ G',Ah G G'/\SA X.K G' H' O/\Aj X.K G' ds vs) I ⟨h1,h2,λvs G' H' e1 s1 i1=>⟨G',e1,s1,i1⟩⟩
 refine wpAny_Raise_call_subU (k5:=k5) (k3:=k3) (k2:=k2) (k1:=k1) (k0:=k0) (dd:=dd) (col:=col) (ab:=ab) (sub:=sub) (sn:=sn) (hdct:=hdct) (bs:=bs) (N:=N) (q:=q) (nm:=nm) (C:=C) (bm:=tl) (mN:=mN) PySem.F.excBase_ValueError wD PySem.F.excBase_ValueError (T.hasType PySem.F.excBase_ValueError.hasBase) (I.ok.hd hc) (by rw [he]; exact hpl) hni (DQ I hg hm ⟨rfl,?_⟩ hdb)
 rw [he] at ha' ⊢
 refine Calls.evalArgs_plain (Al ha' λus s2 ⟨vs,H2,I2,r,G2,e2,sa,i2⟩=>⟨rfl,?_,I2.bk _ _ hC,hN.keeps I2.bk,T.keeps I2.bk,λh' a' hx=>?_⟩)
 ·show us.length<=sizeLine
  rw [<- r.length,<- i2.length]
  exact Nat.le_of_lt (Sg hz)
 ·obtain ⟨t,he',_,_⟩:=hx.there
  refine (h4 C [] none σ ρ O G2 H2 e2 sa (h2.ext e2) (.inl rfl) hr).2 hmk pins { s2 with heap:=h' } a' t _ _ (I2.kept (t':=s2.toks) hx.keeps) ?_ ?_ he' rfl rfl rfl rfl rfl rfl
  ·cases z:H2 a' with
   | none=>rfl
   | some u=>
    obtain ⟨o,z'⟩:=I2.hok.get z
    rw [hx.new] at z'
    cases z'
  ·cases z:X.s₀.heap.get? a' with
   | none=>rfl
   | some o=>
    have hu:Un X.fs X.ex X.H₀ H2 X.s₀.heap s2.heap:=I2.base
    obtain ⟨o',z'⟩:=hu.there a' o z (by rw [hex]; simp)
    rw [hx.new] at z'
    cases z'
abbrev _root_.L2.Cx.tried (X:Cx) (pn:List (Addr×Obj)) (E:Value->Shared->Prop):Cx:=X.as X.A X.calm pn E
abbrev _root_.L2.Cx.held (X:Cx) (v:Value):Cx:=X.as (X.A.mark (some v)) false X.pn λ_ _=>False
abbrev Mf (X:Cx) (pins:List (Addr×Obj)) (E:ER) (x n:Str) (np hpos:Pos) (b₀:Stmt) (suite:List Stmt):Value->Shared->Prop:=λe s₁=>wpAny (model X.prog X.w) X.A (noteFrame e X.env) (λ_ s₂=>wpAny (model X.prog X.w) X.A (setFlight e none) (λ_ s₃=>wpAny (model X.prog X.w) X.A (handleBy e X.env [.ExceptHandler (some (.Name x np)) (some n) (b₀::suite) hpos]) (SP X pins E) X.xe s₃) X.xe s₂) X.xe s₁
theorem Fy (i:Nat) (hN:X.N.Nodup) (hm:X.mg x=some (.ref CB)) (hb:∀ pn E,D2 (X.tried pn E) False ρ O body P RX)
  (hh:∀ v C fs ρ' O',RX C fs ρ' O'->PySem.W.exmOne X.K (.ref C) (.ref CB)=some true /\
   Exs (X.held v) (ρ'.set i (some (.ptr O'.length))) (O'++[some (.exc C fs)]) (b₀::suite) { nx:=λρ2 O2=>P.nx (ρ2.set i none) O2,rt:=P.rt,bk:=λρ2 O2=>P.bk (ρ2.set i none) O2,ct:=λρ2 O2=>P.ct (ρ2.set i none) O2 })
  (hi:X.N[i]?=some n:=by rfl) (hl:X.env.kindOf n=some .local:=by rfl) (hg:Gl X x:=by rfl) (hst:X.stack=X.env::X.outer:=by rfl) (hfr:X.env.frame=some X.env.locals:=by rfl) (hex:X.ex=[]:=by rfl) (hdb:(x==("__debug__" : Str))=false:=by decide) :
  Ex X ρ O (.Try body [.ExceptHandler (some (.Name x np)) (some n) (b₀::suite) hpos] [] [] pos) P:=λG pins s σ H E I ⟨h1,h2,h3⟩=>by
 refine wpAny_Try_except ?_
 have I0:L2.Inv (X.tried (X.pn++pins) (Mf X pins E x n np hpos b₀ suite)) [] σ H s:=
  I.as I.ok.hd I.ok.frames λp q=>by simpa using q
 refine wpAny_mono (hb (X.pn++pins) (Mf X pins E x n np hpos b₀ suite) G [] s σ H E I0 ⟨h1,h2,h3,λC fs od σ2 ρ2 O2 G2 H2 e2 sa2 n2 f2 r2=>⟨λpins2 H1 s1 a' B s2 I1 g=>?_,λz=>z.elim⟩⟩) (λf s1 hs=>?_) λe s1 z=>z
 ·obtain ⟨hq,hsu⟩:=hh (.ref a') C fs ρ2 O2 r2
  have hg1:Es X.prog X.w (X.env::X.outer) H1 H2 s1 s2 a' C od B:=hst ▸ g
  obtain ⟨⟨t,fl⟩,hd⟩:=hg1.fly
  obtain ⟨n1,n3,n4⟩:=hg1.new
  have hfrm:X.A.frames=some (X.env::X.outer):=hst ▸ I.ok.frames
  show wpAny (model X.prog X.w) X.A (noteFrame _ X.env) _ _ s2
  refine wpAny_mono (OQ.any (wpAny_looks_onW (E:=λ_ _=>False) (Q:=λ_ s'=>∃ h',s'={ s2 with heap:=h' }/\Heap.HeldW B (X.env::X.outer) a' (.ref C) (.ref t) X.env.locals h'/\s2.heap.UpToSlots h') hfrm hfr fl λh4 held4 sm4=>⟨h4,rfl,held4,sm4⟩)) (λ_ s4 ⟨⟨h4,e4,held4,sm4⟩,dk4⟩=>?_) λ_ _ z=>z.1.elim
  subst e4
  refine wpAny_mono (Lw.any (wpAny_landsW (E:=λ_ _=>False) (s:={ s2 with heap:=h4 }) (Q:=λ_ s'=>∃ h',s'={ s2 with heap:=h' }/\Heap.FlyingW B (X.env::X.outer) a' (.ref C) (.ref t) h'/\h4.UpToSlots h') held4 λh5 fl5 sm5=>⟨h5,rfl,fl5,sm5⟩)) (λ_ s5 ⟨⟨h5,e5,fl5,sm5⟩,dk5⟩=>?_) λ_ _ z=>z.1.elim
  subst e5
  have g5:=hg1.on fl5 (sm4.trans sm5) (dk4.trans dk5)
  have J:∀ (s':Shared),Es X.prog X.w (X.env::X.outer) H1 H2 s1 s' a' C od B->L2.Inv X pins σ2 H2 s':=λs' g'=>by
   have:=I1.call' (ch:=[]) g'.os (by show Un (AZ X.stack) _ _ _ _ _; rw [hst]; exact g'.un) g'.hok g'.bare (λb z=>absurd z (by simp))
   exact this.asI I.ok.hd I.ok.frames λp q=>List.mem_append_left _ q
  have hmark:(X.A.mark (some (.ref a'))).frames=some X.stack:=I.ok.frames
  have I5:=J _ g5
  have I5h:L2.Inv (X.held (.ref a')) pins σ2 H2 _:=I5.as (by intro z; cases z) hmark λp q=>q
  refine wpAny_handleBy_cons (codeAny_handlers_test (DQ (X:=X.held (.ref a')) I5h hg hm ?_ hdb)) (by intro q; cases q)
  obtain ⟨ob,ho1,ho2⟩:=fl5.there
  have LT:PySem.W.Looks (model X.prog X.w) h5 (typeOf (.ref a')) (.ref C):=ho2 ▸ (PySem.W.Looks.ld ho1).andThen .now
  refine (PySem.W.exm_one I5.kIn LT hq).here (codeAny_handlers_suite_as ?_)
  refine wpAny_mono (Lw.any (lands_againW (E:=λ_ _=>False) (Q:=λ_ s'=>∃ h',s'={ s2 with heap:=h' }/\Heap.FlyingW B (X.env::X.outer) a' (.ref C) (.ref t) h'/\h5.UpToSlots h') fl5 λh6 fl6 sm6=>⟨h6,rfl,fl6,sm6⟩)) (λ_ s6 ⟨⟨h6,e6,fl6,sm6⟩,dk6⟩=>?_) λ_ _ z=>z.1.elim
  subst e6
  have g6:=g5.on fl6 sm6 dk6
  have I6:=J _ g6
  obtain ⟨ob6,ws,u1,u2,u3,u4⟩:=fl6.first
  obtain ⟨_,ob6',u1',hd6,hcx6⟩:=g6.fly
  cases Option.some.inj (u1.symm.trans u1')
  have hloc:a'≠X.env.locals:=λz=>n3 (List.mem_filterMap.mpr ⟨X.env,List.mem_cons_self,by rw [hfr,z]⟩)
  have hs0:X.s₀.heap.get? a'=none:=by
   cases z:X.s₀.heap.get? a' with
   | none=>rfl
   | some o=>
    have hu:Un X.fs X.ex X.H₀ H1 X.s₀.heap s1.heap:=I1.base
    obtain ⟨o',z'⟩:=hu.there a' o z (by rw [hex]; simp)
    rw [n1] at z'
    cases z'
  have I7:=I6.tracked hex u1 n4 hs0 hloc (λy c q z=>by
   obtain ⟨v,o,z',_⟩:=I1.cell y c q
   rw [z,n1] at z'
   cases z') (λp hp z=>by
   obtain ⟨z',_⟩:=I1.pin p (List.mem_append_left _ hp)
   rw [z,n1] at z'
   cases z')
  have I7h:L2.Inv (X.held (.ref a')) pins σ2 _ _:=I7.as (by intro z; cases z) hmark λp q=>q
  have eG:Ah G2 ⟨G2.g,G2.l++[a']⟩:=⟨Bm.refl _,[a'],rfl⟩
  have hfd:fs=[]\/∃ dx vs,ob6.dict=some dx/\G2.g dx=some (.xd vs)/\Bc X.K ⟨G2.g,G2.l++[a']⟩ fs vs:=by
   rcases f2 with z | ⟨dx,vs,z1,z2,z3⟩
   ·exact .inl z
   ·exact .inr ⟨dx,vs,hd6.trans z1,z2,Bc.ext eG z3⟩
  obtain ⟨e3,sa3⟩:=sa2.new (p:=a') (o:=.ext λh=>h.get? a'=some ob6) (m:=.exc C fs) n4 ⟨ob6,AW,⟨u2,ws,u3⟩,hfd,λa z=>by cases z⟩
  have ia:Is X.K ⟨G2.g,G2.l++[a']⟩ (.ptr O2.length) (.ref a'):=.ptr _ (by rw [<- sa2.len,List.getElem?_append_right (Nat.le_refl _),Nat.sub_self]; rfl)
  refine Hk (X:=X.held (.ref a')) I7h hN hi (.inl hl) (v:=.ref a') rfl (λs8 I8=>?_) (.inr hl)
  have e23:=e2.trans e3
  refine wpAny_mono (hsu _ pins s8 _ _ { nx:=λσ3 H3=>E.nx (σ3.set i none) H3,rt:=E.rt,bk:=λσ3 H3=>E.bk (σ3.set i none) H3,ct:=λσ3 H3=>E.ct (σ3.set i none) H3 } I8 ⟨sa3,(n2.ext e3).set i ia,?_⟩) (λf s9 hs=>?_) λ_ _ z=>z.elim
  ·have dr:∀ {K:PySem.W.Frag} {G:Wd} {σ:L2.St} {ρ:Ai},Au K G σ ρ->Au K G (σ.set i none) (ρ.set i none):=λ{K G σ ρ} h=>⟨by simp [h.len],λj d' hj=>by
    by_cases hij:i=j
    ·subst hij
     rw [List.getElem?_set] at hj
     simp at hj
    ·rw [List.getElem?_set_ne hij] at hj ⊢
     exact h.get j d' hj⟩
   exact ⟨λσ3 ρ3 O3 G3 H3 e4 s4 n4 q=>h3.nx _ _ O3 G3 H3 (e23.trans e4) s4 (dr n4) q,λv d' O3 G3 H3 e4 s4 i4 q=>h3.rt v d' O3 G3 H3 (e23.trans e4) s4 i4 q,λσ3 ρ3 O3 G3 H3 e4 s4 n4 q=>h3.bk _ _ O3 G3 H3 (e23.trans e4) s4 (dr n4) q,λσ3 ρ3 O3 G3 H3 e4 s4 n4 q=>h3.ct _ _ O3 G3 H3 (e23.trans e4) s4 (dr n4) q⟩
  ·have fin:∀ {σ3:L2.St} {H3:Hp},L2.Inv (X.held (.ref a')) pins σ3 H3 s9->L2.Inv X pins σ3 H3 s9:=λI9=>I9.asI I.ok.hd I.ok.frames λp q=>q
   cases f with
   | next=>
    obtain ⟨σ3,H3,I9,q⟩:=hs
    exact HV (fin I9) hN hi hl λs' I'=>⟨_,_,I',q⟩
   | ret u=>
    obtain ⟨v,σ3,H3,I9,r,q⟩:=hs
    exact HV (fin I9) hN hi hl λs' I'=>⟨v,_,_,I',r,q⟩
   | brk=>
    obtain ⟨σ3,H3,I9,q⟩:=hs
    exact HV (fin I9) hN hi hl λs' I'=>⟨_,_,I',q⟩
   | cont=>
    obtain ⟨σ3,H3,I9,q⟩:=hs
    exact HV (fin I9) hN hi hl λs' I'=>⟨_,_,I',q⟩
 ·have fin:∀ {σ3:L2.St} {H3:Hp},L2.Inv (X.tried (X.pn++pins) (Mf X pins E x n np hpos b₀ suite)) [] σ3 H3 s1->L2.Inv X pins σ3 H3 s1:=
   λI9=>I9.asI I.ok.hd I.ok.frames λp q=>by simpa using q
  cases f with
  | next=>
   obtain ⟨σ3,H3,I9,q⟩:=hs
   exact K9 pins s1 σ3 H3 E (fin I9) q
  | ret u=>
   obtain ⟨v,σ3,H3,I9,r,q⟩:=hs
   exact ⟨v,σ3,H3,fin I9,r,q⟩
  | brk=>
   obtain ⟨σ3,H3,I9,q⟩:=hs
   exact ⟨σ3,H3,fin I9,q⟩
  | cont=>
   obtain ⟨σ3,H3,I9,q⟩:=hs
   exact ⟨σ3,H3,fin I9,q⟩
end
end DL
namespace L2
open PySem PySem.Spec PyProof.Rows Builtin.ObjectAttr Builtin.Getset_descriptor
structure Co (K:PySem.W.Frag) (C:Addr):Prop where
 ga:PySem.W.findIn K (.ref C) "__getattribute__" = some (some (.builtin "BaseException.__getattribute__"))
 hk:PySem.W.findIn K (.ref C) "__getattr__" = some none
 mb:PySem.W.mroIn K C (.type "BaseException")=some true
 mo:PySem.W.mroIn K C (.type "object")=some true
 ca:PySem.W.findIn K (.ref C) "__class__" = some (some (.builtin "object.__class__"))
 gn:PySem.W.specialIn K (.builtin "object.__class__") "__get__" = some (some (.builtin "getset_descriptor.__get__"))
 gt:PySem.W.takesIn K (.builtin "object.__class__")=some true
 hd:PySem.W.hasDictIn K C=true
section
variable {prog:Program} {w:World} {A:Around} {E:Value->Shared->Prop} {s:Shared} {K:PySem.W.Frag} {x C:Addr} {n:Str}
theorem Px {nv:Value} {Q:Unit->Shared->Prop} (T:Co K C) (X:K.In s.heap) (LT:PySem.W.Looks (model prog w) s.heap (typeOf (.ref x)) (.ref C)) (h:Q () s):wpAny (model prog w) A (checkBuiltinCall "BaseException.__getattribute__" ⟨[.ref x,nv],[]⟩) Q E s:=by
 have LI:PySem.W.Looks (model prog w) s.heap (isInstance (.ref x) (.type "BaseException")) true:=LT.andThen (PySem.W.looks_mroIn X T.mb)
 exact @PySem.W.check_slot (model prog w) _ _ s "BaseException.__getattribute__" "BaseException" "__getattribute__" (.ref x) [nv] [] _ wD wD LI (F.args_bexc_ga (.ref x) nv) h
theorem Yv (T:Co K C) {h:Heap} {M:Model} (X:K.In h):PySem.W.Looks M h (find (.ref x) (.ref C) "__class__") (.bind (.builtin "getset_descriptor.__get__") (.builtin "object.__class__")):=by
 have L1:=PySem.W.looks_findIn (M:=M) X T.ca
 have L2:=PySem.W.looks_specialIn (M:=M) X T.gn
 have L3:=PySem.W.looks_takesIn (M:=M) X T.gt
 refine L1.andThen (PySem.W.Looks.andThen (t:=getOf _) L2 ?_)
 refine PySem.W.Looks.andThen (t:=dataDescriptor? _ _) (L3.andThen .now) ?_
 exact PySem.W.Looks.tag .now
theorem Yy {R:Result->Shared->Prop} {tp:Value} (T:Co K C) (X:K.In s.heap) (LT:PySem.W.Looks (model prog w) s.heap (typeOf (.ref x)) (.ref C)) (h:R (.ok (.ret (.ref C))) s) :
  codeAny (model prog w) A (.call (.builtin "getset_descriptor.__get__") ⟨[.builtin "object.__class__",.ref x,tp],[]⟩) R s:=by
 have LS:=PySem.W.looks_mroIn (M:=model prog w) X T.mo
 cases s
 refine codeAny_call_builtin PySem.W.KF.slot_gs.plain PySem.W.KF.entry_gs (PySem.W.KF.slot_gs.check _ _ _ _ _ _ _ _ PySem.W.KF.type_class (PySem.W.KF.args_gs _ _ _) ?_)
 unfold Builtin.«getset_descriptor.__get__» descrGet descrGetter descrCheckInstance descrNameAndClass isInstance; rw [PySem.W.dga_obj]
 refine wpAny_bind (wpAny_pure ?_); simp only [PySem.W.KF.owner_class]; repeat lk
 refine ⟨Code.quiet_builtin _ wD,codeAny_builtin PySem.W.KF.entry_class ?_⟩; unfold Builtin.«object.__class__» shownTypeOf; repeat lk
 exact h
theorem Yw {tk:Tok} {P:Value->Shared->Prop} (T:Co K C) (X:K.In s.heap) (LT:PySem.W.Looks (model prog w) s.heap (typeOf (.ref x)) (.ref C)) (h:P (.ref C) s) :
  wpAny (model prog w) A (Builtin.«object.__getattribute__» ⟨[.ref x,.str "__class__" tk],[]⟩) (λfin s'=>match fin with | .done (.ret v)=>P v s' | _=>False) E s:=by
 have LF:=Yv (x:=x) (M:=model prog w) T X
 obtain ⟨hh,gg,d,t,os⟩:=s
 unfold Builtin.«object.__getattribute__» slotArgs
 refine wpAny_bind (wpAny_bind (wpAny_pure (wpAny_bind (wpAny_pure (wpAny_pure ?_)))))
 refine wpAny_bind (wpAny_pure (wpAny_bind (LT.at (wpAny_bind (LF.at ?_)))))
 show wpAny _ _ (holding [_] (call _ [_,.ref x,.ref C]) >>= ret) _ _ _
 exact wpAny_bind (wpAny_holding (wpAny_call (Yy T X LT (wpAny_pure h))))
theorem Yx {Q:Option Value->Shared->Prop} (T:Co K C) (X:K.In s.heap) (LT:PySem.W.Looks (model prog w) s.heap (typeOf (.ref x)) (.ref C)) (h:Q (some (.ref C)) { s with toks:=s.toks+1 }) :
  wpAny (model prog w) A (getAttr? (.ref x) "__class__") Q E s:=by
 have LG:=PySem.W.looks_findIn (M:=model prog w) X T.ga
 have LH:=PySem.W.looks_findIn (M:=model prog w) X T.hk
 unfold getAttr? getAttrBy? getAttrBy
 refine wpAny_bind (wpAny_mkText (wpAny_bind (wpAny_attempt (wpAny_holding (wpAny_bind (LT.at (wpAny_bind (LG.at ?_))))))))
 show wpAny _ _ (getAttrByItsOwn _ _ _ _ _ _) _ _ _
 unfold getAttrByItsOwn
 refine wpAny_bind (LH.at (wpAny_bind (wpAny_attempt (wpAny_holding ?_))))
 show wpAny _ _ (boundAndCalled _ _ _) _ _ _
 unfold boundAndCalled
 rw [F.excAttr_ValueError.ga.bind]
 refine wpAny_bind (wpAny_pure (wpAny_call (codeAny_call_builtin F.excAttr_ValueError.ga.plain F.entry_bexc_ga (Px T X LT (wpAny_mono (Yw (s:={ s with toks:=s.toks+1 }) (P:=λv s'=>v=.ref C/\s'={ s with toks:=s.toks+1 }) T X LT ⟨rfl,rfl⟩) (λfin s' z=>?_) λ_ _ z=>z)))))
 rcases fin with (v | _ | _ | _) | _ <;> first | exact z.elim | skip
 obtain ⟨rfl,rfl⟩:=z
 exact PySem.W.handed_on rfl (wpAny_pure h)
theorem O7 (T:Co K C):PySem.W.KitX K (.ref x) (.ref C) (λh=>∀ M,PySem.W.Looks M h (typeOf (.ref x)) (.ref C)) where
 ty:=λM _ _ L=>L M
 it:=λ_ _ X _=>by
  obtain ⟨cd,hc,_⟩:=PySem.W.any_some T.hd
  unfold PySem.W.clsIn at hc; split at hc
  ·rename_i ho
   intro _ _ _ _ k q
   exact wpAny_bind (wpAny_loadPart (k _ _ (X _ _ ho)) (wpAny_pure q))
  ·cases hc
 ne:=λh tp dd its n sl X ht=>by
  obtain ⟨cd,hc,_⟩:=PySem.W.any_some T.hd
  unfold PySem.W.clsIn at hc; split at hc
  ·rename_i ho
   by_cases e:C=tp
   ·subst e; cases (X _ _ ho).symm.trans ht
   ·exact Bool.eq_false_iff.mpr λq=>e (Value.ref.inj (beq_iff_eq.mp q))
  ·cases hc
 ca:=λX L k=>Yx T X (L _) k
end
end L2
namespace DL
open PySem PySem.Spec PyProof.Rows L2
section
variable {X:Cx} {ρ:Ai} {O:Ae} {e:Expr} {es:List Expr} {p p2 pos:Pos} {x:Str} {C C2:Addr} {q:Nat} {fs:List (Str×D)} {k:Bool} {x1:Nat}
theorem Pv {pins:List (Addr×Obj)} {σ:L2.St} {H:Hp} {s:Shared} {a:Addr} {ob:Obj} (I:L2.Inv X pins σ H s) (h:H a=some (.ext λh=>h.get? a=some ob)) (hc:ob.cls=.ref C):∀ M,PySem.W.Looks M s.heap (typeOf (.ref a)) (.ref C):=λM=>by
 obtain ⟨ho,_⟩:=I.hok a _ h
 exact hc ▸ (PySem.W.Looks.ld ho).andThen .now
def MI (C:Addr) (v:V) (H:Hp):Prop:=∃ a ob,v=.ref a/\H a=some (.ext λh=>h.get? a=some ob)/\ob.cls=.ref C
theorem Py {K:PySem.W.Frag} {G:Wd} {H:Hp} {v:V} (s:SA K G H O) (i:Is K G (.ptr q) v) {hx':Option Addr} (hq:O[q]?=some (some (.exc C fs hx'))):MI C v H:=by
 cases i with
 | ptr _ ha=>
  obtain ⟨a,h1,h2,ob,h3,⟨h4,_⟩,_⟩:=s.mt q _ hq
  cases Option.some.inj (ha.symm.trans h1)
  exact ⟨_,ob,rfl,h3,h4⟩
theorem Dl (hm:X.mg "isinstance" = none) (he:Ad X ρ O e (.ptr q)) {hx':Option Addr} (hq:O[q]?=some (some (.exc C fs hx'))) (T:Co X.K C) (hx:X.mg x=some (.ref C2)) (hk:PySem.W.kitOne X.K (.ref C) (.ref C2)=some k)
  (hg:Gl X "isinstance" := by rfl) (hgx:Gl X x:=by rfl) (hdx:(x==("__debug__" : Str))=false:=by decide) (hs:starEach [e,.Name x p2] X.env=(false,eval e X.env)::starEach [.Name x p2] X.env:=by rfl) (hpl:(backTo pos (starEach [.Name x p2] X.env)).any (·.1)=false:=by rfl) :
  Ad X ρ O (.Call (.Name "isinstance" p) [e,.Name x p2] [] pos) (.bl k):=λG=>by
 refine PE.imp (FO (id := "isinstance") (r:=λvs H Q=>∃ v,vs=[v,.ref C2]/\MI C v H/\Q (.bl k) H) (λpins s σ H xs us Q I r h=>?_) hg hm (by first | rfl | decide +kernel) (Cq (he G) (Cq (HJ (v:=.ref C2) hgx hx rfl hdx) DN rfl) hs) wE wE hs hpl) λσ H Q ⟨h1,h2,h3⟩=>?_
 ·obtain ⟨v,rfl,⟨a,ob,rfl,ha,hc⟩,hQ⟩:=h
  obtain ⟨u,u',rfl,ru,ru'⟩:=Ds r
  cases ru'; cases ru
  exact PySem.W.kia_one (O7 T) I.kIn (Pv I ha hc) hk (by intro z; cases z) λtk=>⟨.bl k,H,I.kept λ_ _ e=>e,rfl,hQ⟩
 ·exact ⟨h1,h2,λv G1 H1 e1 s1 i1=>⟨v,rfl,Py s1 i1 hq,h3 _ G1 H1 e1 s1 (.bl k)⟩⟩
theorem PF {U:String} (hm:X.mg "isinstance" = none) (he:Ad X ρ O e (.ptr q)) {hx':Option Addr} (hq:O[q]?=some (some (.exc C fs hx'))) (T:Co X.K C) (hx:X.mg x=none) (hk:PySem.W.kitOne X.K (.ref C) (.type U)=some k) (hv:bootBuiltins x=some (.type U):=by first | rfl | decide +kernel)
  (hg:Gl X "isinstance" := by rfl) (hgx:Gl X x:=by rfl) (hn:x ≠ "__name__" := by decide) (hdx:(x==("__debug__" : Str))=false:=by decide) (hs:starEach [e,.Name x p2] X.env=(false,eval e X.env)::starEach [.Name x p2] X.env:=by rfl) (hpl:(backTo pos (starEach [.Name x p2] X.env)).any (·.1)=false:=by rfl) :
  Ad X ρ O (.Call (.Name "isinstance" p) [e,.Name x p2] [] pos) (.bl k):=λG=>by
 refine PE.imp (FO (id := "isinstance") (r:=λvs H Q=>∃ v,vs=[v,.ty U]/\MI C v H/\Q (.bl k) H) (λpins s σ H xs us Q I r h=>?_) hg hm (by first | rfl | decide +kernel) (Cq (he G) (Cq (Lh (v:=.ty U) hgx hx hv rfl hn hdx) DN rfl) hs) wE wE hs hpl) λσ H Q ⟨h1,h2,h3⟩=>?_
 ·obtain ⟨v,rfl,⟨a,ob,rfl,ha,hc⟩,hQ⟩:=h
  obtain ⟨u,u',rfl,ru,ru'⟩:=Ds r
  cases ru'; cases ru
  exact PySem.W.kia_one (O7 T) I.kIn (Pv I ha hc) hk (by intro z; cases z) λtk=>⟨.bl k,H,I.kept λ_ _ e=>e,rfl,hQ⟩
 ·exact ⟨h1,h2,λv G1 H1 e1 s1 i1=>⟨v,rfl,Py s1 i1 hq,h3 _ G1 H1 e1 s1 (.bl k)⟩⟩
end
end DL
namespace L2
open PySem PySem.Spec PyProof.Rows
section
variable {X:Cx} {tg a b c:Expr} {p pos:Pos}
end
end L2
namespace DL
open PySem PySem.Spec PyProof.Rows L2
section
variable {X:Cx} {ρ:Ai} {O:Ae} {a b c:Expr} {p pos:Pos} {P:A3} {st:Stmt} {rest:List Stmt}
end
end DL
namespace L2
open PySem PySem.Spec PyProof.Rows Builtin.ObjectAttr
open DL (CO)
abbrev Yz (vs:List Value):Obj:={ cls:=.type "tuple",data:=.seq vs.toArray }
abbrev DS (C t:Addr):Obj:={ cls:=.ref C,data:=.fields #[.ref t,.none,.none,.none,.bool false,.none] }
abbrev DR (h:Heap) (C:Addr) (vs:List Value):Heap:=(h.push (Yz vs)).push (DS C h.objs.size)
section
variable {prog:Program} {w:World} {A:Around} {s:Shared} {K:PySem.W.Frag} {C f N:Addr} {nm q:Str} {bs bm:List Value} {hdct:Bool} {sn:List Str} {sub:List Value} {ab:Bool} {col:Option Bool} {dd:Option Addr} {k0 k1 k2 k3 k5:Option Value}
theorem Yr {vs:List Value} {R:Result->Shared->Prop} (X:K.In s.heap) (hC:s.heap.get? C=some (excClassObj nm q C N bs bm hdct sn sub ab col dd k0 k1 k2 k3 k5 "ValueError.__new__")) (T:OwnTail s.heap CO bm)
  (hi:PySem.W.findIn K (.ref C) "__init__" = some (some (.ref f))) (hf:PySem.W.typeIn K (.ref f)=some (.type "function")) (hz:vs.length<=sizeLine)
  (h:codeAny (model prog w) (A.under (.builtin "type.__call__" ⟨.ref C::vs,[]⟩)) (.call (.ref f) ⟨.ref (s.heap.objs.size+1)::vs,[]⟩) (PySem.W.InitBack (s.heap.objs.size+1) R) { s with heap:=DR s.heap C vs }) :
  codeAny (model prog w) A (.call (.ref C) ⟨vs,[]⟩) R s:=by
 obtain ⟨hp,g,d,t,os⟩:=s
 have f1:=tc_lookup
 have f2:=tc_bind (.ref C)
 have hT:(⟨hp,g,d,t,os⟩:Shared).TypeIs (.ref C) "type" :=⟨_,hC,rfl⟩
 have kp:∀ b o,hp.get? b=some o->(DR hp C vs).get? b=some o:=λb o e=>Heap.get?_push_of_some _ (Heap.get?_push_of_some _ e)
 have X1:K.In (DR hp C vs):=λb o e=>kp b o (X b o e)
 have LI:=PySem.W.looks_findIn (M:=model prog w) X1 hi
 have LB:=PySem.W.bind_fn (M:=model prog w) X1 (.ref (hp.objs.size+1)) hf
 have hC1:=kp _ _ hC
 have hget:(DR hp C vs).get? (hp.objs.size+1)=some (DS C hp.objs.size):=by heap_get
 have hcC:(Value.ref C::bm).contains (.ref C)=true:=by simp
 refine codeAny_of_tree ?_
 show wpAny _ _ (callAny (.ref C) _) _ _ _
 repeat (any_goals (first | assumption | with_reducible refine wpAny_loadPart_at hC ?_ | wp_step))
 refine ⟨rfl,codeAny_call_builtin_at (Code.quiet_builtin _ wD) entry_typeCall (wpAny_check_type_call_sub hC ?_)⟩
 repeat (first | with_reducible refine wpAny_loadPart_at hC ?_ | with_reducible refine wpAny_madeBy_exc hC ?_ | wp_step)
 refine codeAny_call_builtin_code (Code.quiet_builtin _ F.excBase_ValueError.quiet) (wpAny_check_new_subU F.excBase_ValueError wD T hC (codeAny_exc_new_subU F.excBase_ValueError wD F.excBase_ValueError T hC ?_ hz))
 show wpAny _ _ _ _ _ _
 have LT:PySem.W.Looks (model prog w) (DR hp C vs) (typeOf (.ref (hp.objs.size+1))) (.ref C):=(PySem.W.Looks.ld hget).andThen .now
 have LS:PySem.W.Looks (model prog w) (DR hp C vs) (isSubtype (.ref C) (.ref C)) true:=λ{_ _ _ s'} k z=>by
  obtain ⟨h1,g1,d1,t1,o1⟩:=s'
  refine wpAny_isSubtype_exc (k _ _ hC1) ?_
  rw [hcC]
  exact z
 show wpAny _ _ _ _ _ ⟨DR hp C vs,g,d,t,os⟩
 unfold isInstance callSpecial? specialOf
 refine wpAny_bind (wpAny_bind (LT.at (LS.at ?_)))
 show wpAny _ _ (holding [_] _ >>= _) _ _ _
 refine wpAny_bind (wpAny_holding (wpAny_bind (wpAny_bind (LT.at (LI.at ?_)))))
 show wpAny _ _ (holding _ _) _ _ _
 refine wpAny_holding (wpAny_bind (LB.at (wpAny_bind (wpAny_call (codeAny_mono h λr s' z=>?_)))))
 rcases r with e | (v | _ | _ | _) <;> first | exact z | exact z.elim | skip
 obtain ⟨rfl,z⟩:=z
 exact wpAny_pure (wpAny_pure z)
theorem TY {h:Heap} {tl:List Value} (T:OwnTail h CO tl) (self:Value):refuseLoop self "__setattr__" tl=pure ():=by
 induction T with
 | base=>exact F.store_ValueError.passes self
 | own _ _ _ _ ih=>rw [refuseLoop_ref]; exact ih
theorem Yq {E:Value->Shared->Prop} {a t:Addr} {name:Str} {v:Value} {Q:Unit->Shared->Prop} (X:K.In s.heap) (hC:s.heap.get? C=some (excClassObj nm q C N bs bm true sn sub ab col dd k0 k1 k2 k3 k5 "ValueError.__new__")) (T:OwnTail s.heap CO bm)
  (ho:s.heap.get? a=some (DS C t)) (sa:PySem.W.findIn K (.ref C) "__setattr__" = some (some (.builtin "object.__setattr__"))) (na:PySem.W.findIn K (.ref C) name=some none) (mo:PySem.W.mroIn K C (.type "object")=some true) (hd:PySem.W.hasDictIn K C=true)
  (h:∀ h' tk,h'.get? a=some { DS C t with dict:=some s.heap.objs.size }->h'.Ns1 s.heap.objs.size (λy=>if y=name then some v else none)->(∀ b o,b≠a->s.heap.get? b=some o->h'.get? b=some o)->Q () { s with heap:=h',toks:=tk }) :
  wpAny (model prog w) A (setAttr (.ref a) name v) Q E s:=by
 obtain ⟨hp,g,d,tk,os⟩:=s
 have LT:PySem.W.Looks (model prog w) hp (typeOf (.ref a)) (.ref C):=(PySem.W.Looks.ld ho).andThen .now
 have LS:=PySem.W.looks_findIn (M:=model prog w) X sa
 have LN:=PySem.W.looks_findIn (M:=model prog w) X na
 have LO:PySem.W.Looks (model prog w) hp (isInstance (.ref a) (.type "object")) true:=LT.andThen (PySem.W.looks_mroIn X mo)
 have SF:=F.store_ValueError
 have hxs:a≠hp.objs.size:=Nat.ne_of_lt (Heap.lt_size ho)
 unfold setAttr callSpecial? specialOf
 refine wpAny_bind (wpAny_mkText (wpAny_bind (wpAny_bind (wpAny_bind (LT.at (LS.at (wpAny_holding ?_)))))))
 rw [SF.slot.bind]
 refine wpAny_bind (wpAny_pure (wpAny_bind (wpAny_call (codeAny_call_builtin SF.slot.plain SF.entry (@PySem.W.check_slot (model prog w) _ _ _ "object.__setattr__" "object" "__setattr__" (.ref a) [.str name tk,v] [] _ SF.kind SF.split LO (SF.args (.ref a) (.str name tk) v) ?_)))))
 show wpAny _ _ (Builtin.«object.__setattr__» ⟨[.ref a,.str name tk,v],[]⟩) _ _ ⟨hp,g,d,tk+1,os⟩
 rw [PySem.W.osa_eq,refuse_eq]
 refine wpAny_bind (wpAny_bind (LT.at (wpAny_bind (wpAny_mroOf_exc hC ?_))))
 rw [refuseLoop_ref,TY T]
 refine wpAny_pure (wpAny_bind (LT.at (wpAny_bind (LN.at (wpAny_bind (wpAny_pure ?_))))))
 show wpAny _ _ (storeInOwnDict _ _ _ _ _ _) _ _ _
 obtain ⟨cd,hc,hd'⟩:=PySem.W.any_some hd
 refine wpAny_bind (wpAny_pure (wpAny_bind (wpAny_bind (wpAny_loadPart ho (wpAny_bind ((PySem.W.looks_clsIn X hc).at ?_))))))
 rw [hd']
 have hx1:(hp.push { cls:=.type "dict",data:=.dict #[] }).get? a=some (DS C t):=Heap.get?_push_of_some _ ho
 generalize hH:((hp.push { cls:=.type "dict",data:=.dict #[] }).update a λo=>{ o with dict:=some hp.objs.size })=h1
 have ha1:h1.get? a=some { DS C t with dict:=some hp.objs.size }:=hH ▸ Heap.get?_update_self _ hx1 rfl
 have hd1:h1.get? hp.objs.size=some { cls:=.type "dict",data:=.dict #[] }:=hH ▸ (Heap.get?_update_ne _ _ _ _ (Ne.symm hxs)).trans (Heap.get?_push_at rfl rfl)
 have hk1:∀ b o,b≠a->hp.get? b=some o->h1.get? b=some o:=λb o n e=>hH ▸ (Heap.get?_update_ne _ _ _ _ n).trans (Heap.get?_push_of_some _ e)
 have hn1:h1.Ns hp.objs.size (λ_=>none):=⟨_,#[],_,hd1,rfl,λe he=>absurd he (by simp),λ_=>rfl⟩
 show wpAny _ _ (alloc _ >>= λd=>update a (λo=>{ o with dict:=some d }) >>= λ_=>dictMade (.ref C) a d) _ _ _
 refine wpAny_bind (wpAny_alloc' (wpAny_bind (wpAny_update' hx1 (wpAny_pure ?_))))
 show wpAny _ _ (storeInDict hp.objs.size (.str name tk) name v) _ _ ⟨_,_,_,_,_⟩
 rw [show ((⟨hp,g,d,tk+1,os⟩:Shared).heap.push { cls:=.type "dict",data:=.dict #[] })=hp.push { cls:=.type "dict",data:=.dict #[] } from rfl,hH]
 unfold storeInDict newKeyGuard
 refine wpAny_bind (wpAny_pure (wpAny_bind (wpAny_nsSet1 (Heap.Ns1.of_empty hn1) λh' hn' hs=>?_)))
 obtain ⟨oD,esD,epD,hoD,hdD,hcD⟩:=hn'.count (Within.cons name v Within.nil)
 refine wpAny_bind (wpAny_lookBehind hoD (by rw [hdD]; exact pastItsLine_dict (Nat.le_trans hcD (by rw [List.length_cons,List.length_nil,sizeLine_eq]; omega))) ?_)
 refine wpAny_pure (wpAny_pure (wpAny_pure (h h' _ ((hs.2 a hxs).trans ha1) hn' λb o n e=>(hs.2 b (Nat.ne_of_lt (Heap.lt_size e))).trans (hk1 b o n e))))
end
end L2
namespace L2
open PySem PySem.Spec PyProof.Rows Builtin.ObjectAttr DL
structure F7 (K:PySem.W.Frag) (C f:Addr) (name:Str):Prop where
 cls:∃ (nm q:Str) (N:Addr) (bs bm:List Value) (sn:List Str) (sub:List Value) (ab:Bool) (col:Option Bool) (dd:Option Addr) (k0 k1 k2 k3 k5:Option Value),
  K.lookup C=some (excClassObj nm q C N bs bm true sn sub ab col dd k0 k1 k2 k3 k5 "ValueError.__new__")/\∀ h,K.In h->OwnTail h CO bm
 init:PySem.W.findIn K (.ref C) "__init__" = some (some (.ref f))
 fn:PySem.W.typeIn K (.ref f)=some (.type "function")
 sa:PySem.W.findIn K (.ref C) "__setattr__" = some (some (.builtin "object.__setattr__"))
 na:PySem.W.findIn K (.ref C) name=some none
 kp:PySem.W.keepIn K (.ref C)=true
section
variable {X:Cx} {pins:List (Addr×Obj)} {σ:St} {H:Hp} {s:Shared} {C f a t:Addr} {name:Str}
abbrev F0 (C a t:Addr):HO:=.ext λh=>h.get? a=some (DS C t)
abbrev Ey (C a t dx:Addr):HO:=.ext λh=>h.get? a=some { DS C t with dict:=some dx }
theorem Inv.track {b:Addr} {o:HO} (I:Inv X pins σ H s) (fp:BS X pins H b) (hs:X.s₀.heap.get? b=none) (new:BI X.prog X.w (Ap H b o) s.heap b o):Inv X pins σ (Ap H b o) s:=by
 obtain ⟨h2,h4,_,_,h5,h6⟩:=fp
 refine ⟨I.ok,I.os,I.bare,⟨I.base.keep,I.base.slot,λc o q n hb=>?_,I.base.there,λc xs q=>?_,λc o u q=>?_,λc ps q=>?_⟩,I.loc,I.cell,by rw [AB (Ne.symm h4)]; exact I.free,λx c q=>by rw [AB (h5 x c q)]; exact I.freeC x c q,λp hp=>?_,λc u q=>?_,I.len⟩
 ·rw [AB]
  ·exact I.base.free c o q n hb
  ·rintro rfl; rw [hs] at q; cases q
 ·have:=I.base.tups c xs q
  rw [AB (BL this h2)]; exact this
 ·have:=I.base.frzs c o u q
  rw [AB (BL this h2)]; exact this
 ·obtain ⟨m,this⟩:=I.base.tbls c ps q
  exact ⟨m,by rw [AB (BL this h2)]; exact this⟩
 ·obtain ⟨e,n,r⟩:=I.pin p hp
  exact ⟨e,by rw [AB (h6 p hp)]; exact n,r⟩
 ·by_cases hb:c=b
  ·subst hb
   rw [AW] at q
   cases q
   exact new
  ·rw [AB hb] at q
   exact (I.hok c u q).stay (λ_ _ _ e=>e) (λc e=>by rw [AB (BL e h2)]; exact e) λc xs e=>by rw [AB (BL e h2)]; exact e
theorem Ys {y:V} {u:Value} {A:Around} {E:Value->Shared->Prop} {Q:Unit->Shared->Prop} (Z:F7 X.K C f name) (T:Co X.K C) (I:Inv X pins σ H s) (e:H a=some (F0 C a t)) (ry:AN y u)
  (h:∀ s' dx,H dx=none->Inv X pins σ (Ap (Ap H a (Ey C a t dx)) dx (.xd [(name,y)])) s'->Q () s'):wpAny (model X.prog X.w) A (setAttr (.ref a) name u) Q E s:=by
 obtain ⟨nm,q,N,bs,bm,sn,sub,ab,col,dd,k0,k1,k2,k3,k5,hC,hT⟩:=Z.cls
 obtain ⟨ho,_⟩:=I.hok a _ e
 refine Yq I.kIn (I.kIn _ _ hC) (hT _ I.kIn) ho Z.sa Z.na T.mo T.hd λh' tk h1 h2 h3=>h _ s.heap.objs.size (I.hok.fresh (Nat.le_refl _)) ?_
 have hne:a≠s.heap.objs.size:=Nat.ne_of_lt (Heap.lt_size ho)
 have hf:H s.heap.objs.size=none:=I.hok.fresh (Nat.le_refl _)
 have I1:Inv X pins σ (Ap H a (Ey C a t s.heap.objs.size)) { s with heap:=h',toks:=tk }:=
  I.write (x:=a) (e:=a) (by rw [e]; exact True.intro) (.inl rfl) (λb u n z=>h3 b u n z) ⟨_,h1⟩ ⟨h1,⟨_,h1⟩,λx y e k=>k _ e⟩
 have fp:=I.fpOk (b:=s.heap.objs.size) (H':=Ap H a (Ey C a t s.heap.objs.size)) (Nat.le_refl _) (by rw [AB (Ne.symm hne)]; exact hf)
 refine I1.track fp ?_ ⟨_,h2,λg=>?_⟩
 ·cases z:X.s₀.heap.get? s.heap.objs.size with
  | none=>rfl
  | some o=>exact absurd (Heap.lt_size z) (Nat.not_lt.mpr I.sz)
 ·show Dq (List.lookup g [(name,y)]) (if g=name then some u else none)
  by_cases z:g=name
  ·rw [if_pos z,z,List.lookup_cons,beq_self_eq_true]; exact ry
  ·rw [if_neg z,List.lookup_cons,beq_eq_false_iff_ne.mpr z]; trivial
theorem Inv.forget {φ:Heap->Prop} (I:Inv X pins σ (Ap H a (.ext φ)) s) (hn:H a=none):Inv X pins σ H s:=by
 have hs:∀ b u,H b=some u->Ap H a (.ext φ) b=some u:=λb u q=>by rw [AB (BL q hn)]; exact q
 have back:∀ b u,Ap H a (.ext φ) b=some u->u≠.ext φ->H b=some u:=λb u q n=>by
  by_cases hb:b=a
  ·subst hb; rw [AW] at q; exact absurd (Option.some.inj q).symm n
  ·rw [AB hb] at q; exact q
 have no:∀ b,Ap H a (.ext φ) b=none->H b=none:=λb q=>by
  by_cases hb:b=a
  ·subst hb; exact hn
  ·rw [AB hb] at q; exact q
 refine ⟨I.ok,I.os,I.bare,⟨I.base.keep,I.base.slot,λc o q n hb=>no c (I.base.free c o q n hb),I.base.there,λc xs q=>back c _ (I.base.tups c xs q) (λz=>by cases z),λc o u q=>back c _ (I.base.frzs c o u q) (λz=>by cases z),λc ps q=>?_⟩,I.loc,I.cell,no _ I.free,λx c q=>no _ (I.freeC x c q),λp hp=>?_,λc u q=>?_,I.len⟩
 ·obtain ⟨m,z⟩:=I.base.tbls c ps q
  exact ⟨m,back c _ z (λz=>by cases z)⟩
 ·obtain ⟨e,n,r⟩:=I.pin p hp
  exact ⟨e,no _ n,r⟩
 ·refine (I.hok c u (hs c u q)).stay (λ_ _ _ e=>e) (λb e=>back b _ e λz=>by cases z) λb xs e=>back b _ e λz=>by cases z
end
end L2
namespace L2
open PySem PySem.Spec PyProof.Rows Builtin.ObjectAttr DL
def Go (C:Addr) (name:Str):Sp:=λvs H Q _=>∃ a t v,vs=[.ref a,v]/\H a=some (F0 C a t)/\∀ dx,H dx=none->Q .non (Ap (Ap H a (Ey C a t dx)) dx (.xd [(name,v)]))
section
variable {P:Program} {w:World} {K:PySem.W.Frag} {mg:Str->Option Value} {base:Heap} {C f:Addr} {name sn nn qual:Str} {st:Stmt} {fd:FuncData} {p1 p2 p3 p4:Pos}
theorem Uy {X:Cx} (Z:F7 X.K C f name) (T:Co X.K C) (h0:X.N[0]?=some sn) (h1:X.N[1]?=some nn) (v0:C1 X.env.scope sn) (v1:C1 X.env.scope nn) (d0:(sn==("__debug__" : Str))=false) (d1:(nn==("__debug__" : Str))=false) (c0:(sn==("__classdict__" : Str))=false) (c1:(nn==("__classdict__" : Str))=false)
  (hs:swapsWith (.Name nn p3) (some (.Attribute (.Name sn p1) name p2)) p4.line X.env=pure false) :
  PS X (.Assign [.Attribute (.Name sn p1) name p2] (.Name nn p3) p4) (λD σ H=>∃ a t v,σ[0]?=some (some (.ref a))/\σ[1]?=some (some v)/\H a=some (F0 C a t)/\∀ dx,H dx=none->D.nx σ (Ap (Ap H a (Ey C a t dx)) dx (.xd [(name,v)]))):=by
 intro pins s σ H D I ⟨a,t,v,q0,q1,ha,hD⟩
 refine plainObj_wpAny_Assign_Attribute (Al (Lf h1 v1 d1 c1 pins s σ H (λy H1=>y=v/\H1=H) I ⟨v,q1,rfl,rfl⟩) λu s1 ⟨y,H1,I1,ry,e1,e2⟩=>Al (Lf h0 v0 d0 c0 pins s1 σ H1 (λy H2=>y=.ref a/\H2=H1) I1 ⟨_,q0,rfl,rfl⟩) λov s2 ⟨x,H2,I2,rx,e3,e4⟩=>?_) hs
 subst e1 e2 e3 e4
 obtain rfl:ov=Value.ref a:=rx
 exact Ys Z T I2 ha ry λs3 dx hn I3=>⟨σ,_,I3,hD dx hn⟩
theorem okI (F:Av K "__init__" qual st f fd) (S:Ax [sn,nn] [sn,nn] (Ak st)) (Z:F7 K C f name) (T:Co K C) (hb:BR st=[.Assign [.Attribute (.Name sn p1) name p2] (.Name nn p3) p4]) (d0:(sn==("__debug__" : Str))=false) (d1:(nn==("__debug__" : Str))=false) (c0:(sn==("__classdict__" : Str))=false) (c1:(nn==("__classdict__" : Str))=false)
  (v0:C1 (Ak st) sn) (v1:C1 (Ak st) nn) (hs:∀ env,swapsWith (.Name nn p3) (some (.Attribute (.Name sn p1) name p2)) p4.line env=pure false):AC P w K mg base AO 1 f fd [sn,nn] (Go C name):=by
 refine F.ok (k:=0) S (λvs H Q E h=>?_) (λcdv A outer s H vs Q E hr h=>?_)
 ·obtain ⟨_,_,_,rfl,_⟩:=h; rfl
 ·obtain ⟨a,t,v,rfl,ha,hQ⟩:=h
  rw [hb]
  exact ⟨_,La (Uy Z T rfl rfl v0 v1 d0 d1 c0 c1 (hs _)) K9,a,t,v,rfl,rfl,ha,hQ⟩
theorem TZ {M:Model} {A:Around} {E:Value->Shared->Prop} {s:Shared} {env:Env} {x:Sem Value} {Q:Flow->Shared->Prop} {nm q:Str} {N:Addr} {bs bm:List Value} {sn:List Str} {sub:List Value} {ab:Bool} {col:Option Bool} {dd:Option Addr} {k0 k1 k2 k3 k5:Option Value} (hh:A.handled=none)
  (h:wpAny M A x (λv s₁=>∃ e t dx,v=.ref e/\s₁.heap.get? C=some (excClassObj nm q C N bs bm true sn sub ab col dd k0 k1 k2 k3 k5 "ValueError.__new__")/\OwnTail s₁.heap CO bm/\s₁.heap.get? e=some { DS C t with dict:=some dx }/\E (.ref e) s₁) E s) :
  wpAny M A (raiseStmt env (some x) none) Q E s:=by
 unfold raiseStmt
 refine wpAny_bind (wpAny_mono h (λv s1 h1=>?_) λ_ _ x=>x)
 obtain ⟨e,t,dx,rfl,hC,T,he,hE⟩:=h1
 have hcB:(Value.ref C::bm).contains (.type "BaseException")=true:=by rw [List.contains_cons,T.hasType F.excBase_ValueError.hasBase,Bool.or_true]
 obtain ⟨hp,g,d,tk,os⟩:=s1
 repeat (first | with_reducible refine wpAny_loadPart_at he ?_ | with_reducible refine wpAny_loadPart_at hC ?_ | (with_reducible refine wpAny_isSubtype_exc hC ?_; rw [hcB]) | wp_step)
 exact wpAny_raiseNew_none hh hE
end
end L2
namespace DL
open PySem PySem.Spec PyProof.Rows L2
structure IU (P:Program) (w:World) (K:PySem.W.Frag) (mg:Str->Option Value) (base:Heap) (C:Addr) (k:Nat) (x name:Str):Prop where
 ex:∃ f fd ps,AC P w K mg base AO k f fd ps (Go C name)/\F7 K C f name/\Binds K fd ps []
 ty:Co K C
 at_:mg x=some (.ref C)
section
variable {X:Cx} {mk:Prop} {ρ:Ai} {O:Ae} {e:Expr} {d:D} {RX:XC} {pos np cpos:Pos} {x name:Str} {P:A3} {C:Addr} {k:Nat}
theorem MR (M:IU X.prog X.w X.K X.mg X.base C k x name) (hr:AM (k+1) X.A) (ha:Bd X ρ O [e] [d]) (hR:RX C [(name,d)] ρ O) (hmk:mk) (hc:X.calm=true:=by rfl) (hex:X.ex=[]:=by rfl) (hg:Gl X x:=by rfl)
  (hdb:(x==("__debug__" : Str))=false:=by decide) (he:starEach [e] X.env=(false,eval e X.env)::starEach [] X.env:=by rfl) (hpl:(backTo cpos (starEach [] X.env)).any (·.1)=false:=by rfl) :
  F8 X mk ρ O (.Raise (some (.Call (.Name x np) [e] [] cpos)) none pos) P RX:=λG pins s σ H E I ⟨h1,h2,h3,h4⟩=>by
 obtain ⟨f,fd,ps,g1,g2,g3⟩:=M.ex
 obtain ⟨nm,q,N,bs,bm,sn,sub,ab,col,dd,k0,k1,k2,k3,k5,hC,hT⟩:=g2.cls
 rw [arm_exec_Raise]
 refine wpAny_bind (wpAny_standAt (TZ (C:=C) (nm:=nm) (q:=q) (N:=N) (bs:=bs) (bm:=bm) (sn:=sn) (sub:=sub) (ab:=ab) (col:=col) (dd:=dd) (k0:=k0) (k1:=k1) (k2:=k2) (k3:=k3) (k5:=k5) (I.ok.hd hc) (wpAny_bind (wpAny_mono (wpAny_Call_Name_kw (DQ I hg M.at_ ?_ hdb)) (λv s3 h3=>wpAny_bind (wpAny_standAt (wpAny_pure h3))) λ_ _ z=>z))))
 refine PySem.W.callWith_K (h₀:=X.base) I.ok.mod.kin g2.kp (Al (ha G cpos pins s σ H (λvs H'=>∃ G',Ah G G'/\SA X.K G' H' O/\Aj X.K G' [d] vs) I ⟨h1,h2,λvs G' H' e1 s1 i1=>⟨G',e1,s1,i1⟩⟩) λus s1 ⟨vs,H1,I1,r,G1,e1,sa,i1⟩=>⟨I1.kIn,?_⟩) he hpl
 obtain ⟨v,rfl,iv⟩:∃ v,vs=[v]/\Is X.K G1 d v:=by
  cases i1 with | cons i r'=>cases r' with | nil=>exact ⟨_,rfl,i⟩
 have ul:us.length=1:=r.length.symm
 have ha1:H1 (s1.heap.objs.size+1)=none:=I1.hok.fresh (Nat.le_succ _)
 have kp:∀ b o,s1.heap.get? b=some o->(DR s1.heap C us).get? b=some o:=λb o e=>Heap.get?_push_of_some _ (Heap.get?_push_of_some _ e)
 have hget:(DR s1.heap C us).get? (s1.heap.objs.size+1)=some (DS C s1.heap.objs.size):=by heap_get
 have s0n:X.s₀.heap.get? (s1.heap.objs.size+1)=none:=by
  cases z:X.s₀.heap.get? (s1.heap.objs.size+1) with
  | none=>rfl
  | some o=>exact absurd (Heap.lt_size z) (Nat.not_lt.mpr (Nat.le_succ_of_le I1.sz))
 have I2:L2.Inv X pins σ (Ap H1 (s1.heap.objs.size+1) (F0 C (s1.heap.objs.size+1) s1.heap.objs.size)) { s1 with heap:=DR s1.heap C us }:=
  (I1.kept (t':=s1.toks) kp).track (I1.fpOk (Nat.le_succ _) ha1) s0n ⟨hget,⟨_,hget⟩,λ_ _ e k=>k _ e⟩
 generalize hH2:Ap H1 (s1.heap.objs.size+1) (F0 C (s1.heap.objs.size+1) s1.heap.objs.size)=H2 at I2
 have hsp:Go C name [V.ref (s1.heap.objs.size+1),v] H2 (λu H'=>u=.non/\∃ dx,H2 dx=none/\H'=Ap (Ap H2 (s1.heap.objs.size+1) (Ey C (s1.heap.objs.size+1) s1.heap.objs.size dx)) dx (.xd [(name,v)])) (λ_ _ _=>False):=
  ⟨_,_,v,rfl,by rw [<- hH2]; exact AW,λdx hn=>⟨rfl,dx,hn,rfl⟩⟩
 have r2:Ar [V.ref (s1.heap.objs.size+1),v] (Value.ref (s1.heap.objs.size+1)::us):=.cons rfl r
 have hl:(Value.ref (s1.heap.objs.size+1)::us).length=ps.length:=by rw [<- r2.length]; exact g1.len _ _ _ _ hsp
 have hb:=g3 { s1 with heap:=_ } (Value.ref (s1.heap.objs.size+1)::us) I2.kIn (by rw [List.append_nil]; exact hl)
 rw [List.append_nil] at hb
 refine wpAny_call (Yr (f:=f) I1.kIn (I1.kIn _ _ hC) (hT _ I1.kIn) g2.init g2.fn (by rw [List.nil_append,ul,sizeLine_eq]; decide) (codeAny_mono (g1.run _ X.stack _ _ ⟨Value.ref (s1.heap.objs.size+1)::us,[]⟩ _ _ _ (λ_ _ _=>False) (hr.make C us []) (I2.env0.make C us []) hb r2 hsp) λr s' hq'=>?_))
 match r,hq' with
 | .error e,hq'=>exact hq'.elim
 | .ok (.ret u),hq'=>
  obtain ⟨v',H',I3,rv,ev,dx,hn,hH'⟩:=I2.after hq'
  subst ev
  refine ⟨rv,?_⟩
  have h2a:H2 (s1.heap.objs.size+1)=some (F0 C (s1.heap.objs.size+1) s1.heap.objs.size):=by rw [<- hH2]; exact AW
  have hne:s1.heap.objs.size+1≠dx:=BL h2a hn
  have h1d:H1 dx=none:=by rw [<- hH2,AB (Ne.symm hne)] at hn; exact hn
  have hcomm:H'=Ap (Ap H1 dx (.xd [(name,v)])) (s1.heap.objs.size+1) (Ey C (s1.heap.objs.size+1) s1.heap.objs.size dx):=by
   rw [hH',<- hH2,Ri]
   funext b
   unfold Ap
   by_cases hb:b=dx
   ·subst hb; rw [if_pos rfl,if_neg (Ne.symm hne),if_pos rfl]
   ·rw [if_neg hb,if_neg hb]
  have h3n:Ap H1 dx (.xd [(name,v)]) (s1.heap.objs.size+1)=none:=by rw [AB hne]; exact ha1
  obtain ⟨ho,_⟩:=I3.hok (s1.heap.objs.size+1) (Ey C (s1.heap.objs.size+1) s1.heap.objs.size dx) (by rw [hcomm]; exact AW)
  have I4:L2.Inv X pins σ (Ap H1 dx (.xd [(name,v)])) s':=(hcomm ▸ I3).forget h3n
  obtain ⟨e2,sa2⟩:=sa.laid (o:=.xd [(name,v)]) h1d
  exact ⟨_,_,dx,rfl,I3.kIn _ _ hC,hT _ I3.kIn,ho,(h4 C [(name,d)] (some dx) σ ρ O _ _ (e1.trans e2) sa2 (h2.ext (e1.trans e2)) (.inr ⟨dx,_,rfl,AW,.cons (iv.ext e2) .nil⟩) hR).2 hmk pins s' _ _ _ _ I4 h3n s0n ho rfl rfl rfl rfl rfl rfl⟩
end
end DL
namespace L2
open PySem PySem.Spec PyProof.Rows Builtin.ObjectAttr
section
variable {prog:Program} {w:World} {A:Around} {E:Value->Shared->Prop} {s:Shared} {K:PySem.W.Frag} {x C:Addr} {n:Str} {ox od:Obj} {u:Value}
theorem Yu (T:Co K C) (na:PySem.W.findIn K (.ref C) n=some none) (hl:PySem.W.lookIn n od=some (some u)):PySem.W.findObj K C (some od) n=some (.value u):=by
 obtain ⟨cd,hc,hd⟩:=PySem.W.any_some T.hd
 have ho:PySem.W.ownOf cd (some od) n=some (some u):=by unfold PySem.W.ownOf; rw [if_pos hd]; exact hl
 unfold PySem.W.findObj
 rw [hc,Option.bind_some,na,Option.bind_some]
 dsimp only
 rw [Option.bind_some,Option.bind_some,ho]
 rfl
theorem Yp {tk:Tok} {P:Value->Shared->Prop} (X:K.In s.heap) (I:PySem.W.InstAt s.heap x ox C (some od)) (hf:PySem.W.findObj K C (some od) n=some (.value u)) (h:P u s) :
  wpAny (model prog w) A (Builtin.«object.__getattribute__» ⟨[.ref x,.str n tk],[]⟩) (λfin s'=>match fin with | .done (.ret v)=>P v s' | _=>False) E s:=by
 have LT:=I.type (M:=model prog w)
 have LF:=PySem.W.looks_find (M:=model prog w) X I hf
 obtain ⟨hh,gg,d,t,os⟩:=s
 unfold Builtin.«object.__getattribute__» slotArgs
 refine wpAny_bind (wpAny_bind (wpAny_pure (wpAny_bind (wpAny_pure (wpAny_pure ?_)))))
 exact wpAny_bind (wpAny_pure (wpAny_bind (LT.at (wpAny_bind (LF.at (wpAny_pure h))))))
theorem Yt {b:Bool} {Q:Value->Shared->Prop} (T:Co K C) (X:K.In s.heap) (I:PySem.W.InstAt s.heap x ox C (some od)) (na:PySem.W.findIn K (.ref C) n=some none) (hl:PySem.W.lookIn n od=some (some u)) (hu:PySem.W.handedIn u=true) (h:Q u { s with toks:=s.toks+1 }) :
  wpAny (model prog w) A (getAttr (.ref x) n b) Q E s:=by
 have LT:=I.type (M:=model prog w)
 have LG:=PySem.W.looks_findIn (M:=model prog w) X T.ga
 have LH:=PySem.W.looks_findIn (M:=model prog w) X T.hk
 unfold getAttr getAttrBy
 refine wpAny_bind (wpAny_mkText (wpAny_holding (wpAny_bind (LT.at (wpAny_bind (LG.at ?_))))))
 show wpAny _ _ (getAttrByItsOwn _ _ _ _ _ _) _ _ _
 unfold getAttrByItsOwn
 refine wpAny_bind (LH.at (wpAny_bind (wpAny_attempt (wpAny_holding ?_))))
 have e0:∀ o nv,callGetattribute o nv (.builtin "BaseException.__getattribute__") b=boundAndCalled (.builtin "BaseException.__getattribute__") o nv:=λo nv=>by cases b <;> rfl
 rw [e0]
 unfold boundAndCalled
 rw [F.excAttr_ValueError.ga.bind]
 refine wpAny_bind (wpAny_pure (wpAny_call (codeAny_call_builtin F.excAttr_ValueError.ga.plain F.entry_bexc_ga (Px T X LT (wpAny_mono (Yp (s:={ s with toks:=s.toks+1 }) (P:=λv s'=>v=u/\s'={ s with toks:=s.toks+1 }) X I (Yu T na hl) ⟨rfl,rfl⟩) (λfin s' z=>?_) λ_ _ z=>z)))))
 rcases fin with (v | _ | _ | _) | _ <;> first | exact z.elim | skip
 obtain ⟨rfl,rfl⟩:=z
 exact PySem.W.handed_on hu h
end
end L2
namespace DL
open PySem PySem.Spec PyProof.Rows L2
section
variable {X:Cx} {ρ:Ai} {O:Ae} {e:Expr} {d:D} {pos:Pos} {f:Str} {C:Addr} {q:Nat} {fs:List (Str×D)}
theorem PL (he:Ad X ρ O e (.ptr q)) {hx':Option Addr} (hq:O[q]?=some (some (.exc C fs hx'))) (T:Co X.K C) (na:PySem.W.findIn X.K (.ref C) f=some none) (hl:fs.lookup f=some d) (hb:attributeBase e f X.env (eval e X.env)=eval e X.env:=by rfl) :
  Ad X ρ O (.Attribute e f pos) d:=λG pins s σ H Q I ⟨h1,h2,h3⟩=>by
 refine Qt hb (Al (he G pins s σ H (λv H'=>∃ G',Ah G G'/\SA X.K G' H' O/\Is X.K G' (.ptr q) v) I ⟨h1,h2,λv G' H' e1 s1 i1=>⟨G',e1,s1,i1⟩⟩) λu s1 ⟨y,H1,I1,ry,G1,e1,sa1,i1⟩=>?_)
 cases i1 with
 | ptr _ ha=>
  obtain ⟨a,g1,g2,ob,g3,⟨g4,ws,g5⟩,g6,_⟩:=sa1.mt q _ hq
  cases Option.some.inj (ha.symm.trans g1)
  obtain rfl:u=Value.ref _:=ry
  rcases g6 with z | ⟨dx,vs,k1,k2,k3⟩
  ·subst z; cases hl
  obtain ⟨v,l,iv⟩:=k3.look hl
  obtain ⟨ho,_⟩:=I1.hok _ _ g3
  obtain ⟨mA,n1,r1⟩:=I1.hok dx _ (sa1.sub _ _ k2)
  obtain ⟨od,hod,hlk⟩:=OW n1
  obtain ⟨u',hu,ru⟩:=Dq.some_of (v:=v) (o:=mA f) (by rw [<- l]; exact r1 f)
  have J:PySem.W.InstAt s1.heap _ ob C (some od):=⟨ho,g4,by obtain ⟨c0,d0,dt,sl⟩:=ob; subst g5; rfl,by rw [k1]; exact hod⟩
  exact Yt T I1.kIn J na (by rw [hlk,hu]) (Pk ru) ⟨v,H1,I1.tok _,ru,h3 v G1 H1 e1 sa1 iv⟩
theorem Rz {K:PySem.W.Frag} {h:Heap} {Cb:Addr} (X:K.In h) (q:PySem.W.excIn K Cb CO "ValueError.__new__" = true):OwnTail h CO (.ref Cb::CO):=by
 obtain ⟨tl,N,nm,q,bs,hdct,sn,sub,ab,col,dd,k0,k1,k2,k3,k5,mN,hC,hN,hni,T⟩:=(Pw X q).obj
 exact .own hC hN hni .base
end
abbrev Cl.good (sp:Cl):AE:=λds O R=>sp ds O R λ_ _ _=>False
section
variable {P:Program} {w:World} {K:PySem.W.Frag} {mg:Str->Option Value} {base:Heap} {C:Addr} {k:Nat} {x m:Str} {sp:Cl}
theorem Pr {f:Addr} {fd:FuncData} {ps:List Str} (F:AC P w K mg base (Cp P w) k f fd ps (C5 K sp)):AC P w K mg base AO k f fd ps (AR K sp.good):=by
 have tr:∀ {vs:List V} {H:Hp} {Q:VK} {E:XK},AR K sp.good vs H Q E->C5 K sp vs H Q (λ_ _ _=>False):=λ⟨G,O,ds,R,h1,h2,h3,h4⟩=>⟨G,O,ds,R,_,h1,h2,h3,h4,λ_ _ _ _ _ _ _ _ _ z=>z⟩
 refine ⟨λvs H Q E h=>F.len vs H Q _ (tr h),λA outer s H args us vs Q E hr h0 hb r h=>codeAny_mono (F.run A outer s H args us vs Q _ hr h0 hb r (tr h)) λr s' z=>?_⟩
 match r,z with
 | .error e,z=>obtain ⟨_,_,_,_,_,_,_,z⟩:=z; exact z.elim
 | .ok (.ret u),z=>exact z
theorem EM.ok (F:EM P w K mg base C k m sp):AI P w K mg base C k m sp.good:=let ⟨f,fd,ps,h1,h2⟩:=F.ex; ⟨⟨f,fd,ps,Pr h1,h2⟩,F.cls⟩
theorem F4.ok (F:F4 P w K mg base C k x sp):Cn P w K mg base C k x sp.good:=let ⟨f,fd,ps,h1,h2⟩:=F.ex; ⟨⟨f,fd,ps,Pr h1,h2⟩,F.at_⟩
end
end DL
namespace L2
open PySem PySem.Spec PyProof.Rows
theorem Vn {X:Cx}:BH X (binaryOp .Add) (λx y H Q=>∃ a b ys,x=.ref a/\y=.ref b/\A1 X.K H a []/\A1 X.K H b ys/\Q (.ref b) H):=by
 intro pins s σ H x y v u Q I rx ry ⟨a,b,ys,ex,ey,ha,hb,q⟩
 subst ex ey
 cases rx; cases ry
 obtain ⟨i1,r1,p1,_⟩:=I.tuple ha
 obtain ⟨i2,r2,p2,_⟩:=I.tuple hb
 cases r1
 obtain ⟨⟨c1,d1,t1,l1⟩,o1,rfl,n1,rfl⟩:=id p1
 obtain ⟨⟨c2,d2,t2,l2⟩,o2,rfl,n2,rfl⟩:=id p2
 exact concat_meets ⟨_,o1,rfl⟩ ⟨_,o2,rfl⟩ noFill_tuple_add seq_tuple_add PySem.F.slot_tuple_add PySem.F.entry_tuple_add (PySem.F.args_tuple_add_2 _ _) (tuple_addW0 a b _ i2.toArray n1 n2 d1 d2 l1 l2 rfl) ⟨o1,o2,⟨.ref b,H,I,rfl,q⟩⟩
end L2
namespace DL
open PySem PySem.Spec PyProof.Rows L2
section
variable {X:Cx} {O:Ae}
theorem WQ {ys:List D}:AY X O (binaryOp .Add) (.tup []) (.tup ys) (.tup ys):=.of Vn λG v u H Q s h1 h2 k=>by
 obtain ⟨q1,vs,rfl,g1,r1⟩:=Dt s h1
 have j2:=h2
 obtain ⟨q2,us,rfl,g2,r2⟩:=Dt s h2
 cases r1
 exact ⟨_,_,_,rfl,rfl,g1,g2,k _ G H (Ah.refl _) s j2⟩
theorem GD {xs ys:List D} (hz:xs.length+ys.length<=sizeLine):AY X O (binaryOp .Add) (.tup xs) (.tup ys) (.tup (xs++ys)):=by
 cases xs with
 | nil=>exact WQ
 | cons x r=>exact WR (by simp) hz
end
section
variable {X:Cx} {mk:Prop} {ρ:Ai} {O:Ae} {P:A3} {RX:XC} {pos:Pos}
end
section
variable {X:Cx} {O:Ae} {da db ea eb:D} {k:Nat} {v:Value}
end
section
variable {X:Cx} {ρ:Ai} {O:Ae} {value o ix:Expr} {P:A3} {pos tpos:Pos} {q j:Nat} {i:Int} {xs:List D}
end
end DL
namespace L2
open PySem PySem.Spec PyProof.Rows
def Hd (n:Int):Str:=if n=1 then "0" else ⟨(List.replicate n.toNat (("0" : Str).cps)).foldl (·++·) #[]⟩
end L2
namespace DL
open PySem PySem.Spec PyProof.Rows L2
theorem Mj:∀ {bs:List Bool} {us:List Value},Ar (bs.map V.bl) us->us=bs.map Value.bool
 | [],_,.nil=>rfl
 | b::bs,_,.cons r t=>by cases r; rw [Mj t]; rfl
theorem K8 {h:Heap}:∀ bs:List Bool,ReadsAll h (bs.map Value.bool) (bs.map PyData.bool) []
 | []=>.nil
 | b::bs=>ReadsAll.cons (as:=[]) (.bool b) (K8 bs)
theorem Qb (k:Bool):∀ bs:List Bool,countIn (.bool k) (bs.map PyData.bool)=((bs.count k:Nat):Int)
 | []=>rfl
 | b::bs=>by
  rw [List.map_cons,countIn,Qb k bs,List.count_cons]
  cases b <;> cases k <;> simp [same] <;> omega
section
variable {X:Cx} {ρ:Ai} {O:Ae} {a e:Expr} {d:D}
def Ub (K:PySem.W.Frag):V->List V->Hp->VK->Prop:=λx vs H Q=>∃ (p:Addr) (bs:List Bool) (k:Bool),x=.ref p/\vs=[.bl k]/\A0 K H p (bs.map V.bl)/\Q (.int ((bs.count k:Nat):Int)) H
theorem Xb:IS X "list.count" (Ub X.K):=by
 intro pins s σ H x vs v us Q I rx rv h
 obtain ⟨p,bs,k,rfl,rfl,hq,q⟩:=h
 cases rx
 obtain ⟨u,rfl,ru⟩:=rv.one
 cases ru
 obtain ⟨its,r,pl,hz⟩:=I.list hq
 have e:=Mj r
 subst e
 refine count_list_bools pl.isList (K8 (h:=s.heap) bs) ?_ ?_
 ·rw [List.all_map]; exact List.all_eq_true.mpr λ_ _=>rfl
 ·rw [Qb]
  exact ⟨.int _,H,I.tok _,⟨_,rfl⟩,q⟩
theorem PM {k:Bool} {bs:List Bool} {apos cpos:Pos} (ho:Ad X ρ O a d) (hl:LV O d (bs.map D.bl)) (he:Ad X ρ O e (.bl k))
  (hbase:attributeBase a ("count" : Str) X.env (eval a X.env)=eval a X.env:=by rfl) (hline:(apos.endLine==cpos.line)=true:=by rfl) (hst:starEach [e] X.env=[(false,eval e X.env)]:=by rfl) :
  Ad X ρ O (.Call (.Attribute a ("count" : Str) apos) [e] [] cpos) (.int ((bs.count k:Nat):Int)):=λG=>
 PE.imp (HK PySem.F.plainAttrs_list PySem.F.slot_list_count PySem.F.type_list_count Xb (ho G)
  (Cq (te:=λσ H Q=>∃ G1,SA X.K G1 H O/\Au X.K G1 σ ρ/\∀ v G' H',Ah G1 G'->SA X.K G' H' O->Is X.K G' (.bl k) v->Q v H') (λpins s σ H Q I ⟨G1,q⟩=>he G1 pins s σ H Q I q) DN hst) hbase
  (by rw [hst]; rfl) hline hst (by rfl)) λσ H Q ⟨q1,q2,q3⟩=>⟨q1,q2,λv G1 H1 e1 s1 i1=>by
   obtain ⟨p,vs,rfl,g1,g2⟩:=hl.sq s1 i1
   have:=Aj.toBls g2
   subst this
   refine ⟨.inl ⟨rfl,_,g1⟩,G1,s1,q2.ext e1,λw G2 H2 e2 s2 i2=>?_⟩
   cases i2
   obtain ⟨p2,vs2,h2,g3,g4⟩:=hl.sq s2 (i1.ext e2)
   cases h2
   have:=Aj.toBls g4
   subst this
   exact ⟨p,bs,k,rfl,rfl,g3,q3 _ G2 H2 (e1.trans e2) s2 (.int _)⟩⟩
end
section
variable {X:Cx} {ρ:Ai} {O:Ae} {elt tg iter:Expr} {ifs:List Expr} {scope:Scope} {pos:Pos} {xs:List D} {zs:List (Option D)}
theorem Zp (N:List Str) (js:List Nat) (ρ0:Ai) (hi:BX X ρ O tg iter xs) (hc:X.calm=true) (hk:scope.kind=.function) (hfr:F6 X scope) (hnm:∀ x∈scope.names,x.2=.local->scope.names.lookup x.1=some .local)
  (hl0:ρ0.length=N.length)
  (h0:∀ (i:Nat) (d:D),ρ0[i]?=some (some d)->∃ (x:Str) (j:Nat),N[i]?=some x/\scope.names.lookup x=some .free/\(∀ y∈scope.names,y.1=x->y.2≠.cell)/\X.N[j]?=some x/\ρ[j]?=some (some d)/\C1 X.env.scope x)
  (hzl:zs.length=xs.length) (hsz:xs.length<=sizeLine)
  (turn:∀ (s:Shared) (H:Hp) (fp:List Addr) (i:Nat) (x:D) (z:Option D),xs[i]?=some x->zs[i]?=some z->∃ ρ1,Tg (CK X N scope s H fp) tg x ρ0 ρ1/\ρ1.length=ρ0.length/\(∀ (j:Nat) (d:D),ρ0[j]?=some (some d)->ρ1[j]?=some (some d))/\GY (CK X N scope s H fp) ρ1 O elt ifs z)
  {use:Option (Value->Sem Unit)} {pins:List (Addr×Obj)} {s:Shared} {σ:L2.St} {H:Hp} {G:Wd} {Q:Value->Shared->Prop} (I:L2.Inv X pins σ H s) (sa:SA X.K G H O) (en:Au X.K G σ ρ)
  (fin:∀ (D C:Addr) (s':Shared) (H5:Hp) (G5:Wd) (vs:List V),L2.Inv X pins σ (Ap H5 D (.lst vs)) s'->Ah G G5->SA X.K G5 H5 O->H5 D=none->Aj X.K G5 (zs.filterMap id) vs->BS X pins (Ap H5 D (.lst vs)) C->(∃ m,s'.heap.Ns C m)->compPost (model X.prog X.w) X.A X.xe use Q (.ref D) C (.ok .next) s')
  (hs:∀ x,foldedSetIterable iter X.env x=pure x:=by intro _; rfl) :
  wpAny (model X.prog X.w) X.A (comprehension (.ListComp elt [⟨tg,iter,ifs,0⟩] scope pos) scope X.env (firstIterPos [⟨tg,iter,ifs,0⟩] pos) (newList []) false (eval iter X.env) use) Q X.xe s:=by
 refine L8 (λ_=>O) rfl N js ρ0 hi hc hk hfr hnm hl0 h0 hzl hsz (λs H fp i x z q1 q2=>?_) I sa en fin hs
 obtain ⟨ρ1,t1,t2,t3,t4⟩:=turn s H fp i x z q1 q2
 exact ⟨ρ1,t1,t2,t3,t4.s⟩
theorem Q1 {x:Str} {p spos:Pos} {P:A3} (k:Nat) (T F:List Str) (js:List Nat) (hi:BX X ρ O tg iter xs) (hzl:zs.length=xs.length) (hsz:xs.length<=sizeLine) (turn:∀ (i:Nat) (x:D) (z:Option D),xs[i]?=some x->zs[i]?=some z->Gb X T F js ρ O scope tg elt ifs x z)
  (h:P.nx (ρ.set k (some (.ptr O.length))) (O++[some (.lst (zs.filterMap id))])) (hN:X.N.Nodup) (hx:X.N[k]?=some x) (hlc:Er X.env.scope x) (hf:X.fn x=true\/X.env.scope.names.lookup x=some .local)
  (hfl:F.length=js.length) (hB:CQ X.N X.env.scope.names scope.names F js=true) (hc:X.calm=true) (hk:scope.kind=.function) (hs:∀ x,foldedSetIterable iter X.env x=pure x)
  (hsw:swapsWith (.ListComp elt [⟨tg,iter,ifs,0⟩] scope pos) (some (.Name x p)) spos.line X.env=pure true):Ex X ρ O (.Assign [.Name x p] (.ListComp elt [⟨tg,iter,ifs,0⟩] scope pos) spos) P:=λG pins s σ H E I ⟨h1,h2,h3⟩=>by
 rw [PySem.exec_Assign_Name_used _ _ _ _ hsw]
 refine wpAny_bind (wpAny_standAt (wpAny_bind ?_))
 show wpAny _ _ (do let _ <- comprehension (.ListComp elt [⟨tg,iter,ifs,0⟩] scope pos) scope X.env _ (newList []) false (eval iter X.env) (some (assign (.Name x p) X.env))) _ _ s
 refine wpAny_bind (Al (Zp (use:=some (assign (.Name x p) X.env)) (Q:=λ_ s'=>SP X pins E .next s') (T++F) js (T.map (λ_=>(none:Option D))++Ci ρ js) hi hc hk (LX hB) (LW hB) (by simp [Ci,hfl]) (LY hB) hzl hsz (λs H fp i x z q1 q2=>?_) I h1 h2 (λdd C s' H5 G5 vs I' e' sa5 hd5 is5 fo ns=>?_) hs) λ_ s' hq=>wpAny_pure (wpAny_pure hq))
 ·obtain ⟨ts,t1,t2,t3⟩:=turn i x z q1 q2 s H fp
  obtain ⟨u1,u2⟩:=Jk (fr:=Ci ρ js) t1
  exact ⟨_,t2,u1,u2,t3⟩
 ·obtain ⟨m,hn⟩:=ns
  obtain ⟨f0,f1,f2,f3,f4,f5⟩:=fo
  refine wpAny_assign_Name (Nm I' hN hx hlc (v:=.ref dd) rfl (λs2 I2 ⟨a,sb,ha⟩=>?_) hf)
  have hCa:C≠a:=by
   rcases ha with q | q
   ·rw [q]; exact f1
   ·exact Ne.symm (f4 _ _ q)
  refine ⟨m,hn.sameBut sb hCa,λh' hs'=>?_⟩
  have eG:Ah G5 ⟨G5.g,G5.l++[dd]⟩:=⟨Bm.refl _,[dd],rfl⟩
  obtain ⟨e2,s2'⟩:=sa5.new (o:=.lst vs) (m:=.lst (zs.filterMap id)) hd5 ⟨vs,AW,is5.ext eG⟩
  have ip:Is X.K ⟨G5.g,G5.l++[dd]⟩ (.ptr O.length) (.ref dd):=.ptr _ (by rw [<- sa5.len,List.getElem?_append_right (Nat.le_refl _),Nat.sub_self]; rfl)
  exact ⟨_,_,I2.turned (t':=s2.toks) (λb o hb e=>(hs'.2 b hb).trans e) f0 f1 f3 f4 f5,h3.nx _ _ _ _ _ (e'.trans e2) s2' ((h2.ext (e'.trans e2)).set k ip) h⟩
end
section
variable {X:Cx} {ρ:Ai} {O:Ae} {P:A3} {pos:Pos}
variable {α:Type} {ps:List α} {f g:α->D} {h:α->Option D} {tg iter elt:Expr} {ifs:List Expr} {scope:Scope}
theorem Q0 {x:Str} {p spos:Pos} (k:Nat) (h:α->Option D) (T F:List Str) (js:List Nat) (hi:BX X ρ O tg iter (ps.map f)) (hsz:ps.length<=sizeLine) (turn:∀ q,q∈ps->Gb X T F js ρ O scope tg elt ifs (f q) (h q))
  (hP:P.nx (ρ.set k (some (.ptr O.length))) (O++[some (.lst (ps.filterMap h))])) (hN:X.N.Nodup) (hx:X.N[k]?=some x:=by rfl) (hlc:Er X.env.scope x:=by first | exact Or.inl rfl | exact Or.inr rfl) (hf:X.fn x=true\/X.env.scope.names.lookup x=some .local:=by first | exact .inl rfl | exact .inr rfl | assumption)
  (hfl:F.length=js.length:=by rfl) (hB:CQ X.N X.env.scope.names scope.names F js=true:=by rfl) (hc:X.calm=true:=by rfl) (hk:scope.kind=.function:=by rfl) (hs:∀ x,foldedSetIterable iter X.env x=pure x:=by intro _; rfl)
  (hsw:swapsWith (.ListComp elt [⟨tg,iter,ifs,0⟩] scope pos) (some (.Name x p)) spos.line X.env=pure true:=by rfl):Ex X ρ O (.Assign [.Name x p] (.ListComp elt [⟨tg,iter,ifs,0⟩] scope pos) spos) P:=by
 rw [<- Im] at hP
 refine Q1 k T F js hi (by rw [List.length_map,List.length_map]) (by rw [List.length_map]; exact hsz) (λi x z h1 h2=>?_) hP hN hx hlc hf hfl hB hc hk hs hsw
 rw [List.getElem?_map] at h1 h2
 cases e:ps[i]? with
 | none=>rw [e] at h1; cases h1
 | some q=>rw [e] at h1 h2; cases h1; cases h2; exact turn q (List.mem_of_getElem? e)
theorem QZ {x:Str} {p spos:Pos} (k:Nat) (g:α->D) (T F:List Str) (js:List Nat) (hi:BX X ρ O tg iter (ps.map f)) (hsz:ps.length<=sizeLine) (turn:∀ q,q∈ps->Gb X T F js ρ O scope tg elt ifs (f q) (some (g q)))
  (hP:P.nx (ρ.set k (some (.ptr O.length))) (O++[some (.lst (ps.map g))])) (hN:X.N.Nodup) (hx:X.N[k]?=some x:=by rfl) (hlc:Er X.env.scope x:=by first | exact Or.inl rfl | exact Or.inr rfl) (hf:X.fn x=true\/X.env.scope.names.lookup x=some .local:=by first | exact .inl rfl | exact .inr rfl | assumption)
  (hfl:F.length=js.length:=by rfl) (hB:CQ X.N X.env.scope.names scope.names F js=true:=by rfl) (hc:X.calm=true:=by rfl) (hk:scope.kind=.function:=by rfl) (hs:∀ x,foldedSetIterable iter X.env x=pure x:=by intro _; rfl)
  (hsw:swapsWith (.ListComp elt [⟨tg,iter,ifs,0⟩] scope pos) (some (.Name x p)) spos.line X.env=pure true:=by rfl):Ex X ρ O (.Assign [.Name x p] (.ListComp elt [⟨tg,iter,ifs,0⟩] scope pos) spos) P:=by
 rw [<- Pt,Im] at hP
 exact Q0 k (λq=>some (g q)) T F js hi hsz turn hP hN hx hlc hf hfl hB hc hk hs hsw
end
section
variable {P:Program} {w:World} {K:PySem.W.Frag} {mg:Str->Option Value} {base:Heap}
end
section
variable {prog:Program} {w:World} {A:Around} {E:Value->Shared->Prop} {s:Shared}
end
section
variable {X:Cx} {O:Ae}
end
section
variable {X:Cx} {mk:Prop} {ρ:Ai} {O:Ae} {value o:Expr} {RX:XC} {pos pos':Pos} {f:Str} {P:A3} {C:Addr} {q:Nat} {fs:List (Str×D)}
end
end DL
namespace DL
open PySem PySem.Spec PyProof.Rows L2 PySem.SeqAt PySem.MeetsSeq
section
variable {X:Cx} {ρ:Ai} {O:Ae} {a e:Expr} {d:D}
theorem XQ {α:Type} [BEq α] [LawfulBEq α] {xs:List α} {k:α} (h:k∈xs):∃ hl:xs.idxOf k<xs.length,xs[xs.idxOf k]=k/\∀ m (hm:m<xs.length),m<xs.idxOf k->(xs[m]==k)=false:=by
 have hl:=List.idxOf_lt_length_iff.mpr h
 refine ⟨hl,List.getElem_idxOf hl,λm hm hlt=>?_⟩
 have:=List.not_of_lt_findIdx (p:=λx=>x==k) (xs:=xs) (show m<xs.findIdx (λx=>x==k) from hlt)
 simpa using this
def T9 (K:PySem.W.Frag):V->List V->Hp->VK->Prop:=λx vs H Q=>∃ (p:Addr) (bs:List Bool) (k:Bool),x=.ref p/\vs=[.bl k]/\A0 K H p (bs.map V.bl)/\k∈bs/\Q (.int ((bs.idxOf k:Nat):Int)) H
theorem Xa:IS X "list.index" (T9 X.K):=by
 intro pins s σ H x vs v us Q I rx rv h
 obtain ⟨p,bs,k,rfl,rfl,hq,hk,q⟩:=h
 cases rx
 obtain ⟨u,rfl,ru⟩:=rv.one
 cases ru
 obtain ⟨its,r,pl,hz⟩:=I.list hq
 have e:=Mj r
 subst e
 have hn:=sizeLine_eq
 rw [List.length_map] at hz
 obtain ⟨⟨cls,dd,data,sl⟩,ho,hc,n,hd⟩:=pl.isList
 simp only at hc hd
 subst hc hd
 obtain ⟨h1,h2,h3⟩:=XQ hk
 have ha:(bs.map PyData.bool).all Shape.bool.has=true:=by rw [List.all_map]; exact List.all_eq_true.mpr λ_ _=>rfl
 refine call_meets PySem.F.slot_list_index ⟨_,ho,rfl⟩ PySem.F.entry_list_index (PySem.F.args_list_index_2 _ _)
  (list_indexAt p (bs.map Value.bool).toArray n dd sl (.bool k) (isBoolOf k) (bs.idxOf k) (by simpa using h1) wF ?_ ?_) ⟨ho,λy hy=>eq_isBoolOf k (K8 (h:=s.heap) bs) ha y (by simpa using hy) _ _,⟨.int _,H,I.tok _,⟨_,rfl⟩,q⟩⟩
 ·show isBoolOf k ((bs.map Value.bool)[bs.idxOf k]'(by rw [List.length_map]; exact h1))=true
  rw [List.getElem_map,h2]
  simp [isBoolOf]
 ·intro j hjs hlt
  show isBoolOf k ((bs.map Value.bool)[j]'(by simpa using hjs))=false
  rw [List.getElem_map]
  exact h3 j _ hlt
theorem PJ {k:Bool} {bs:List Bool} {apos cpos:Pos} (ho:Ad X ρ O a d) (hl:LV O d (bs.map D.bl)) (he:Ad X ρ O e (.bl k)) (hk:k∈bs)
  (hbase:attributeBase a ("index" : Str) X.env (eval a X.env)=eval a X.env:=by rfl) (hline:(apos.endLine==cpos.line)=true:=by rfl) (hst:starEach [e] X.env=[(false,eval e X.env)]:=by rfl) :
  Ad X ρ O (.Call (.Attribute a ("index" : Str) apos) [e] [] cpos) (.int ((bs.idxOf k:Nat):Int)):=λG=>
 PE.imp (HK PySem.F.plainAttrs_list PySem.F.slot_list_index PySem.F.type_list_index Xa (ho G)
  (Cq (te:=λσ H Q=>∃ G1,SA X.K G1 H O/\Au X.K G1 σ ρ/\∀ v G' H',Ah G1 G'->SA X.K G' H' O->Is X.K G' (.bl k) v->Q v H') (λpins s σ H Q I ⟨G1,q⟩=>he G1 pins s σ H Q I q) DN hst) hbase
  (by rw [hst]; rfl) hline hst (by rfl)) λσ H Q ⟨q1,q2,q3⟩=>⟨q1,q2,λv G1 H1 e1 s1 i1=>by
   obtain ⟨p,vs,rfl,g1,g2⟩:=hl.sq s1 i1
   have:=Aj.toBls g2
   subst this
   refine ⟨.inl ⟨rfl,_,g1⟩,G1,s1,q2.ext e1,λw G2 H2 e2 s2 i2=>?_⟩
   cases i2
   obtain ⟨p2,vs2,h2,g3,g4⟩:=hl.sq s2 (i1.ext e2)
   cases h2
   have:=Aj.toBls g4
   subst this
   exact ⟨p,bs,k,rfl,rfl,g3,hk,q3 _ G2 H2 (e1.trans e2) s2 (.int _)⟩⟩
end
end DL
namespace DL
open PySem PySem.Spec PyProof.Rows L2 PySem.W
section
variable {prog:Program} {w:World} {A:Around} {s:Shared} {E:Value->Shared->Prop} {it:Addr} {Ty:String}
end
section
variable {prog:Program} {w:World} {A:Around} {s:Shared} {E:Value->Shared->Prop} {it l:Addr} {i:Int}
end
section
variable {X:Cx} {ρ:Ai} {O:Ae} {a:Expr} {pos p pos2 p2:Pos} {xs:List D}
end
end DL
namespace L2
open PySem PySem.Spec PyProof.Rows
section
variable {X:Cx} {tg a b c:Expr} {p pos:Pos}
end
end L2
namespace DL
open PySem PySem.Spec PyProof.Rows L2
section
variable {X:Cx} {ρ:Ai} {O:Ae} {a b c:Expr} {p pos:Pos} {P:A3} {st:Stmt} {rest:List Stmt}
end
section
variable {X:Cx} {ρ:Ai} {O:Ae} {a b e:Expr} {pos:Pos} {P:A3} {d da db ea eb:D} {k:Nat} {xs:List D}
end
section
variable {X:Cx} {ρ:Ai} {O:Ae} {a b e:Expr} {pos p:Pos} {d:D} {x y:Str}
theorem Zy:AY X O (compareOp .Eq) (.str x) (.str y) (.bl (x==y)):=.of OC λG v u H Q s h1 h2 k=>by
 cases h1; cases h2; exact ⟨rfl,by rw [IE]; exact k _ G H (Ah.refl _) s (.bl _)⟩
theorem Zv:AY X O (compareOp .NotEq) (.str x) (.str y) (.bl (!(x==y))):=.of OB λG v u H Q s h1 h2 k=>by
 cases h1; cases h2; exact ⟨rfl,by rw [IE]; exact k _ G H (Ah.refl _) s (.bl _)⟩
end
section
variable {X:Cx} {ρ:Ai} {O:Ae} {a b e:Expr} {pos p:Pos} {d:D} {x y sep:Str}
end
section
variable {X:Cx} {ρ:Ai} {O:Ae} {pos:Pos} {x y:Str}
end
end DL
namespace L2
open PySem PySem.Spec PyProof.Rows
structure F2 (k:Nat) (A:Around):Prop where
 dp:A.depth+3*k+5<recursionLimit
 un:A.units+16*k+200<cLine
theorem F2.in {k:Nat} {A:Around} (r:F2 (k+1) A) (env:Env):F2 k (A.deeper env):=
 ⟨by have:=r.dp; show A.depth+1+3*k+5<_; omega,by have:=r.un; show A.units+3+16*k+200<_; omega⟩
abbrev cxH (P:Program) (w:World) (K:PySem.W.Frag) (mg:Str->Option Value) (base:Heap) (N:List Str) (qual:Str) (scope:Scope) (f:Addr) (cd:Value) (A:Around) (outer:List Env) (s:Shared) (H:Hp):Cx:=
 (CZ AO P w K mg base N qual scope f cd { A with handled:=none } outer s H λ_ _ _=>False).as (A.deeper (envOfC qual scope s.heap.objs.size f cd)) false [] λ_ _=>False
structure FnH (P:Program) (w:World) (K:PySem.W.Frag) (mg:Str->Option Value) (base:Heap) (k:Nat) (f:Addr) (fd:FuncData) (ps:List Str) (sp:Sp):Prop where
 len:∀ vs H Q E,sp vs H Q E->vs.length=ps.length
 run:∀ (A:Around) (outer:List Env) (s:Shared) (H:Hp) (args:Args) (us:List Value) (vs:List V) (Q:VK) (E:XK),F2 k A->Et P w K mg base A outer s H->BindsTo s fd args (ps.zip us)->Ar vs us->sp vs H Q E->
  codeAny (model P w) A (.call (.ref f) args) (CR AO outer P w H s Q E) s
theorem Yj {P:Program} {w:World} {K:PySem.W.Frag} {mg:Str->Option Value} {base:Heap} {x qual:Str} {st:Stmt} {f:Addr} {fd:FuncData} {N ps:List Str} {k:Nat} {sp:Sp} (F:Av K x qual st f fd) (S:Ax N ps (Ak st)) (len:∀ vs H Q E,sp vs H Q E->vs.length=ps.length)
  (hbody:∀ (cdv:Value) (A:Around) (outer:List Env) (s:Shared) (H:Hp) (vs:List V) (Q:VK) (E:XK),F2 k (A.deeper (envOfC qual (Ak st) s.heap.objs.size f cdv))->sp vs H Q E->
   ∃ t,PSs (cxH P w K mg base N qual (Ak st) f cdv A outer s H) (BR st) t/\t { nx:=λ_ H'=>Q .non H',rt:=Q } (start N vs) H):FnH P w K mg base (k+1) f fd ps sp:=by
 obtain ⟨oc,od,kV,doc,pm,an,cdv,ct,osl,rfl,lk,hcd⟩:=F.ex
 refine ⟨len,λA outer s H args us vs Q E hr e0 hb r hsp=>?_⟩
 have hl:=len _ _ _ _ hsp
 have keep:∀ b o,base.get? b=some o->s.heap.get? b=some o:=λb o e=>(e0.bs b o e).1
 have hin:K.In s.heap:=e0.mod.kin.keeps keep
 refine codeAny_call_function (by have:=hr.dp; omega) (hin _ _ lk) rfl S.co S.gen rfl (PySem.W.codeRec_of hin hcd) (hb _ _ _ _ ?_)
 refine wpAny_newFunctionEnv_cells S.kind (λy hy=>(S.par y.1 (List.of_mem_zip hy).1).imp id λq=>⟨q,PySem.W.cellsFrom_some _ _ _ (.inl q)⟩) λenv he s1 x=>?_
 subst he
 refine ⟨(e0.mod.nolimit.keeps keep).keeps x.toInCall.keep,codeAny_func ?_⟩
 obtain ⟨t,ht,hq⟩:=hbody cdv A outer s H vs Q E (hr.in _) hsp
 have e1:Et P w K mg base { A with handled:=none } outer s H:=⟨e0.frames,e0.mod,e0.bs,e0.bsz,e0.funs,e0.frf,e0.hok,e0.bare⟩
 have I0:=Pj (CX:=AO) (E:=λ_ _ _=>False) S rfl e1 hl r x
 have I:=I0.as (A:=A.deeper (envOfC qual (Ak st) s.heap.objs.size f cdv)) (calm:=false) (pn:=[]) (pins':=[]) (E:=λ_ _=>False) (λz=>by cases z) (Around.frames_deeper e0.frames) λp q=>q
 refine wpAny_mono (ht [] s1 (start N vs) H _ I hq) (λfl s' hs=>?_) λ_ _ z=>z.elim
 cases fl with
 | ret u=>obtain ⟨v,σ',H',J,rv,q⟩:=hs; exact ⟨v,H',J.os,J.bare,J.base,J.hok,rv,q⟩
 | next=>obtain ⟨σ',H',J,q⟩:=hs; exact ⟨.non,H',J.os,J.bare,J.base,J.hok,rfl,q⟩
 | brk=>obtain ⟨_,_,_,q⟩:=hs; exact q.elim
 | cont=>obtain ⟨_,_,_,q⟩:=hs; exact q.elim
section
variable {prog:Program} {w:World} {A:Around} {E:Value->Shared->Prop}
end
end L2
namespace DL
open PySem PySem.Spec PyProof.Rows L2
structure Fx (P:Program) (w:World) (K:PySem.W.Frag) (mg:Str->Option Value) (base:Heap) (k:Nat) (x:Str) (sp:AE):Prop where
 ex:∃ f fd ps,FnH P w K mg base k f fd ps (AR K sp)/\mg x=some (.ref f)/\PySem.W.keepIn K (.ref f)=true/\Binds K fd ps []
theorem okH {P:Program} {w:World} {K:PySem.W.Frag} {mg:Str->Option Value} {base:Heap} {x qual:Str} {st:Stmt} {f:Addr} {fd:FuncData} {N ps:List Str} {k:Nat} {sp:AE} (F:Av K x qual st f fd) (S:Ax N ps (Ak st)) (hm:mg x=some (.ref f)) (hb:Binds K fd ps [])
  (len:∀ ds O R,sp ds O R->ds.length=ps.length)
  (hbody:∀ (cdv:Value) (A:Around) (outer:List Env) (s:Shared) (H:Hp) (ds:List D) (O:Ae) (R:D->Ae->Prop),F2 k (A.deeper (envOfC qual (Ak st) s.heap.objs.size f cdv))->sp ds O R->
   Exs (cxH P w K mg base N qual (Ak st) f cdv A outer s H) (EC N ds) O (BR st) { nx:=λ_ O'=>R .non O',rt:=R }):Fx P w K mg base (k+1) x sp:=by
 refine ⟨f,fd,ps,Yj F S (λvs H Q E h=>?_) (λcdv A outer s H vs Q E hr h=>?_),hm,F.kp,hb⟩
 ·obtain ⟨G,O,ds,R,h1,h2,h3,h4⟩:=h
  rw [<- h2.length]
  exact len _ _ _ h3
 ·obtain ⟨G,O,ds,R,h1,h2,h3,h4⟩:=h
  exact ⟨_,hbody cdv A outer s H ds O R hr h3 G,h1,Hl h2,⟨λσ ρ O' G' H' e1 s1 n1 q=>h4 _ _ O' G' H' e1 s1 .non q,λv d O' G' H' e1 s1 i1 q=>h4 v d O' G' H' e1 s1 i1 q,λσ ρ O' G' H' e1 s1 n1 q=>q.elim,λσ ρ O' G' H' e1 s1 n1 q=>q.elim⟩⟩
section
variable {X:Cx} {ρ ρ1:Ai} {O:Ae} {e a b:Expr} {es:List Expr} {d da:D} {ds xs:List D} {R:D->Ae->Prop} {P:A3} {pos p:Pos} {x:Str} {q:Nat} {v:Value}
theorem L6 {k:Nat} {sp:AE} (F:Fx X.prog X.w X.K X.mg X.base k x sp) (hr:AM k X.A) (ha:Bd (X.held v) ρ O (e::es) ds) (hs:sp ds O R) (hg:Gl X x:=by rfl) (hdb:(x==("__debug__" : Str))=false:=by decide)
  (he:starEach (e::es) X.env=(false,eval e X.env)::starEach es X.env:=by rfl) (hpl:(backTo pos (starEach es X.env)).any (·.1)=false:=by rfl):Ev (X.held v) ρ O (.Call (.Name x p) (e::es) [] pos) R:=λG pins s σ H Q I h=>by
 obtain ⟨f,fd,ps,h1,h2,h3,h4⟩:=F.ex
 refine wpAny_Call_Name_kw (DQ I hg h2 ?_ hdb)
 obtain ⟨q1,q2,q3⟩:=h
 refine PySem.W.callWith_K (h₀:=X.base) I.ok.mod.kin h3 (Al (ha.as hs G pos pins s σ H (λvs H1=>AR X.K sp vs H1 Q E0) I ⟨q1,q2,λvs ds' O1 G1 H1 e1 s1 i1 r1=>⟨G1,O1,ds',R,s1,i1,r1,λv d O' G' H' e2 s2 i2 r2=>q3 v d O' G' H' (e1.trans e2) s2 i2 r2⟩⟩) λus s1 ⟨vs,H1,I1,r,q⟩=>⟨I1.kIn,?_⟩) he hpl
 have hl:us.length=ps.length:=by rw [<- r.length]; exact h1.len _ _ _ _ q
 have hb:=h4 s1 us I1.kIn (by rw [List.append_nil]; exact hl)
 rw [List.append_nil] at hb
 refine wpAny_call (codeAny_mono (h1.run (X.held v).A X.stack s1 H1 ⟨us,[]⟩ us vs Q E0 ⟨hr.dp,hr.un⟩ I1.env0 hb r q) λfl s' z=>?_)
 cases fl with
 | error e=>exact z.elim
 | ok fl=>
  cases fl with
  | ret u=>exact I1.after z
  | next=>exact z.elim
  | brk=>exact z.elim
  | cont=>exact z.elim
theorem YT {RT:Bool->Ae->Prop} (ha:AH X ρ O a false) (hb:Fw X ρ O b RT):Fw X ρ O (.BoolOp .Or [a,b] pos) RT:=λG=>by
 refine L2.PW.pt ?_
 intro wh pins s σ H Q I ⟨h1,h2,h3⟩
 refine isTrue_or (Al (ha G pins s σ H (λc H1=>c=false/\∃ G1,Ah G G1/\SA X.K G1 H1 O) I ⟨h1,h2,λG1 H1 e1 s1=>⟨rfl,G1,e1,s1⟩⟩) ?_)
 rintro c s1 ⟨H1,I1,rfl,G1,e1,sa1⟩
 exact Oo (hb G1) wh pins s1 σ H1 Q I1 ⟨sa1,h2.ext e1,λk O' G2 H2 e2 s2 r=>h3 k O' G2 H2 (e1.trans e2) s2 r⟩
theorem Q2 {apos cpos:Pos} (ho:Ad X ρ O a (.ptr q)) (hq:O[q]?=some (some (.lst xs))) (h0:xs≠[]) (h:P.nx ρ (O.set q (some (.lst xs.dropLast))))
  (hbase:attributeBase a ("pop" : Str) X.env (eval a X.env)=eval a X.env:=by rfl) (hline:(apos.endLine==cpos.line)=true:=by rfl)
  (hsw:swapsWith (.Call (.Attribute a ("pop" : Str) apos) [] [] cpos) none pos.line X.env=pure false:=by rfl):Ex X ρ O (.Expr (.Call (.Attribute a ("pop" : Str) apos) [] [] cpos) pos) P:=λG=>
 PS.imp (Gx (U6 PySem.F.plainAttrs_list PySem.F.slot_list_pop PySem.F.type_list_pop W9 (ho G) hbase hline) hsw) λE σ H ⟨q1,q2,q3⟩=>⟨q1,q2,λv G1 H1 e1 s1 i1=>by
   cases i1 with
   | ptr _ ha=>
   obtain ⟨a1,g0,g1,vs,g2,g3⟩:=s1.mt q _ hq
   obtain rfl:=Option.some.inj (ha.symm.trans g0)
   have hl:=g3.length
   have hp:0<vs.length:=by rw [<- hl]; exact List.length_pos_iff.mpr h0
   refine ⟨.inl ⟨rfl,vs,A0.of g2⟩,_,vs,vs[vs.length-1]'wF,rfl,rfl,g2,List.getElem?_eq_getElem wF,?_⟩
   refine q3.nx σ ρ _ G1 _ e1 (s1.put (m':=.lst xs.dropLast) hq g0 ⟨_,AW,?_⟩) (q2.ext e1) h
   rw [List.dropLast_eq_take,List.dropLast_eq_take,hl]
   exact g3.take _⟩
end
section
variable {X:Cx} {ρ:Ai} {O:Ae} {e a b c:Expr} {d da db y:D} {ks:List AS} {xs:List D} {k:AS} {j q:Nat} {R:D->Ae->Prop} {P:A3} {pos apos cpos tpos:Pos}
theorem YH (h:R (.ptr O.length) (O++[some (.dct [] [])])):Ev X ρ O (.Dict [] [] pos) R:=λG=>PE.imp U4 λσ H Q ⟨h1,h2,h3⟩ p hp=>by
 obtain ⟨e2,s2⟩:=h1.new (o:=.dK []) (m:=.dct [] []) hp ⟨[],AW,rfl,.nil⟩
 exact h3 _ _ _ _ _ e2 s2 (.ptr _ (by rw [<- h1.len,List.getElem?_append_right (Nat.le_refl _),Nat.sub_self]; rfl)) h
end
section
variable {X:Cx} {ρ:Ai} {O:Ae} {a b e:Expr} {pos p:Pos} {d:D} {ks:List AS} {xs:List D}
end
section
variable {X:Cx} {ρ:Ai} {O:Ae} {a b e:Expr} {elts:List Expr} {x1:Nat} {pos p tp apos cpos:Pos} {d:D} {ks:List AS} {xs:List D}
end
mutual
def sbD (n:Nat) (e:D):D->D
 | .ptr m=>if m=n then e else .ptr m
 | .tup xs=>.tup (N7 n e xs)
 | .non=>.non | .bl b=>.bl b | .int i=>.int i | .str x=>.str x | .lst xs=>.lst xs | .scr xs=>.scr xs | .ty t=>.ty t | .fn a=>.fn a | .dct ks xs=>.dct ks xs
def N7 (n:Nat) (e:D):List D->List D
 | []=>[]
 | x::xs=>sbD n e x::N7 n e xs
end
section
variable {X:Cx} {ρ:Ai} {O:Ae} {rest:List Stmt} {P:A3} {n q:Nat} {ks:List AS} {xs:List D} {d:D} {C:Addr} {fs:List (Str×D)} {f:Str}
end
end DL
namespace DL
open PySem PySem.Spec PyProof.Rows L2 PySem.W
section
variable {prog:Program} {w:World} {A:Around} {s:Shared} {E:Value->Shared->Prop} {T:String} {r d:Addr} {n:Nat} {P:Nat->Value->Prop} {OK:Heap->Prop}
end
section
variable {X:Cx} {ρ:Ai} {O:Ae} {a b e:Expr} {pos p apos cpos:Pos} {d da:D} {ks:List AS} {xs:List D} {R:D->Ae->Prop}
end
instance:Inhabited Str:=⟨⟨#[]⟩⟩
section
variable {X:Cx} {ρ:Ai} {O:Ae} {e:Expr} {pos p:Pos} {da:D} {ps:List Str} {xs:List D}
end
section
variable {X:Cx} {ρ:Ai} {O:Ae} {a e:Expr} {pos apos cpos:Pos} {q:Nat} {ps:List Str} {x:Str} {P:A3} {ks:List AS} {xs:List D}
end
section
variable {X:Cx} {ρ:Ai} {O:Ae} {value o:Expr} {pos pos':Pos} {q:Nat} {C:Addr} {fs:List (Str×D)} {f:Str} {P:A3}
theorem Jb (hv:Ev X ρ O value λd O'=>Ad X ρ O' o (.ptr q)/\O'[q]?=some (some (.ins C fs))/\P.nx ρ (O'.set q (some (.ins C (AX f d fs))))) (c:Bn X.K C) (n:Ao X.K C f) (hz:fs.length<1000) (hs:swapsWith value (some (.Attribute o f pos')) pos.line X.env=pure false:=by rfl) :
  Ex X ρ O (.Assign [.Attribute o f pos'] value pos) P:=λG pins s σ H E I ⟨h1,h2,h3⟩=>by
 refine plainObj_wpAny_Assign_Attribute (Al (hv G pins s σ H (λv H1=>∃ d O1 G1,Ah G G1/\SA X.K G1 H1 O1/\Is X.K G1 d v/\Ad X ρ O1 o (.ptr q)/\O1[q]?=some (some (.ins C fs))/\P.nx ρ (O1.set q (some (.ins C (AX f d fs))))) I ⟨h1,h2,λv d O' G' H' e s i r=>⟨d,O',G',e,s,i,r⟩⟩) λu s1 ⟨y,H1,I1,ry,d,O1,G1,e1,sa1,i1,ho,hq,h⟩=>
  Al (ho G1 pins s1 σ H1 (λv H2=>∃ G2,Ah G1 G2/\SA X.K G2 H2 O1/\Is X.K G2 (.ptr q) v) I1 ⟨sa1,h2.ext e1,λv G' H' e s i=>⟨G',e,s,i⟩⟩) λov s2 ⟨x,H2,I2,rx,G2,e2,sa2,i2⟩=>?_) hs
 obtain ⟨a,dx,vs,rfl,g1,g2,g3⟩:=sa2.ins i2 hq
 obtain rfl:ov=Value.ref a:=rx
 refine NW I2 g2 c n (by rw [<- g3.len]; exact hz) ry λs3 I3=>⟨σ,_,I3,?_⟩
 exact h3.nx σ ρ _ G2 _ (e1.trans e2) (sa2.put (m':=.ins C (AX f d fs)) hq g1 ⟨dx,_,AW,g3.put (i1.ext e2)⟩) (h2.ext (e1.trans e2)) h
end
section
variable {X:Cx} {ρ:Ai} {O:Ae} {e:Expr} {qs:List Str} {xs:List D}
end
section
variable {X:Cx} {ρ:Ai} {O:Ae}
theorem GK {es:List Expr} {R:D->Ae->Prop} {x1:Nat} {pos:Pos} (h:EQ X ρ O es λds O'=>ds.length<=sizeLine/\R (.tup ds) O'):Ev X ρ O (.Tuple es x1 pos) R:=λG=>
 PE.imp (Ox (h G)) λσ H Q ⟨h1,h2,h3⟩=>⟨h1,h2,λvs ds O1 G1 H1 e1 s1 i1 r1=>⟨by rw [<- i1.length]; exact r1.1,λp hp=>by
  obtain ⟨e2,s2⟩:=s1.laid (o:=.tup vs) hp
  exact h3 _ _ _ _ _ (e1.trans e2) s2 (.tup (A1.of AW) (i1.ext e2)) r1.2⟩⟩
end
section
variable {X:Cx} {ρ:Ai} {O:Ae} {a:Expr} {pos apos cpos:Pos} {q:Nat} {ks:List AS} {xs:List D} {P:A3}
end
end DL
namespace L2
open PySem PySem.Spec PyProof.Rows
end L2
namespace DL
open PySem PySem.Spec PyProof.Rows L2
end DL
namespace DL
open PySem PySem.Spec PyProof.Rows L2 PySem.W
section
variable {X:Cx} {O:Ae} {da db ea:D} {k:Nat} {xs:List D}
end
section
variable {X:Cx} {ρ:Ai} {O:Ae} {a e:Expr} {pos apos cpos:Pos} {q:Nat} {xs:List D} {P:A3}
theorem Q4 (ho:Ad X ρ O a (.ptr q)) (he:Ev X ρ O e λd O'=>O'[q]?=some (some (.lst xs))/\P.nx ρ (O'.set q (some (.lst (xs++[d]))))) (hq:O[q]?=some (some (.lst xs))) (hz:xs.length<sizeLine)
  (hbase:attributeBase a ("append" : Str) X.env (eval a X.env)=eval a X.env:=by rfl) (hline:(apos.endLine==cpos.line)=true:=by rfl) (hst:starEach [e] X.env=[(false,eval e X.env)]:=by rfl)
  (hsw:swapsWith (.Call (.Attribute a ("append" : Str) apos) [e] [] cpos) none pos.line X.env=pure false:=by rfl):Ex X ρ O (.Expr (.Call (.Attribute a ("append" : Str) apos) [e] [] cpos) pos) P:=λG=>
 PS.imp (Gx (HK PySem.F.plainAttrs_list PySem.F.slot_list_append PySem.F.type_list_append OO (ho G)
  (Cq (te:=λσ H Q=>∃ G1,SA X.K G1 H O/\Au X.K G1 σ ρ/\∀ v d O' G' H',Ah G1 G'->SA X.K G' H' O'->Is X.K G' d v->(O'[q]?=some (some (.lst xs))/\P.nx ρ (O'.set q (some (.lst (xs++[d])))))->Q v H') (λpins s σ H Q I ⟨G1,q⟩=>he G1 pins s σ H Q I q) DN hst) hbase
  (by rw [hst]; rfl) hline hst (by rfl)) hsw) λE σ H ⟨q1,q2,q3⟩=>⟨q1,q2,λv G1 H1 e1 s1 i1=>by
   cases i1 with
   | ptr _ ha=>
   obtain ⟨a1,g0,g1,vs,g2,g3⟩:=s1.mt q _ hq
   obtain rfl:=Option.some.inj (ha.symm.trans g0)
   refine ⟨.inl ⟨rfl,vs,A0.of g2⟩,G1,s1,q2.ext e1,λw d O' G2 H2 e2 s2 i2 ⟨hq2,h⟩=>?_⟩
   obtain ⟨a2,g7,g4,us,g5,g6⟩:=s2.mt q _ hq2
   obtain rfl:=Option.some.inj ((e2.at g0).symm.trans g7)
   refine ⟨_,us,w,rfl,rfl,g5,by rw [<- g6.length]; exact hz,?_⟩
   exact q3.nx σ ρ _ G2 _ (e1.trans e2) (s2.put (m':=.lst (xs++[d])) hq2 g7 ⟨_,AW,g6.append (.cons i2 .nil)⟩) (q2.ext (e1.trans e2)) h⟩
end
section
variable {X:Cx} {ρ:Ai} {O:Ae} {e a b c:Expr} {body:List Stmt} {d da db:D} {xs:List D} {ks:List AS} {ps:List Str} {R:D->Ae->Prop} {P:A3} {pos p:Pos} {j n:Nat}
theorem YL {op:CmpOp} {Ra:D->Ae->Prop} (ha:Ev X ρ O a Ra) (hb:∀ da O1,Ra da O1->Ev X ρ O1 b λdb O2=>∃ d,AY X O2 (compareOp op) da db d/\R d O2) (hm:behindInMarks op b=false:=by first | exact HQ _ | (with_unfolding_all rfl)) :
  Ev X ρ O (.Compare a [op] [b] pos) R:=λG pins s σ H Q I ⟨h1,h2,h3⟩=>by
 refine wpAny_Compare1 (Al (ha G pins s σ H _ I ⟨h1,h2,λv da O1 G1 H1 e1 s1 i1 r1=>(⟨G1,da,O1,e1,s1,i1,r1⟩:∃ G1 da O1,Ah G G1/\SA X.K G1 H1 O1/\Is X.K G1 da v/\Ra da O1)⟩) λv s1 ⟨x,H1,I1,r1,G1,da,O1,e1,sa1,i1,ra⟩=>?_) hm
 refine Al (hb da O1 ra G1 pins s1 σ H1 _ I1 ⟨sa1,h2.ext e1,λu db O2 G2 H2 e2 s2 i2 r2=>(⟨G2,db,O2,e2,s2,i2,r2⟩:∃ G2 db O2,Ah G1 G2/\SA X.K G2 H2 O2/\Is X.K G2 db u/\∃ d,AY X O2 (compareOp op) da db d/\R d O2)⟩) λu s2 ⟨y,H2,I2,r2,G2,db,O2,e2,sa2,i2,d,ho,hR⟩=>?_
 exact ho G2 pins s2 σ H2 x y v u Q I2 r1 r2 ⟨sa2,i1.ext e2,i2,λw G3 H3 e3 s3 i3=>h3 w d O2 G3 H3 ((e1.trans e2).trans e3) s3 i3 hR⟩
end
section
variable {X:Cx} {ρ:Ai} {O:Ae} {e a b c iter tg:Expr} {st:Stmt} {body rest:List Stmt} {d da db:D} {xs:List D} {ks:List AS} {k:AS} {ob:Obj} {vs:List V} {ps:List Str} {R:D->Ae->Prop} {P:A3} {pos p:Pos} {j n:Nat}
end
section
variable {X:Cx} {O:Ae} {da db:D} {ks:List AS} {ns:List Int} {j:Nat}
end
section
variable {X:Cx} {ρ:Ai} {O:Ae} {a:Expr} {da:D} {xs:List D} {ks:List AS} {pos:Pos}
end
mutual
def ndD:D->Bool
 | .dct _ _=>false
 | .tup xs=>HU xs
 | .lst xs=>HU xs
 | .scr xs=>HU xs
 | .non=>true | .bl _=>true | .int _=>true | .str _=>true | .ptr _=>true | .ty _=>true | .fn _=>true
def HU:List D->Bool
 | []=>true
 | x::xs=>ndD x&&HU xs
end
section
variable {K:PySem.W.Frag} {G:Wd} {p:Addr} {ob:Obj} {kvs:List (AS×V)}
end
section
variable {X:Cx} {ρ:Ai} {O:Ae} {e a b:Expr} {d d0:D} {xs:List D} {ks:List AS} {k:AS} {R:D->Ae->Prop} {pos:Pos} {n:Nat}
end
section
variable {X:Cx} {ρ:Ai} {O:Ae} {a b:Expr} {d da db:D} {ks:List AS} {k:AS} {ns:List Int} {R:D->Ae->Prop} {pos:Pos} {j:Nat}
end
section
variable {X:Cx} {ρ:Ai} {O:Ae} {e a b:Expr} {d:D} {xs:List D} {ks:List AS} {R:D->Ae->Prop} {RT:Bool->Ae->Prop} {pos:Pos} {n:Nat}
end
end DL
namespace L2
open PySem PySem.Spec PyProof.Rows
section
variable {M:Model} {A:Around} {E:Value->Shared->Prop} {s:Shared} {B:Heap} {l:List Env} {a:Addr} {cls a0:Value}
end
section
variable {CX:Cz} {P:Program} {w:World} {K:PySem.W.Frag} {mg:Str->Option Value} {base:Heap} {N:List Str} {qual:Str} {scope:Scope} {f:Addr} {cd:Value} {A:Around} {outer:List Env} {s:Shared} {H:Hp} {E:XK}
end
end L2
namespace DL
open PySem PySem.Spec PyProof.Rows L2
section
variable {X:Cx} {N:List Str} {scope:Scope} {s2 s9 s10:Shared} {H2 H9 H':Hp} {fp:List Addr} {F:Value->Shared->Prop} {pins pinsY:List (Addr×Obj)} {σ σ9:L2.St} {a C:Addr} {od:Option Addr} {B:Heap} {Q:Value->Shared->Prop} {acc:Value}
end
section
variable {X:Cx} {ρ:Ai} {O:Ae} {elt tg iter:Expr} {scope:Scope} {pos:Pos} {xs zs:List D} {RX:XC}
end
section
variable {X:Cx} {ρ:Ai} {O:Ae} {e c elt tg iter:Expr} {scope:Scope} {pos p:Pos} {xs:List D} {RX:XC} {st:Stmt} {rest body orelse:List Stmt} {P:A3} {R:D->Ae->Prop}
end
section
variable {P:Program} {w:World} {K:PySem.W.Frag} {mg:Str->Option Value} {base:Heap}
end
section
variable {prog:Program} {w:World} {A:Around} {E:Value->Shared->Prop} {s:Shared}
end
section
variable {X:Cx} {O:Ae} {d:D} {q:Nat} {C ah:Addr} {fs:List (Str×D)}
end
end DL
namespace L2
open PySem PySem.Spec PyProof.Rows
end L2
namespace DL
open PySem PySem.Spec PyProof.Rows L2
section
variable {X:Cx} {ρ:Ai} {O:Ae} {a b a2 b2:Expr} {d d2:D} {k k2:AS} {R:D->Ae->Prop} {pos:Pos}
end
end DL
namespace DL
open PySem PySem.Spec PyProof.Rows L2 PySem.W
section
open PySem.AutoSeq1 (wpAny_loadPart')
open PySem.SeqAt PySem.MeetsSeq PySem.MeetsSeq2 PySem.MeetsSeq3 PySem.SeqRoads2
end
section
variable {X:Cx} {ρ:Ai} {O:Ae} {da db:D} {ks:List AS} {ns:List Int} {j:Nat} {ts:List D}
end
end DL
namespace DL
open PySem PySem.Spec PyProof.Rows L2
section
variable {X:Cx} {ρ:Ai} {O:Ae} {da ea:D} {xs:List D} {k:Nat} {es:List Expr} {R:D->Ae->Prop} {pos:Pos}
end
section
variable {P:Program} {w:World} {K:PySem.W.Frag} {mg:Str->Option Value} {base:Heap} {C:Addr} {j k:Nat} {x m:Str} {sp sp':AE}
theorem AI.mono (M:AI P w K mg base C j m sp) (h:j<=k):AI P w K mg base C k m sp:=let ⟨f,fd,ps,h1,h2⟩:=M.ex; ⟨⟨f,fd,ps,h1.mono h,h2⟩,M.cls⟩
end
section
variable {X:Cx} {mk:Prop} {ρ:Ai} {O:Ae} {x y:Str} {f:Addr} {p pos:Pos} {e:Expr} {es:List Expr} {ds:List D} {R:D->Ae->Prop} {RX:XC}
end
end DL
set_option maxHeartbeats 2000000
namespace DL
open PySem PySem.Spec PyProof.Rows L2 PySem.W
section
variable {prog:Program} {w:World} {A:Around} {E:Value->Shared->Prop} {s:Shared} {n l1 l2 l3 i1 i2 i3:Nat} {k1 k2 k3:Bool} {xs ys zs:Array Value} {f0 f1 a b c v:Value}
end
section
variable {prog:Program} {w:World} {A:Around} {E:Value->Shared->Prop} {s:Shared} {n l1 l2 l3 i1 i2 i3 i:Nat} {k1 k2 k3:Bool} {xs ys zs:Array Value} {f0 f1 a b c v:Value}
end
section
variable {X:Cx} {ρ:Ai} {O:Ae} {a b c:Expr} {da db dc:D} {pos p:Pos} {xs ys zs:List D}
end
end DL
set_option maxHeartbeats 1000000
namespace DL
open PySem PySem.Spec PyProof.Rows L2
section
variable {X:Cx} {ρ:Ai} {O:Ae} {elt tg iter:Expr} {scope:Scope} {pos:Pos} {xs zs:List D}
theorem Zo (S:Nat->Ae) (hS0:S 0=O) (N:List Str) (js:List Nat) (ρ0:Ai) (hi:BX X ρ O tg iter xs) (hc:X.calm=true) (hk:scope.kind=.function) (hfr:F6 X scope) (hnm:∀ x∈scope.names,x.2=.local->scope.names.lookup x.1=some .local)
  (hl0:ρ0.length=N.length)
  (h0:∀ (i:Nat) (d:D),ρ0[i]?=some (some d)->∃ (x:Str) (j:Nat),N[i]?=some x/\scope.names.lookup x=some .free/\(∀ y∈scope.names,y.1=x->y.2≠.cell)/\X.N[j]?=some x/\ρ[j]?=some (some d)/\C1 X.env.scope x)
  (hzl:zs.length=xs.length) (hsz:xs.length<=sizeLine)
  (turn:∀ (s:Shared) (H:Hp) (fp:List Addr) (i:Nat) (x:D) (z:D),xs[i]?=some x->zs[i]?=some z->∃ ρ1,Tg (CK X N scope s H fp) tg x ρ0 ρ1/\ρ1.length=ρ0.length/\(∀ (j:Nat) (d:D),ρ0[j]?=some (some d)->ρ1[j]?=some (some d))/\Ev (CK X N scope s H fp) ρ1 (S i) elt λd O'=>d=z/\O'=S (i+1))
  {use:Option (Value->Sem Unit)} {pins:List (Addr×Obj)} {s:Shared} {σ:L2.St} {H:Hp} {G:Wd} {Q:Value->Shared->Prop} (I:L2.Inv X pins σ H s) (sa:SA X.K G H O) (en:Au X.K G σ ρ)
  (fin:∀ (D C:Addr) (s':Shared) (H5:Hp) (G5:Wd) (vs:List V),L2.Inv X pins σ (Ap H5 D (.lst vs)) s'->Ah G G5->SA X.K G5 H5 (S xs.length)->H5 D=none->Aj X.K G5 zs vs->BS X pins (Ap H5 D (.lst vs)) C->(∃ m,s'.heap.Ns C m)->compPost (model X.prog X.w) X.A X.xe use Q (.ref D) C (.ok .next) s')
  (hs:∀ x,foldedSetIterable iter X.env x=pure x:=by intro _; rfl) :
  wpAny (model X.prog X.w) X.A (comprehension (.ListComp elt [⟨tg,iter,[],0⟩] scope pos) scope X.env (firstIterPos [⟨tg,iter,[],0⟩] pos) (newList []) false (eval iter X.env) use) Q X.xe s:=by
 have efm:(zs.map some).filterMap id=zs:=by rw [List.filterMap_map]; exact List.filterMap_some
 refine L8 (zs:=zs.map some) S hS0 N js ρ0 hi hc hk hfr hnm hl0 h0 (by rw [List.length_map]; exact hzl) hsz (λs H fp i x z q1 q2=>?_) I sa en (λD C s' H5 G5 vs I5 e5 sa5 hD is5 f5 n5=>fin D C s' H5 G5 vs I5 e5 sa5 hD (by rw [efm] at is5; exact is5) f5 n5) hs
 rw [List.getElem?_map] at q2
 obtain ⟨y,hy,rfl⟩:=Option.map_eq_some_iff.mp q2
 obtain ⟨ρ1,t1,t2,t3,t4⟩:=turn s H fp i x y q1 hy
 exact ⟨ρ1,t1,t2,t3,y,rfl,t4⟩
def QO (X:Cx) (T F:List Str) (js:List Nat) (ρ:Ai) (Oa Ob:Ae) (scope:Scope) (tg elt:Expr) (x z:D):Prop:=
 ∀ (s:Shared) (H:Hp) (fp:List Addr),∃ ts:Ai,ts.length=T.length/\Tg (CK X (T++F) scope s H fp) tg x (T.map (λ_=>(none:Option D))++Ci ρ js) (ts++Ci ρ js)/\Ev (CK X (T++F) scope s H fp) (ts++Ci ρ js) Oa elt λd O'=>d=z/\O'=Ob
theorem YK {R:D->Ae->Prop} (S:Nat->Ae) (hS0:S 0=O) (T F:List Str) (js:List Nat) (hi:BX X ρ O tg iter xs) (hzl:zs.length=xs.length) (hsz:xs.length<=sizeLine) (turn:∀ (i:Nat) (x z:D),xs[i]?=some x->zs[i]?=some z->QO X T F js ρ (S i) (S (i+1)) scope tg elt x z) (hR:R (.lst zs) (S xs.length))
  (hfl:F.length=js.length) (hB:CQ X.N X.env.scope.names scope.names F js=true) (hc:X.calm=true) (hk:scope.kind=.function) (hs:∀ x,foldedSetIterable iter X.env x=pure x) :
  Ev X ρ O (.ListComp elt [⟨tg,iter,[],0⟩] scope pos) R:=λG pins s σ H Q I ⟨h1,h2,h3⟩=>by
 rw [eval_ListComp]
 refine Zo S hS0 (T++F) js (T.map (λ_=>(none:Option D))++Ci ρ js) hi hc hk (LX hB) (LW hB) (by simp [Ci,hfl]) (LY hB) hzl hsz (λs H fp i x z q1 q2=>?_) I h1 h2 (λdd C s' H5 G5 vs I' e' sa5 hd5 is5 fo ns=>?_) hs
 ·obtain ⟨ts,t1,t2,t3⟩:=turn i x z q1 q2 s H fp
  obtain ⟨u1,u2⟩:=Jk (fr:=Ci ρ js) t1
  exact ⟨_,t2,u1,u2,t3⟩
 ·obtain ⟨m,hn⟩:=ns
  refine ⟨m,hn,λh' hs'=>?_⟩
  obtain ⟨f0,f1,f2,f3,f4,f5⟩:=fo
  obtain ⟨e2,s2⟩:=sa5.laid (o:=.lst vs) hd5
  exact ⟨.ref dd,Ap H5 dd (.lst vs),I'.turned (t':=s'.toks) (λb o hb e=>(hs'.2 b hb).trans e) f0 f1 f3 f4 f5,rfl,h3 _ _ _ _ _ (e'.trans e2) s2 (.lst AW (is5.ext e2)) hR⟩
end
section
variable {X:Cx} {ρ:Ai} {O:Ae} {e:Expr} {es:List Expr} {R:D->Ae->Prop} {x:Str} {p pos:Pos}
theorem YN {T:String} (hm:X.mg x=none) (ha:EQ X ρ O (e::es) λds O1=>∃ d,BP X O1 (.type T) ds d/\R d O1) (hg:Gl X x:=by rfl) (hv:bootBuiltins x=some (.type T):=by first | rfl | decide +kernel) (hn:x ≠ "__name__" := by decide) (hdb:(x==("__debug__" : Str))=false:=by decide)
  (he:starEach (e::es) X.env=(false,eval e X.env)::starEach es X.env:=by rfl) (hpl:(backTo pos (starEach es X.env)).any (·.1)=false:=by rfl):Ev X ρ O (.Call (.Name x p) (e::es) [] pos) R:=λG=>
 PE.imp (Oz (r:=λvs H Q=>∃ G1 O1 ds d,SA X.K G1 H O1/\Aj X.K G1 ds vs/\BP X O1 (.type T) ds d/\∀ w G' H',Ah G1 G'->SA X.K G' H' O1->Is X.K G' d w->Q w H') (λpins s σ H xs us Q I r ⟨G1,O1,ds,d,q1,q2,hc,q3⟩=>hc G1 pins s σ H xs us Q I r ⟨q1,q2,q3⟩) hg hm hv (ha G) hn hdb he hpl)
  λσ H Q ⟨h1,h2,h3⟩=>⟨h1,h2,λvs ds O1 G1 H1 e1 s1 i1 ⟨d,hc,hR⟩=>⟨G1,O1,ds,d,s1,i1,hc,λw G2 H2 e2 s2 i2=>h3 w d O1 G2 H2 (e1.trans e2) s2 i2 hR⟩⟩
end
section
variable {X:Cx} {ρ:Ai} {O:Ae} {pos:Pos} {R:D->Ae->Prop}
variable {α:Type} {ps:List α} {f:α->D} {tg iter elt:Expr} {scope:Scope}
theorem YJ (g:Nat->D) (S:Nat->Ae) (hS0:S 0=O) (T F:List Str) (js:List Nat) (hi:BX X ρ O tg iter (ps.map f)) (hsz:ps.length<=sizeLine) (turn:∀ (i:Nat) (q:α),ps[i]?=some q->QO X T F js ρ (S i) (S (i+1)) scope tg elt (f q) (g i)) (hR:R (.lst ((List.range ps.length).map g)) (S ps.length))
  (hfl:F.length=js.length:=by rfl) (hB:CQ X.N X.env.scope.names scope.names F js=true:=by first | rfl | decide +kernel) (hc:X.calm=true:=by rfl) (hk:scope.kind=.function:=by rfl) (hs:∀ x,foldedSetIterable iter X.env x=pure x:=by intro _; rfl) :
  Ev X ρ O (.ListComp elt [⟨tg,iter,[],0⟩] scope pos) R:=
 YK (zs:=(List.range ps.length).map g) S hS0 T F js hi (by rw [List.length_map,List.length_range,List.length_map]) (by rw [List.length_map]; exact hsz) (λi x z q1 q2=>by
  rw [List.getElem?_map] at q1 q2
  obtain ⟨q,hq,rfl⟩:=Option.map_eq_some_iff.mp q1
  obtain ⟨j,hj,rfl⟩:=Option.map_eq_some_iff.mp q2
  have hi:=(List.getElem?_eq_some_iff.mp hq).1
  rw [List.getElem?_range hi] at hj
  cases hj
  exact turn i q hq) (by rw [List.length_map]; exact hR) hfl hB hc hk hs
end
end DL
namespace DL
open PySem PySem.Spec PyProof.Rows L2 PySem.W
section
variable {X:Cx} {ρ:Ai} {O:Ae} {e:Expr} {p p2 pos pos2:Pos}
variable {R:D->Ae->Prop}
end
section
variable {X:Cx} {ρ:Ai} {O:Ae} {e a b c:Expr} {body:List Stmt} {d da db:D} {xs:List D} {ks:List AS} {ps:List Str} {R:D->Ae->Prop} {P:A3} {pos p:Pos} {j n:Nat}
theorem YR {op:Operator} (ha:Ad X ρ O a da) (hb:Ev X ρ O b λdb O1=>∃ d,AY X O1 (binaryOp op) da db d/\R d O1):Ev X ρ O (.BinOp a op b pos) R:=λG pins s σ H Q I ⟨h1,h2,h3⟩=>
 wpAny_BinOp (Fp (ta:=λσ H Q=>SA X.K G H O/\Au X.K G σ ρ/\∀ v G' H',Ah G G'->SA X.K G' H' O->Is X.K G' da v->Q v H') (ha G)
  (tb:=λσ H Q=>∃ G1,SA X.K G1 H O/\Au X.K G1 σ ρ/\∀ v db O1 G' H',Ah G1 G'->SA X.K G' H' O1->Is X.K G' db v->(∃ d,AY X O1 (binaryOp op) da db d/\R d O1)->Q v H') (λpins s σ H Q I ⟨G1,q⟩=>hb G1 pins s σ H Q I q) I
  (R:=λx y H2=>∃ G2 O1 db d,Ah G G2/\SA X.K G2 H2 O1/\Is X.K G2 da x/\Is X.K G2 db y/\AY X O1 (binaryOp op) da db d/\R d O1)
  ⟨h1,h2,λv G1 H1 e1 s1 i1=>⟨G1,s1,h2.ext e1,λu db O1 G2 H2 e2 s2 i2 ⟨d,ho,hr⟩=>⟨G2,O1,db,d,e1.trans e2,s2,i1.ext e2,i2,ho,hr⟩⟩⟩
  λv u s2 x y H2 I2 rx ry ⟨G2,O1,db,d,e2,s2',i1,i2,ho,hr⟩=>ho G2 pins s2 σ H2 x y v u Q I2 rx ry ⟨s2',i1,i2,λw G3 H3 e3 s3 i3=>h3 w d O1 G3 H3 (e2.trans e3) s3 i3 hr⟩)
end
end DL
namespace DL
open PySem PySem.Spec PyProof.Rows L2
section
variable {X:Cx} {ρ:Ai} {O:Ae} {e:Expr} {es:List Expr} {R:D->Ae->Prop} {x:Str} {C:Addr} {p pos:Pos}
end
section
variable {X:Cx} {ρ:Ai} {O:Ae} {e a b:Expr} {d:D} {R:D->Ae->Prop} {pos p p2:Pos} {x:Str} {q:Nat} {C C2:Addr} {fs:List (Str×D)} {k:Bool}
theorem GP {U:String} (hm:X.mg "isinstance" = none) (he:Ad X ρ O e (.ptr q)) (hq:O[q]?=some (some (.ins C fs))) (T:Br X.K C) (hx:X.mg x=none) (hk:PySem.W.kitOne X.K (.ref C) (.type U)=some k) (hv:bootBuiltins x=some (.type U):=by first | rfl | decide +kernel)
  (hg:Gl X "isinstance" := by rfl) (hgx:Gl X x:=by rfl) (hn:x ≠ "__name__" := by decide) (hdx:(x==("__debug__" : Str))=false:=by decide) (hs:starEach [e,.Name x p2] X.env=(false,eval e X.env)::starEach [.Name x p2] X.env:=by rfl) (hpl:(backTo pos (starEach [.Name x p2] X.env)).any (·.1)=false:=by rfl) :
  Ad X ρ O (.Call (.Name "isinstance" p) [e,.Name x p2] [] pos) (.bl k):=λG=>by
 refine PE.imp (FO (id := "isinstance") (r:=λvs H Q=>∃ a dx fs,vs=[.ref a,.ty U]/\H a=some (.ins C dx fs)/\Q (.bl k) H) (λpins s σ H xs us Q I r h=>?_) hg hm (by first | rfl | decide +kernel) (Cq (he G) (Cq (Lh (v:=.ty U) hgx hx hv rfl hn hdx) DN rfl) hs) wE wE hs hpl) λσ H Q ⟨h1,h2,h3⟩=>?_
 ·obtain ⟨a,dx,fs,rfl,ha,hQ⟩:=h
  obtain ⟨u,u',rfl,ru,ru'⟩:=Ds r
  cases ru'
  exact Pf I ru (.ins ha T.cls T.ha T.hn T.htk T.hm) hk λtk=>⟨.bl k,H,I.kept λ_ _ e=>e,rfl,hQ⟩
 ·refine ⟨h1,h2,λv G1 H1 e1 s1 i1=>?_⟩
  obtain ⟨a,dx,vs,rfl,g1,g2,g3⟩:=s1.ins i1 hq
  exact ⟨a,dx,vs,rfl,g2,h3 _ G1 H1 e1 s1 (.bl k)⟩
theorem YG {T:String} (hm:X.mg "isinstance" = none) (he:Ad X ρ O e d) (ht:Hi d=some T) (hx:X.mg x=some (.ref C2)) (hk:PySem.W.kitOne X.K (.type T) (.ref C2)=some k)
  (hg:Gl X "isinstance" := by rfl) (hgx:Gl X x:=by rfl) (hdx:(x==("__debug__" : Str))=false:=by decide) (hs:starEach [e,.Name x p2] X.env=(false,eval e X.env)::starEach [.Name x p2] X.env:=by rfl) (hpl:(backTo pos (starEach [.Name x p2] X.env)).any (·.1)=false:=by rfl) :
  Ad X ρ O (.Call (.Name "isinstance" p) [e,.Name x p2] [] pos) (.bl k):=λG=>by
 refine PE.imp (FO (id := "isinstance") (r:=λvs H Q=>∃ v G1,vs=[v,.ref C2]/\SA X.K G1 H O/\Is X.K G1 d v/\Q (.bl k) H) (λpins s σ H xs us Q I r h=>?_) hg hm (by first | rfl | decide +kernel) (Cq (he G) (Cq (HJ (v:=.ref C2) hgx hx rfl hdx) DN rfl) hs) wE wE hs hpl) λσ H Q ⟨h1,h2,h3⟩=>?_
 ·obtain ⟨v,G1,rfl,h1,i,hQ⟩:=h
  obtain ⟨u,u',rfl,r1,r2⟩:=Ds r
  cases r2
  have fin:∀ tk,EP X pins σ Q (.bool k) { s with toks:=tk }:=λtk=>⟨.bl k,H,I.tok tk,rfl,hQ⟩
  cases i with
  | non=>cases ht; cases r1; exact PySem.W.kia_one PySem.W.kitx_none I.kIn True.intro hk (λz=>nomatch z) fin
  | bl y=>cases ht; cases r1; exact PySem.W.kia_one PySem.W.kitx_bool I.kIn True.intro hk (λz=>nomatch z) fin
  | int i=>cases ht; obtain ⟨t,rfl⟩:=r1; exact PySem.W.kia_one PySem.W.kitx_int I.kIn True.intro hk (λz=>nomatch z) fin
  | str y=>cases ht; obtain ⟨t,rfl⟩:=r1; exact PySem.W.kia_one PySem.W.kitx_str I.kIn True.intro hk (λz=>nomatch z) fin
  | tup q1 q2=>
   cases ht; cases r1
   obtain ⟨its,_,⟨o,g1,g2,_⟩,_⟩:=I.tuple (C6 h1.sub q1)
   exact PySem.W.kia_one PySem.W.kitx_tuple I.kIn ⟨o,g1,g2⟩ hk (λz=>nomatch z) fin
  | lst q1 q2=>
   cases ht; cases r1
   obtain ⟨its,_,⟨o,n,g1,g2,_⟩,_⟩:=I.list (A0.of (h1.sub _ _ q1))
   exact PySem.W.kia_one PySem.W.kitx_list I.kIn ⟨o,g1,g2⟩ hk (λz=>nomatch z) fin
  | scr q1 q2=>
   cases ht; cases r1
   obtain ⟨its,_,⟨o,n,g1,g2,_⟩,_⟩:=I.list (h1.sub.seq q1)
   exact PySem.W.kia_one PySem.W.kitx_list I.kIn ⟨o,g1,g2⟩ hk (λz=>nomatch z) fin
  | ptr _ _=>cases ht
  | ty _=>cases ht
  | fn _=>cases ht
  | dct q1 _ q2=>
   cases ht; cases r1
   obtain ⟨_,_,_,_,o,_,_,g1,g2,_⟩:=Rd.ok (.inr ⟨_,h1.sub _ _ q1⟩) I.hok
   exact PySem.W.kia_one PySem.W.kitx_dict I.kIn ⟨o,g1,g2.1⟩ hk (λz=>nomatch z) fin
 ·exact ⟨h1,h2,λv G1 H1 e1 s1 i1=>⟨v,G1,rfl,s1,i1,h3 _ G1 H1 e1 s1 (.bl k)⟩⟩
theorem Xt {K:PySem.W.Frag} {T:String} (h:PySem.W.kitOne K (.ref C) (.ref C2)=some false) (hT:T∈["NoneType","int","str","tuple"]):PySem.W.kitOne K (.type T) (.ref C2)=some false:=by
 have h2:((PySem.W.clsIn K C2).isSome&&PySem.W.typeIn K (.ref C2)==some (.type "type"))=true:=by
  by_cases z:((PySem.W.clsIn K C2).isSome&&PySem.W.typeIn K (.ref C2)==some (.type "type"))=true
  ·exact z
  ·unfold PySem.W.kitOne PySem.W.kitCls at h
   split at h
   ·cases h
   ·have h:(if ((PySem.W.clsIn K C2).isSome&&PySem.W.typeIn K (.ref C2)==some (.type "type"))=true then PySem.W.subIn K (.ref C) (.ref C2) else none)=some false:=h
    rw [if_neg z] at h
    cases h
 simp only [List.mem_cons,List.not_mem_nil,or_false] at hT
 have h3:∀ T,(PySem.W.subIn K (.type T) (.ref C2)=some false)->PySem.W.kitOne K (.type T) (.ref C2)=some false:=λT hs=>by
  unfold PySem.W.kitOne PySem.W.kitCls
  rw [if_neg (by intro z; exact absurd (eq_of_beq z) (λz=>by cases z))]
  show (if _ then _ else _)=_
  rw [if_pos h2]; exact hs
 rcases hT with rfl | rfl | rfl | rfl <;> exact h3 _ (by kernel_rfl)
theorem YD {Ra:D->Ae->Prop} (ha:Ev X ρ O a Ra) (hb:∀ da O1,Ra da O1->∃ xs i d,da=.lst xs/\Ad X ρ O1 b (.int i)/\Bf xs i=some d/\R d O1) (hs:Mw b:=by intro _ _; rfl):Ev X ρ O (.Subscript a b pos) R:=λG pins s σ H Q I ⟨h1,h2,h3⟩=>
 Subscript_ (Fp (ta:=λσ H Q=>SA X.K G H O/\Au X.K G σ ρ/\∀ v d O' G' H',Ah G G'->SA X.K G' H' O'->Is X.K G' d v->Ra d O'->Q v H') (ha G)
  (tb:=λσ H Q=>∃ G1 O1 i,Ad X ρ O1 b (.int i)/\SA X.K G1 H O1/\Au X.K G1 σ ρ/\∀ v G' H',Ah G1 G'->SA X.K G' H' O1->Is X.K G' (.int i) v->Q v H') (λpins s σ H Q I ⟨G1,O1,i,hb,q⟩=>hb G1 pins s σ H Q I q) I
  (R:=λx y H2=>∃ G2 O1 xs i d,Ah G G2/\SA X.K G2 H2 O1/\Is X.K G2 (.lst xs) x/\Is X.K G2 (.int i) y/\Bf xs i=some d/\R d O1)
  ⟨h1,h2,λv da O1 G1 H1 e1 s1 i1 ra=>by
   obtain ⟨xs,i,d,rfl,hbb,hi,hR⟩:=hb da O1 ra
   exact ⟨G1,O1,i,hbb,s1,h2.ext e1,λu G2 H2 e2 s2 i2=>⟨G2,O1,xs,i,d,e1.trans e2,s2,i1.ext e2,i2,hi,hR⟩⟩⟩
  λv u s2 x y H2 I2 rx ry ⟨G2,O1,xs,i,d,e2,s2',i1,i2,hi,hR⟩=>by
   obtain ⟨p,vs,rfl,q,r⟩:=(show LV O1 (.lst xs) xs from Or.inl rfl).sq s2' i1
   cases i2
   obtain ⟨w,hw,iw⟩:=LE r hi
   exact Pb a b pins s2 σ H2 _ _ v u Q I2 rx ry ⟨p,vs,i,w,rfl,rfl,q,hw,h3 w d O1 G2 H2 e2 s2' iw hR⟩ (hs _ _))
theorem YQ {op:Operator} {Ra:D->Ae->Prop} (ha:Ev X ρ O a Ra) (hb:∀ da O1,Ra da O1->∃ db d,Ad X ρ O1 b db/\AY X O1 (binaryOp op) da db d/\R d O1):Ev X ρ O (.BinOp a op b pos) R:=λG pins s σ H Q I ⟨h1,h2,h3⟩=>
 wpAny_BinOp (Fp (ta:=λσ H Q=>SA X.K G H O/\Au X.K G σ ρ/\∀ v d O' G' H',Ah G G'->SA X.K G' H' O'->Is X.K G' d v->Ra d O'->Q v H') (ha G)
  (tb:=λσ H Q=>∃ G1 O1 db,Ad X ρ O1 b db/\SA X.K G1 H O1/\Au X.K G1 σ ρ/\∀ v G' H',Ah G1 G'->SA X.K G' H' O1->Is X.K G' db v->Q v H') (λpins s σ H Q I ⟨G1,O1,db,hb,q⟩=>hb G1 pins s σ H Q I q) I
  (R:=λx y H2=>∃ G2 O1 da db d,Ah G G2/\SA X.K G2 H2 O1/\Is X.K G2 da x/\Is X.K G2 db y/\AY X O1 (binaryOp op) da db d/\R d O1)
  ⟨h1,h2,λv da O1 G1 H1 e1 s1 i1 ra=>by
   obtain ⟨db,d,hbb,ho,hR⟩:=hb da O1 ra
   exact ⟨G1,O1,db,hbb,s1,h2.ext e1,λu G2 H2 e2 s2 i2=>⟨G2,O1,da,db,d,e1.trans e2,s2,i1.ext e2,i2,ho,hR⟩⟩⟩
  λv u s2 x y H2 I2 rx ry ⟨G2,O1,da,db,d,e2,s2',i1,i2,ho,hr⟩=>ho G2 pins s2 σ H2 x y v u Q I2 rx ry ⟨s2',i1,i2,λw G3 H3 e3 s3 i3=>h3 w d O1 G3 H3 (e2.trans e3) s3 i3 hr⟩)
end
end DL
set_option maxHeartbeats 4000000
namespace My
open PySem PySem.Spec PyProof.Rows L2 DL
def top (i:Nat):Stmt:=PySem.Challenge.pw_heedwise_k71_no_tier.main.body.getD i (.Pass ⟨0,0,0,0⟩)
abbrev FI:Stmt:=Bk (top 3) 0
abbrev Q1i:List Str:=["self","number"]
theorem Tj:Ax Q1i ["self","number"] (Ak FI):=by constructor <;> first | rfl | decide +kernel
abbrev Ka:Stmt:=top 10
abbrev Q0v:List Str:=["value"]
theorem SG:Ax Q0v ["value"] (Ak Ka):=by constructor <;> first | rfl | decide +kernel
abbrev JV:Stmt:=top 11
abbrev Q0f:List Str:=["base","exponent","product","step"]
theorem Hz:Ax Q0f ["base","exponent"] (Ak JV):=by constructor <;> first | rfl | decide +kernel
abbrev Kg:Stmt:=top 12
abbrev Q0B:List Str:=["weights"]
theorem SM:Ax Q0B ["weights"] (Ak Kg):=by constructor <;> first | rfl | decide +kernel
abbrev JX:Stmt:=top 13
abbrev Q0h:List Str:=["numbers","weights","shares","whole","reached","number","share"]
theorem EZ:Ax Q0h ["numbers","weights"] (Ak JX):=by constructor <;> first | rfl | decide +kernel
abbrev Kh:Stmt:=top 20
abbrev Q0C:List Str:=["what","value","least","most"]
theorem SN:Ax Q0C ["what","value","least","most"] (Ak Kh):=by constructor <;> first | rfl | decide +kernel
abbrev Km:Stmt:=top 21
abbrev Q0H:List Str:=["scale"]
theorem ST:Ax Q0H ["scale"] (Ak Km):=by constructor <;> first | rfl | decide +kernel
abbrev Kr:Stmt:=top 22
abbrev Q0L:List Str:=["many","scale"]
theorem SW:Ax Q0L ["many","scale"] (Ak Kr):=by constructor <;> first | rfl | decide +kernel
abbrev Ks:Stmt:=top 23
abbrev Q0M:List Str:=["top","bottom"]
theorem SX:Ax Q0M ["top","bottom"] (Ak Ks):=by constructor <;> first | rfl | decide +kernel
abbrev Kq:Stmt:=top 24
abbrev Q0K:List Str:=["many","push","one"]
theorem N3:Ax Q0K ["many","push"] (Ak Kq):=by constructor <;> first | rfl | decide +kernel
abbrev Kl:Stmt:=top 25
abbrev Q0G:List Str:=["share","parts"]
theorem SS:Ax Q0G ["share","parts"] (Ak Kl):=by constructor <;> first | rfl | decide +kernel
abbrev Kd:Stmt:=top 27
abbrev Q0y:List Str:=["scale","value"]
theorem SJ:Ax Q0y ["scale","value"] (Ak Kd):=by constructor <;> first | rfl | decide +kernel
abbrev Kc:Stmt:=top 28
abbrev Q0x:List Str:=["many","scale","said"]
theorem SI:Ax Q0x ["many","scale","said"] (Ak Kc):=by constructor <;> first | rfl | decide +kernel
abbrev Kb:Stmt:=top 29
abbrev Q0w:List Str:=["many","scale","turn"]
theorem SH:Ax Q0w ["many","scale","turn"] (Ak Kb):=by constructor <;> first | rfl | decide +kernel
abbrev Ko:Stmt:=top 30
abbrev Q0J:List Str:=["many","scale","said"]
theorem SV:Ax Q0J ["many","scale","said"] (Ak Ko):=by constructor <;> first | rfl | decide +kernel
abbrev Kj:Stmt:=top 31
abbrev Q0E:List Str:=["many","scale","said","so"]
theorem SQ:Ax Q0E ["many","scale","said","so"] (Ak Kj):=by constructor <;> first | rfl | decide +kernel
abbrev Ku:Stmt:=top 32
abbrev Q0O:List Str:=["said"]
theorem SZ:Ax Q0O ["said"] (Ak Ku):=by constructor <;> first | rfl | decide +kernel
abbrev Kt:Stmt:=top 33
abbrev Q0N:List Str:=["what","so"]
theorem SY:Ax Q0N ["what","so"] (Ak Kt):=by constructor <;> first | rfl | decide +kernel
abbrev JW:Stmt:=top 35
abbrev Q0g:List Str:=["said","weights","awake"]
theorem N1:Ax Q0g ["said","weights"] (Ak JW):=by constructor <;> first | rfl | decide +kernel
abbrev KY:Stmt:=Bk (top 36) 0
abbrev Q1o:List Str:=["self","many","scale"]
theorem Tq:Ax Q1o ["self","many","scale"] (Ak KY):=by constructor <;> first | rfl | decide +kernel
abbrev KT:Stmt:=Bk (top 36) 1
abbrev Q1l:List Str:=["self"]
theorem Tm:Ax Q1l ["self"] (Ak KT):=by constructor <;> first | rfl | decide +kernel
abbrev KS:Stmt:=Bk (top 36) 2
abbrev Q1k:List Str:=["self","said"]
theorem Tl:Ax Q1k ["self","said"] (Ak KS):=by constructor <;> first | rfl | decide +kernel
abbrev KU:Stmt:=Bk (top 36) 3
abbrev Q1m:List Str:=["self","said","so"]
theorem Tn:Ax Q1m ["self","said","so"] (Ak KU):=by constructor <;> first | rfl | decide +kernel
abbrev KW:Stmt:=Bk (top 36) 4
abbrev Q1n:List Str:=["self"]
theorem Tp:Ax Q1n ["self"] (Ak KW):=by constructor <;> first | rfl | decide +kernel
abbrev Kv:Stmt:=top 38
abbrev Q0P:List Str:=["hands"]
theorem S0:Ax Q0P ["hands"] (Ak Kv):=by constructor <;> first | rfl | decide +kernel
abbrev Ke:Stmt:=top 39
abbrev Q0z:List Str:=["hands","head"]
theorem SK:Ax Q0z ["hands","head"] (Ak Ke):=by constructor <;> first | rfl | decide +kernel
abbrev Kk:Stmt:=top 40
abbrev Q0F:List Str:=["hands","head"]
theorem SR:Ax Q0F ["hands","head"] (Ak Kk):=by constructor <;> first | rfl | decide +kernel
abbrev KH:Stmt:=Bk (top 41) 0
abbrev Q0Z:List Str:=["self","hands","head"]
theorem S8:Ax Q0Z ["self","hands","head"] (Ak KH):=by constructor <;> first | rfl | decide +kernel
abbrev KD:Stmt:=Bk (top 41) 1
abbrev Q0X:List Str:=["self"]
theorem S6:Ax Q0X ["self"] (Ak KD):=by constructor <;> first | rfl | decide +kernel
abbrev KG:Stmt:=Bk (top 41) 2
abbrev Q0Y:List Str:=["self","said"]
theorem S7:Ax Q0Y ["self","said"] (Ak KG):=by constructor <;> first | rfl | decide +kernel
abbrev KB:Stmt:=Bk (top 41) 3
abbrev Q0V:List Str:=["self","said"]
theorem S5:Ax Q0V ["self","said"] (Ak KB):=by constructor <;> first | rfl | decide +kernel
abbrev KC:Stmt:=Bk (top 41) 4
abbrev Q0W:List Str:=["self","said","so","sayings","hand"]
theorem JO:Ax Q0W ["self","said","so"] (Ak KC):=by constructor <;> first | rfl | decide +kernel
abbrev JR:Stmt:=top 43
abbrev Q0b:List Str:=["keeper","own","off","kept"]
theorem N0:Ax Q0b ["keeper","own","off"] (Ak JR):=by constructor <;> first | rfl | decide +kernel
abbrev JS:Stmt:=top 44
abbrev Q0c:List Str:=["keeper","own"]
theorem Sz:Ax Q0c ["keeper","own"] (Ak JS):=by constructor <;> first | rfl | decide +kernel
abbrev JT:Stmt:=top 45
abbrev Q0d:List Str:=["keeper","own","what","so"]
theorem SB:Ax Q0d ["keeper","own","what","so"] (Ak JT):=by constructor <;> first | rfl | decide +kernel
abbrev K2:Stmt:=Bk (top 60) 0
abbrev Q1t:List Str:=["self","scale","top","bottom"]
theorem Tu:Ax Q1t ["self","scale","top","bottom"] (Ak K2):=by constructor <;> first | rfl | decide +kernel
abbrev JU:Stmt:=top 62
abbrev Q0e:List Str:=["many","push"]
theorem SC:Ax Q0e ["many","push"] (Ak JU):=by constructor <;> first | rfl | decide +kernel
abbrev Kf:Stmt:=top 63
abbrev Q0A:List Str:=["scores","advisers"]
theorem SL:Ax Q0A ["scores","advisers"] (Ak Kf):=by constructor <;> first | rfl | decide +kernel
abbrev FJ:Stmt:=Bk (top 64) 0
abbrev Q1s:List Str:=["self","many","scale","push"]
theorem Tt:Ax Q1s ["self","many","scale","push"] (Ak FJ):=by constructor <;> first | rfl | decide +kernel
abbrev KZ:Stmt:=Bk (top 64) 3
abbrev Q1p:List Str:=["self","said","awake"]
theorem N6:Ax Q1p ["self","said"] (Ak KZ):=by constructor <;> first | rfl | decide +kernel
abbrev K0:Stmt:=Bk (top 64) 4
abbrev Q1q:List Str:=["self","said","so"]
theorem Tr:Ax Q1q ["self","said","so"] (Ak K0):=by constructor <;> first | rfl | decide +kernel
abbrev K1:Stmt:=Bk (top 64) 5
abbrev Q1r:List Str:=["self"]
theorem Ts:Ax Q1r ["self"] (Ak K1):=by constructor <;> first | rfl | decide +kernel
abbrev KR:Stmt:=Bk (top 67) 0
abbrev Q1j:List Str:=["self","many","scale","top","bottom"]
theorem Tk:Ax Q1j ["self","many","scale","top","bottom"] (Ak KR):=by constructor <;> first | rfl | decide +kernel
abbrev KP:Stmt:=Bk (top 69) 0
abbrev Q1h:List Str:=["self","many","scale"]
theorem Ti:Ax Q1h ["self","many","scale"] (Ak KP):=by constructor <;> first | rfl | decide +kernel
abbrev KM:Stmt:=Bk (top 69) 3
abbrev Q1e:List Str:=["self"]
theorem Te:Ax Q1e ["self"] (Ak KM):=by constructor <;> first | rfl | decide +kernel
abbrev KN:Stmt:=Bk (top 69) 4
abbrev Q1f:List Str:=["self","said","so","left"]
theorem N5:Ax Q1f ["self","said","so"] (Ak KN):=by constructor <;> first | rfl | decide +kernel
abbrev KO:Stmt:=Bk (top 69) 5
abbrev Q1g:List Str:=["self"]
theorem Tf:Ax Q1g ["self"] (Ak KO):=by constructor <;> first | rfl | decide +kernel
abbrev KA:Stmt:=Bk (top 71) 0
abbrev Q0U:List Str:=["self","many","scale","top","bottom"]
theorem S4:Ax Q0U ["self","many","scale","top","bottom"] (Ak KA):=by constructor <;> first | rfl | decide +kernel
abbrev Kx:Stmt:=Bk (top 71) 1
abbrev Q0R:List Str:=["self"]
theorem S1:Ax Q0R ["self"] (Ak Kx):=by constructor <;> first | rfl | decide +kernel
abbrev Kw:Stmt:=Bk (top 71) 4
abbrev Q0Q:List Str:=["self","said","so","own"]
theorem N4:Ax Q0Q ["self","said","so"] (Ak Kw):=by constructor <;> first | rfl | decide +kernel
abbrev Ky:Stmt:=Bk (top 71) 5
abbrev Q0S:List Str:=["self","said","so"]
theorem S2:Ax Q0S ["self","said","so"] (Ak Ky):=by constructor <;> first | rfl | decide +kernel
abbrev Kz:Stmt:=Bk (top 71) 6
abbrev Q0T:List Str:=["self"]
theorem S3:Ax Q0T ["self"] (Ak Kz):=by constructor <;> first | rfl | decide +kernel
abbrev KL:Stmt:=Bk (top 73) 0
abbrev Q1d:List Str:=["self","many","scale","top","bottom","share","parts"]
theorem Td:Ax Q1d ["self","many","scale","top","bottom","share","parts"] (Ak KL):=by constructor <;> first | rfl | decide +kernel
abbrev KJ:Stmt:=Bk (top 73) 1
abbrev Q1b:List Str:=["self","dealt","kept"]
theorem JP:Ax Q1b ["self"] (Ak KJ):=by constructor <;> first | rfl | decide +kernel
abbrev KI:Stmt:=Bk (top 73) 2
abbrev Q1a:List Str:=["self","said","so"]
theorem S9:Ax Q1a ["self","said","so"] (Ak KI):=by constructor <;> first | rfl | decide +kernel
abbrev KK:Stmt:=Bk (top 73) 3
abbrev Q1c:List Str:=["self"]
theorem Tc:Ax Q1c ["self"] (Ak KK):=by constructor <;> first | rfl | decide +kernel
abbrev J7:Stmt:=top 75
abbrev Q0s:List Str:=["_law_script","_law_k"]
theorem SE:Ax Q0s ["_law_script","_law_k"] (Ak J7):=by constructor <;> first | rfl | decide +kernel
abbrev J2:Stmt:=top 76
abbrev Q0n:List Str:=["_law_x"]
theorem SD:Ax Q0n ["_law_x"] (Ak J2):=by constructor <;> first | rfl | decide +kernel
abbrev J0:Stmt:=top 77
abbrev Q0l:List Str:=["_law_script","_law_k","_law_x"]
theorem N2:Ax Q0l ["_law_script","_law_k"] (Ak J0):=by constructor <;> first | rfl | decide +kernel
abbrev J6:Stmt:=top 78
abbrev Q0r:List Str:=["_law_many","_law_scale","_law_x","_law_bottom","_law_top","_law_way"]
theorem HB:Ax Q0r ["_law_many","_law_scale","_law_x"] (Ak J6):=by constructor <;> first | rfl | decide +kernel
abbrev J5:Stmt:=top 79
abbrev Q0q:List Str:=["_law_many","_law_scale","_law_x","_law_found","_law_k"]
theorem HA:Ax Q0q ["_law_many","_law_scale","_law_x"] (Ak J5):=by constructor <;> first | rfl | decide +kernel
abbrev JY:Stmt:=top 80
abbrev Q0j:List Str:=["_law_error","_law_marks"]
theorem Gq:Ax Q0j ["_law_error"] (Ak JY):=by constructor <;> first | rfl | decide +kernel
abbrev J3:Stmt:=top 81
abbrev Q0o:List Str:=["_law_hands_here","_law_head","_law_found","e"]
theorem Gs:Ax Q0o ["_law_hands_here","_law_head"] (Ak J3):=by constructor <;> first | rfl | decide +kernel
abbrev J1:Stmt:=top 82
abbrev Q0m:List Str:=["_law_hands_here","_law_head","_law_x","_law_many","_law_scale","_law_at","_law_way","_law_odd_here","_law_other","_law_odds"]
theorem DM:Ax Q0m ["_law_hands_here","_law_head","_law_x"] (Ak J1):=by constructor <;> first | rfl | decide +kernel
abbrev JZ:Stmt:=top 84
abbrev Q0k:List Str:=["_law_many","_law_scale","_law_x","_law_said","_law_so","_law_way"]
theorem Gr:Ax Q0k ["_law_many","_law_scale","_law_x"] (Ak JZ):=by constructor <;> first | rfl | decide +kernel
abbrev J4:Stmt:=top 85
abbrev Q0p:List Str:=["_law_tier","_law_x","_law_said","_law_so","_law_way","_law_good","_law_kept","_law_bad_said"]
theorem Fa:Ax Q0p ["_law_tier","_law_x"] (Ak J4):=by constructor <;> first | rfl | decide +kernel
abbrev FH:Stmt:=top 86
abbrev Q0i:List Str:=["_law_script","_law_x","_law_many","_law_scale","_law_hands_here","_law_head","_law_tier","_law_k","_law_y","_law_some","_law_other","_law_good"]
theorem Df:Ax Q0i ["_law_script"] (Ak FH):=by constructor <;> first | rfl | decide +kernel
abbrev J8:Stmt:=top 83
abbrev Q0t:List Str:=["_law_tier","_law_said","_law_so","_law_hears","_law_found","_law_number","e"]
theorem Fb:Ax Q0t ["_law_tier","_law_said","_law_so","_law_hears"] (Ak J8):=by constructor <;> first | rfl | decide +kernel
abbrev Ki:Stmt:=top 31
abbrev Q0D:List Str:=["many","scale","said","so"]
theorem SO:Ax Q0D ["many","scale","said","so"] (Ak Ki):=by constructor <;> first | rfl | decide +kernel
abbrev Kn:Stmt:=top 30
abbrev Q0I:List Str:=["many","scale","said"]
theorem SU:Ax Q0I ["many","scale","said"] (Ak Kn):=by constructor <;> first | rfl | decide +kernel
abbrev J9:Stmt:=top 83
abbrev Q0u:List Str:=["_law_tier","_law_said","_law_so","_law_hears","_law_found","_law_number","e"]
theorem Fc:Ax Q0u ["_law_tier","_law_said","_law_so","_law_hears"] (Ak J9):=by constructor <;> first | rfl | decide +kernel
structure Txt (K:PySem.W.Frag) (mg:Str->Option Value) (CK2 CK14 CK11 CK10 CK1 CK12 CK4 CK0 CK3 CK8 CK7 CK6 CK9 CK5 CK13:Addr):Prop where
 vh:mg "len" = none
 vk:mg "tuple" = none
 vm:mg "list" = none
 vn:mg "sum" = none
 vo:mg "zip" = none
 vp:mg "sorted" = none
 vq:mg "range" = none
 vt:mg "isinstance" = none
 vv:mg "int" = none
 vw:mg "bool" = none
 vx:mg "all" = none
 vz:mg "any" = none
 xc:mg "enumerate" = none
 xf:mg "abs" = none
 xg:mg "min" = none
 xh:mg "max" = none
 xi:mg "ValueError" = none
 xj:∃ t,mg "MOST_ADVISERS" = some (.int 24 t)
 xk:∃ t,mg "MOST_SCALE" = some (.int 10 t)
 xl:∃ t,mg "MOST_BOTTOM" = some (.int 100 t)
 xm:∃ t,mg "MOST_PARTS" = some (.int 100 t)
 xn:∃ t,mg "MOST_FIGURES" = some (.int 60 t)
 xo:Br K CK2
 xp:mg "Hand" = some (.ref CK2)
 xq:Ao K CK2 "many"
 xr:Ao K CK2 "scale"
 xt:PySem.W.kitOne K (.ref CK2) (.ref CK2)=some true
 xu:PySem.W.kitOne K (.ref CK2) (.type "tuple")=some false
 xw:Br K CK14
 xx:mg "Weigher" = some (.ref CK14)
 xy:Ao K CK14 "many"
 xz:Ao K CK14 "scale"
 bc:Ao K CK14 "top"
 bd:Ao K CK14 "bottom"
 bf:Ao K CK14 "tops"
 bg:Ao K CK14 "under"
 bh:PySem.W.kitOne K (.ref CK14) (.ref CK2)=some true
 bj:PySem.W.kitOne K (.ref CK14) (.type "tuple")=some false
 bn:Br K CK11
 bo:mg "Shifter" = some (.ref CK11)
 bq:Ao K CK11 "many"
 br:Ao K CK11 "scale"
 bu:Ao K CK11 "top"
 bv:Ao K CK11 "bottom"
 bw:Ao K CK11 "tops"
 bx:Ao K CK11 "under"
 bz:Ao K CK11 "share"
 de:Ao K CK11 "parts"
 df:PySem.W.kitOne K (.ref CK11) (.ref CK2)=some true
 dg:PySem.W.kitOne K (.ref CK11) (.type "tuple")=some false
 dh:Br K CK10
 di:mg "Rounder" = some (.ref CK10)
 dj:Ao K CK10 "many"
 dl:Ao K CK10 "scale"
 dm:Ao K CK10 "inside"
 dq:Ao K CK10 "over"
 du:PySem.W.kitOne K (.ref CK10) (.ref CK2)=some true
 dw:PySem.W.kitOne K (.ref CK10) (.type "tuple")=some false
 dy:Br K CK1
 dz:mg "Follower" = some (.ref CK1)
 ee:Ao K CK1 "many"
 ef:Ao K CK1 "scale"
 eg:Ao K CK1 "push"
 ej:Ao K CK1 "reached"
 eo:PySem.W.kitOne K (.ref CK1) (.ref CK2)=some true
 er:PySem.W.kitOne K (.ref CK1) (.type "tuple")=some false
 eu:Br K CK12
 fg:mg "Tier" = some (.ref CK12)
 fh:Ao K CK12 "many"
 fi:Ao K CK12 "scale"
 fj:Ao K CK12 "hands"
 fk:Ao K CK12 "head"
 fm:Ao K CK12 "charged"
 fq:PySem.W.kitOne K (.ref CK12) (.ref CK2)=some true
 ft:Br K CK4
 fu:mg "Meaner" = some (.ref CK4)
 fv:Ao K CK4 "many"
 fw:Ao K CK4 "scale"
 fz:Ao K CK4 "top"
 la:Ao K CK4 "bottom"
 lb:Ao K CK4 "tops"
 lc:Ao K CK4 "under"
 le:PySem.W.kitOne K (.ref CK4) (.ref CK2)=some false
 lf:Br K CK0
 lg:mg "Book" = some (.ref CK0)
 lh:Ao K CK0 "scale"
 li:Ao K CK0 "top"
 lj:Ao K CK0 "bottom"
 ll:Ao K CK0 "tops"
 lm:Ao K CK0 "under"
 ln:Ao K CK0 "came"
 lp:PySem.W.kitOne K (.ref CK0) (.ref CK2)=some false
 lq:mg "HeedError" = some (.ref CK3)
 lr:PySem.W.excIn K CK3 CO "ValueError.__new__" = true
 ls:mg "NoTurn" = some (.ref CK8)
 lv:Co K CK8
 lw:PySem.W.findIn K (.ref CK8) "number" = some none
 lx:PySem.W.exmOne K (.ref CK8) (.ref CK3)=some true
 ly:PySem.W.kitOne K (.ref CK8) (.type "ValueError")=some true
 lz:PySem.W.kitOne K (.ref CK8) (.ref CK8)=some true
 ma:PySem.W.kitOne K (.ref CK8) (.ref CK6)=some false
 md:PySem.W.kitOne K (.ref CK8) (.ref CK7)=some false
 mf:PySem.W.kitOne K (.ref CK8) (.ref CK9)=some false
 mh:PySem.W.kitOne K (.ref CK8) (.ref CK5)=some false
 mi:PySem.W.kitOne K (.ref CK8) (.ref CK13)=some false
 mj:mg "NoRule" = some (.ref CK7)
 ml:PySem.W.excIn K CK7 CO "ValueError.__new__" = true
 mm:Co K CK7
 mn:PySem.W.exmOne K (.ref CK7) (.ref CK3)=some true
 mq:PySem.W.kitOne K (.ref CK7) (.type "ValueError")=some true
 mr:PySem.W.kitOne K (.ref CK7) (.ref CK8)=some false
 ms:PySem.W.kitOne K (.ref CK7) (.ref CK6)=some false
 mw:PySem.W.kitOne K (.ref CK7) (.ref CK7)=some true
 mx:PySem.W.kitOne K (.ref CK7) (.ref CK9)=some false
 mz:PySem.W.kitOne K (.ref CK7) (.ref CK5)=some false
 nc:PySem.W.kitOne K (.ref CK7) (.ref CK13)=some false
 ng:mg "NoRow" = some (.ref CK6)
 nh:mg "NoWay" = some (.ref CK9)
 ni:mg "NoName" = some (.ref CK5)
 nj:mg "Twice" = some (.ref CK13)
def B5 (ws:List Int):List Int:=if ws.sum=0 then ws.map (λ_=>1) else ws
theorem Qd (ws:List Int):(B5 ws).length=ws.length:=by unfold B5; split <;> simp
def DE (ws:List Int):Prop:=∀ w∈ws,0<=w
theorem Qc {ws:List Int} (h:DE ws):DE (B5 ws):=by
 unfold B5
 split
 ·intro w hw
  obtain ⟨_,_,rfl⟩:=List.mem_map.mp hw
  decide
 ·exact h
def go (W:Int):Int->List (Int×Int)->Int
 | _,[]=>0
 | r,p::l=>if W<=2*(r+p.2) then p.1 else go W (r+p.2) l
def Fh (ns ws:List Int):Int:=go (B5 ws).sum 0 (B0 AQ (ns.zip (B5 ws)))
def Mt (ns ws:List Int):Prop:=ns.length=ws.length/\ws.length<=63/\DE ws
def NO:List D->D->Prop:=λds d=>∃ ws:List Int,ds=[.tup (ws.map D.int)]/\ws.length<=63/\d=.lst ((B5 ws).map D.int)
def NE:List D->D->Prop:=λds d=>∃ ns ws:List Int,ds=[.tup (ns.map D.int),.tup (ws.map D.int)]/\Mt ns ws/\d=.int (Fh ns ws)
def EH (ns:List Int) (k:Int):Int:=(ns[k.toNat]?).getD 0
def JF:List D->D->Prop:=λds d=>∃ (ns:List Int) (k:Int),ds=[.scr (ns.map D.int),.int k]/\0<=k/\d=.int (EH ns k)
def Ml (f:Int) (ns ws:List Int):Int:=sm (λq=>if q.1<f then q.2 else 0) (ns.zip ws)
def there (f:Int) (ns ws:List Int):Int:=sm (λq=>if q.1=f then q.2 else 0) (ns.zip ws)
def K3 (f:Int) (ns ws:List Int):Bool:=if ns=[] then decide (f=0) else (decide (f∈ns)&&(decide (2*Ml f ns (B5 ws)<(B5 ws).sum)&&decide ((B5 ws).sum<=2*(Ml f ns (B5 ws)+there f ns (B5 ws)))))
theorem Pm (W:Int):∀ (L:List (Int×Int)) (r:Int),2*r<W->W<=2*(r+sm (λq=>q.2) L)->∃ A p B,L=A++p::B/\2*(r+sm (λq=>q.2) A)<W/\W<=2*(r+sm (λq=>q.2) A+p.2)/\go W r L=p.1
 | [],r,h1,h2=>by exfalso; unfold sm at h2; omega
 | p::L,r,h1,h2=>by
  unfold go
  by_cases h:W<=2*(r+p.2)
  ·rw [if_pos h]
   refine ⟨[],p,L,rfl,?_,?_,rfl⟩
   ·show 2*(r+0)<W; omega
   ·show W<=2*(r+0+p.2); omega
  ·rw [if_neg h]
   have h2:W<=2*(r+(p.2+sm (λq=>q.2) L)):=h2
   obtain ⟨A,q,B,e1,e2,e3,e4⟩:=Pm W L (r+p.2) wF wF
   refine ⟨p::A,q,B,by rw [e1]; rfl,?_,?_,e4⟩
   ·show 2*(r+(p.2+sm (λq=>q.2) A))<W; omega
   ·show W<=2*(r+(p.2+sm (λq=>q.2) A)+q.2); omega
theorem R4 {ws:List Int} (h:DE ws):0<=ws.sum:=by
 rw [R3]; exact Hy λa ha=>h a ha
theorem Zu {ws:List Int} (h:DE ws) (hn:ws≠[]):0<(B5 ws).sum:=by
 unfold B5
 split
 ·cases ws with
  | nil=>exact absurd rfl hn
  | cons a l=>
   rw [List.map_cons,List.sum_cons]
   have:0<=(l.map λ_=>(1:Int)).sum:=by rw [Hx]; exact Hy λ_ _=>by decide
   omega
 ·have:=R4 h
  omega
theorem TV {ns ws:List Int} (h:Mt ns ws):K3 (Fh ns ws) ns ws=true:=by
 obtain ⟨h1,h2,h3⟩:=h
 unfold K3
 by_cases hn:ns=[]
 ·rw [if_pos hn]
  subst hn
  have e:Fh [] ws=0:=by unfold Fh B0; simp [go]
  exact decide_eq_true e
 ·rw [if_neg hn]
  have hw:ws≠[]:=by
   intro e; apply hn
   rw [e] at h1
   exact List.eq_nil_of_length_eq_zero h1
  have hp:=Zu h3 hw
  have hc:=Qc h3
  have hl:ns.length=(B5 ws).length:=by rw [Qd]; exact h1
  unfold Fh Ml there
  generalize B5 ws=cs at hp hc hl
  have pm:=Hm AQ (ns.zip cs)
  have pw:=Np GB (ns.zip cs)
  have hs:sm (λq:Int×Int=>q.2) (B0 AQ (ns.zip cs))=cs.sum:=by rw [JM pm,Si hl]
  obtain ⟨A,p,B,e1,e2,e3,e4⟩:=Pm cs.sum (B0 AQ (ns.zip cs)) 0 wF (by rw [hs]; omega)
  rw [e4]
  have nn:∀ q∈B0 AQ (ns.zip cs),0<=q.2:=λq hq=>hc _ (List.of_mem_zip (pm.mem_iff.mp hq)).2
  rw [<- JM (g:=λq:Int×Int=>if q.1<p.1 then q.2 else 0) pm,<- JM (g:=λq:Int×Int=>if q.1=p.1 then q.2 else 0) pm]
  have hm:p.1∈ns:=(List.of_mem_zip (pm.mem_iff.mp (by rw [e1]; exact List.mem_append_right _ List.mem_cons_self):(p.1,p.2)∈ns.zip cs)).1
  rw [e1] at pw nn ⊢
  have pA:∀ q∈A,q.1<=p.1:=λq hq=>by
   have:=(List.pairwise_append.mp pw).2.2 q hq p List.mem_cons_self
   simp [AQ] at this
   omega
  have pB:∀ q∈B,p.1<=q.1:=λq hq=>by
   have:=(List.pairwise_cons.mp (List.pairwise_append.mp pw).2.1).1 q hq
   simp [AQ] at this
   omega
  have b1:sm (λq:Int×Int=>if q.1<p.1 then q.2 else 0) (A++p::B)<=sm (λq=>q.2) A:=by
   rw [JN]
   have z:sm (λq:Int×Int=>if q.1<p.1 then q.2 else 0) (p::B)=0:=by
    rw [NU (h:=λ_=>0),NS]
    intro a ha
    rcases List.mem_cons.mp ha with rfl | ha
    ·exact if_neg wF
    ·exact if_neg (by have:=pB a ha; omega)
   rw [z]
   have:=NT (l:=A) (g:=λq:Int×Int=>if q.1<p.1 then q.2 else 0) (h:=λq=>q.2) λa ha=>by
    have:=nn a (List.mem_append_left _ ha)
    try dsimp only
    split <;> omega
   omega
  have b2:sm (λq=>q.2) A+p.2<=sm (λq:Int×Int=>if q.1<p.1 then q.2 else 0) (A++p::B)+sm (λq:Int×Int=>if q.1=p.1 then q.2 else 0) (A++p::B):=by
   rw [<- Sl,JN]
   have z:p.2<=sm (λq:Int×Int=>(if q.1<p.1 then q.2 else 0)+(if q.1=p.1 then q.2 else 0)) (p::B):=by
    show p.2<=((if p.1<p.1 then p.2 else 0)+(if p.1=p.1 then p.2 else 0))+sm _ B
    rw [if_neg wF,if_pos rfl]
    have:=Hy (l:=B) (g:=λq:Int×Int=>(if q.1<p.1 then q.2 else 0)+(if q.1=p.1 then q.2 else 0)) λa ha=>by
     have:=nn a (List.mem_append_right _ (List.mem_cons_of_mem _ ha))
     try dsimp only
     split <;> split <;> omega
    omega
   have:=NU (l:=A) (g:=λq:Int×Int=>q.2) (h:=λq=>(if q.1<p.1 then q.2 else 0)+(if q.1=p.1 then q.2 else 0)) λa ha=>by
    have:=pA a ha
    try dsimp only
    split <;> split <;> omega
   omega
  rw [decide_eq_true hm,decide_eq_true wF,decide_eq_true wF]
  rfl
def od:Option Int->D
 | none=>.non
 | some i=>.int i
def ab (i:Int):Int:=if i<0 then -i else i
def EG:Option Int->Int->Int
 | none,_=>0
 | some w,z=>ab (w-z)
def BT (said:List (Option Int)) (k:Nat):Option Int:=(said[k]?).getD none
def ax (said:List (Option Int)):List Nat:=(List.range said.length).filter λk=>(BT said k).isSome
def Ee (said:List (Option Int)):List Int:=(ax said).map λk=>(BT said k).getD 0
def EU (said:List (Option Int)) (ws:List Int):List Int:=(ax said).map λk=>ws.getD k 0
def BM (said:List (Option Int)) (ws:List Int):Int:=Fh (Ee said) (EU said ws)
theorem QY (said:List (Option Int)):said.zipIdx=(List.range said.length).map λk=>(BT said k,k):=by
 refine List.ext_getElem? λi=>?_
 rw [List.getElem?_zipIdx,List.getElem?_map]
 by_cases h:i<said.length
 ·rw [List.getElem?_range h,List.getElem?_eq_getElem h]
  simp [BT,h]
 ·rw [List.getElem?_eq_none wF,List.getElem?_eq_none (by simp; omega)]
  rfl
theorem XG (w:Option Int):(!Ej (od w))=w.isSome:=by cases w <;> rfl
theorem ZZ (said:List (Option Int)):(said.zipIdx.filterMap λq=>if (!Ej (od q.1))=true then some (D.int (q.2:Nat)) else none)=(ax said).map λk=>D.int (k:Nat):=by
 rw [Yk (λq:Option Int×Nat=>!Ej (od q.1)) (λq=>D.int (q.2:Nat)),QY,List.filter_map,List.map_map]
 unfold ax
 congr 1
 exact List.filter_congr λk _=>XG _
theorem at2 {said:List (Option Int)} {k:Nat} (h:k<said.length):Bf (said.map od) (k:Int)=some (od (BT said k)):=by
 refine Fq ?_
 rw [List.getElem?_map,List.getElem?_eq_getElem h]
 simp [BT,h]
theorem II {said:List (Option Int)} {k:Nat} (h:k∈ax said):k<said.length:=List.mem_range.mp (List.mem_filter.mp h).1
theorem ZY {said:List (Option Int)} {k:Nat} (h:k∈ax said):od (BT said k)=.int ((BT said k).getD 0):=by
 have:=(List.mem_filter.mp h).2
 cases e:BT said k with
 | none=>rw [e] at this; cases this
 | some w=>rfl
theorem Qw {said:List (Option Int)} {k:Nat} (h:k∈ax said):Bf (said.map od) (k:Int)=some (.int ((BT said k).getD 0)):=by rw [at2 (II h),ZY h]
theorem Qu {ws:List Int} {k:Nat} (h:k<ws.length):Bf (ws.map D.int) (k:Int)=some (.int (ws.getD k 0)):=by
 refine Fq ?_
 rw [List.getElem?_map,List.getElem?_eq_getElem h]
 simp [List.getD,h]
theorem Mm (said:List (Option Int)):(ax said).length<=said.length:=by
 have:=List.length_filter_le (λk=>(BT said k).isSome) (List.range said.length)
 rw [List.length_range] at this
 exact this
theorem M8 {said:List (Option Int)} {ws:List Int} (hs:said.length<=24) (hw:DE ws):Mt (Ee said) (EU said ws):=by
 refine ⟨by unfold Ee EU; rw [List.length_map,List.length_map],?_,λw h=>?_⟩
 ·unfold EU; rw [List.length_map]; have:=Mm said; omega
 ·obtain ⟨k,_,rfl⟩:=List.mem_map.mp h
  by_cases hk:k<ws.length
  ·rw [List.getD_eq_getElem?_getD,List.getElem?_eq_getElem hk]
   exact hw _ (List.getElem_mem hk)
  ·rw [List.getD_eq_getElem?_getD,List.getElem?_eq_none wF]
   exact Int.le_refl _
def DO (s:Int):Option Int->Bool
 | none=>false
 | some i=>decide (0<=i)&&decide (i<=s)
def Bx (m s:Int) (said:List (Option Int)):Prop:=(said.length:Int)=m/\m<=24/\∀ w∈said,w=none\/DO s w=true
def JE:List D->D->Prop:=λds d=>∃ (m s:Int) (said:List (Option Int)),ds=[.int m,.int s,.tup (said.map od)]/\Bx m s said/\d=.non
def FC:List D->D->Prop:=λds d=>∃ (x:Str) (v l h:Int),ds=[.str x,.int v,.int l,.int h]/\(l<=v/\v<=h)/\d=.non
def Js:List D->D->Prop:=λds d=>∃ m s:Int,ds=[.int m,.int s]/\(1<=m/\m<=24)/\(1<=s/\s<=10)/\d=.non
def Jq:List D->D->Prop:=λds d=>∃ s:Int,ds=[.int s]/\(1<=s/\s<=10)/\d=.non
def Hu:List D->D->Prop:=λds d=>∃ t b:Int,ds=[.int t,.int b]/\(0<=t/\t<b/\b<=100)/\d=.non
def JG:List D->D->Prop:=λds d=>∃ said:List (Option Int),ds=[.tup (said.map od)]/\said.length<=24/\d=.lst ((ax said).map λk=>D.int (k:Nat))
def NG:List D->D->Prop:=λds d=>∃ (said:List (Option Int)) (ws:List Int),ds=[.tup (said.map od),.tup (ws.map D.int)]/\said.length<=24/\ws.length=said.length/\DE ws/\d=.int (BM said ws)
def Bl (m s:Int):List (Str×D):=[("many",.int m),("scale",.int s)]
def Bs (m s t b:Int) (ws:List Int) (u:Int):List (Str×D):=[("many",.int m),("scale",.int s),("top",.int t),("bottom",.int b),("tops",.tup (ws.map D.int)),("under",.int u)]
theorem Az {f g:Str} {d x:D} {r:List (Str×D)} (h:(g=f)->False):AX f d ((g,x)::r)=(g,x)::AX f d r:=by
 show (if g=f then (g,d)::r else (g,x)::AX f d r)=_
 rw [if_neg h]
theorem ED {f:Str} {d x:D} {r:List (Str×D)}:AX f d ((f,x)::r)=(f,d)::r:=by
 show (if f=f then (f,d)::r else (f,x)::AX f d r)=_
 rw [if_pos rfl]
theorem Up (m s:Int):AX "scale" (.int s) (AX "many" (.int m) [])=Bl m s:=by
 show AX "scale" (.int s) [("many",.int m)]=_
 rw [Az wD]
 rfl
def f3 (m s t:Int):List (Str×D):=[("many",.int m),("scale",.int s),("top",.int t)]
def f4 (m s t b:Int):List (Str×D):=[("many",.int m),("scale",.int s),("top",.int t),("bottom",.int b)]
def f5 (m s t b:Int) (d:D):List (Str×D):=[("many",.int m),("scale",.int s),("top",.int t),("bottom",.int b),("tops",d)]
theorem Uh (m s t:Int):AX "top" (.int t) (Bl m s)=f3 m s t:=by
 unfold Bl
 rw [Az wD,Az wD]
 rfl
theorem Ut (m s t b:Int):AX "bottom" (.int b) (f3 m s t)=f4 m s t b:=by
 unfold f3
 rw [Az wD,Az wD,Az wD]
 rfl
theorem Ug (m s t b:Int) (d:D):AX "tops" d (f4 m s t b)=f5 m s t b d:=by
 unfold f4
 rw [Az wD,Az wD,Az wD,Az wD]
 rfl
theorem Uf (m s t b u:Int) (ws:List Int):AX "under" (.int u) (f5 m s t b (.tup (ws.map D.int)))=Bs m s t b ws u:=by
 unfold f5
 rw [Az wD,Az wD,Az wD,Az wD,Az wD]
 rfl
theorem Bj {f:Str} {d:D} {r:List (Str×D)}:List.lookup f ((f,d)::r)=some d:=by rw [List.lookup_cons,beq_self_eq_true]
theorem Aq {f g:Str} {d:D} {r:List (Str×D)} (h:(f==g)=false):List.lookup f ((g,d)::r)=List.lookup f r:=by rw [List.lookup_cons,h]
section
variable (m s t b u:Int) (ws:List Int)
theorem GH:(Bl m s).lookup ("many" : Str)=some (.int m):=Bj
theorem Ii:(Bl m s).lookup ("scale" : Str)=some (.int s):=by unfold Bl; rw [Aq wD,Bj]
theorem XY:(Bl m s).lookup ("heeded" : Str)=none:=by unfold Bl; rw [Aq wD,Aq wD]; rfl
theorem Je:(Bs m s t b ws u).lookup ("many" : Str)=some (.int m):=Bj
theorem Jd:(Bs m s t b ws u).lookup ("scale" : Str)=some (.int s):=by unfold Bs; rw [Aq wD,Bj]
theorem MU:(Bs m s t b ws u).lookup ("top" : Str)=some (.int t):=by unfold Bs; rw [Aq wD,Aq wD,Bj]
theorem MW:(Bs m s t b ws u).lookup ("bottom" : Str)=some (.int b):=by unfold Bs; rw [Aq wD,Aq wD,Aq wD,Bj]
theorem Q9:(Bs m s t b ws u).lookup ("tops" : Str)=some (.tup (ws.map D.int)):=by unfold Bs; rw [Aq wD,Aq wD,Aq wD,Aq wD,Bj]
theorem Q8:(Bs m s t b ws u).lookup ("under" : Str)=some (.int u):=by unfold Bs; rw [Aq wD,Aq wD,Aq wD,Aq wD,Aq wD,Bj]
theorem MV {f:Str} (h:([("many" : Str),"scale","top","bottom","tops","under"].all λg=>!(f==g))=true):(Bs m s t b ws u).lookup f=none:=by
 simp only [List.all_cons,List.all_nil,Bool.and_true,Bool.and_eq_true,Bool.not_eq_true'] at h
 obtain ⟨h1,h2,h3,h4,h5,h6⟩:=h
 unfold Bs
 rw [Aq h1,Aq h2,Aq h3,Aq h4,Aq h5,Aq h6]
 rfl
end
def NI (CK2:Addr):AE:=λds O R=>∃ (q:Nat) (m s:Int),ds=[.ptr q]/\O[q]?=some (some (.ins CK2 (Bl m s)))/\(1<=m/\m<=24)/\R (.tup ((List.replicate m.toNat (1:Int)).map D.int)) O
theorem Bh {O:Ae} {q:Nat} {x y:Option MO} (h:O[q]?=some x):(O.set q y)[q]?=some y:=by
 have:=(List.getElem?_eq_some_iff.mp h).1
 rw [List.getElem?_set_self this]
theorem OE (n:Nat):(List.replicate n [D.int 1]).flatten=(List.replicate n (1:Int)).map D.int:=by rw [K6,List.map_replicate]
theorem Y1 (a b:D):CU (.tup [a,b]) (.tup [a,b])=(CU a a&&(CU b b&&true)):=rfl
theorem YZ (a:List Int):CU (.tup (a.map D.int)) (.tup (a.map D.int))=true:=by rw [Y2,decide_eq_true rfl]
theorem Ou (a:List Int) (i:Int):B1 (.tup [.tup (a.map D.int),.int i])=true:=by
 show (C7 (a.map D.int)&&(true&&true))=true
 rw [UJ]; rfl
theorem Zd (a:List Int) (i:Int):CV (.tup [.tup (a.map D.int),.int i])<=60:=by
 have:=Zg a
 show max (DB (a.map D.int)+1) (max 0 0)+1<=60
 omega
def Ho:List D->D->Prop:=λds d=>∃ b n:Int,ds=[.int b,.int n]/\(0<=b/\b<=1000)/\(0<=n/\n<=60000)/\d=.int (b ^ n.toNat)
theorem Ot {a b:Int} (h0:0<=a) (h:a<=b):∀ n:Nat,a ^ n<=b ^ n
 | 0=>by simp
 | n+1=>by
  rw [Int.pow_succ,Int.pow_succ]
  exact Int.mul_le_mul (Ot h0 h n) h h0 (Int.pow_nonneg (Int.le_trans h0 h))
theorem Sh {a:Int} (h0:0<=a) (h:a<256) (n:Nat):0<=a ^ n/\a ^ n<2 ^ (8*n+1):=by
 refine ⟨Int.pow_nonneg h0,?_⟩
 have h1:a ^ n<=256 ^ n:=Ot h0 (Int.le_of_lt h) n
 have h2:(2:Int) ^ (8*n+1)=256 ^ n*2:=by rw [Int.pow_succ,Int.pow_mul]; rfl
 have h3:(0:Int)<256 ^ n:=Int.pow_pos wE
 rw [h2]
 omega
def FF:List D->D->Prop:=λds d=>∃ (w:Option Int) (z:Int),ds=[od w,.int z]/\d=.int (EG w z)
def tA (t b sc own off:Int):Int:=t ^ off.toNat*b ^ (sc-off).toNat*2*b ^ own.toNat
def tS (t b sc own:Int):Int:=b ^ sc.toNat*(b ^ own.toNat+t ^ own.toNat)
def tF (t b sc own so:Int):Option Int->Int
 | none=>tS t b sc own
 | some x=>tA t b sc own (ab (x-so))
def CD (t b sc d so:Int) (said:List (Option Int)) (ws:List Int):List Int:=(ws.zip said).map λp=>p.1*tF t b sc d so p.2
structure Fv (sc t b:Int):Prop where
 s1:1<=sc
 s2:sc<=10
 t0:0<=t
 tb:t<b
 b2:b<=100
theorem Dh {x y:Int} {a c:Nat} (x0:0<=x) (x1:x<2 ^ a) (y0:0<=y) (y1:y<2 ^ c):0<=x*y/\x*y<2 ^ (a+c):=by
 refine ⟨Int.mul_nonneg x0 y0,?_⟩
 rw [Int.pow_add]
 by_cases h:y=0
 ·subst h
  rw [Int.mul_zero]
  exact Int.mul_pos (Int.pow_pos wE) (Int.pow_pos wE)
 ·have h1:x*y<2 ^ a*y:=Int.mul_lt_mul_of_pos_right x1 wF
  have h2:2 ^ a*y<=2 ^ a*2 ^ c:=Int.mul_le_mul_of_nonneg_left (Int.le_of_lt y1) (Int.pow_nonneg wE)
  omega
theorem Fd {x:Int} {a c:Nat} (h:x<2 ^ a) (hc:a<=c):x<2 ^ c:=by
 obtain ⟨d,rfl⟩:=Nat.exists_eq_add_of_le hc
 have h1:(1:Int)<=2 ^ d:=Int.pow_pos wE
 have h2:(0:Int)<=2 ^ a:=Int.pow_nonneg wE
 have:=Int.mul_le_mul_of_nonneg_left h1 h2
 rw [Int.pow_add]
 omega
theorem Dg {x:Int} {e:Int} (h0:0<=x) (h1:x<=100) (he:e<=10):0<=x ^ e.toNat/\x ^ e.toNat<2 ^ 81:=by
 have:=Sh h0 (show x<256 by omega) e.toNat
 exact ⟨this.1,Fd this.2 wF⟩
theorem R1 {sc t b own off:Int} (h:Fv sc t b) (ho:own<=sc) (hf:0<=off/\off<=sc):0<=tA t b sc own off/\tA t b sc own off<2 ^ 250:=by
 have:=h.s1; have:=h.s2; have:=h.t0; have:=h.tb; have:=h.b2
 have a1:=Dg (x:=t) (e:=off) h.t0 wF wF
 have a2:=Dg (x:=b) (e:=sc-off) wF wF wF
 have a3:=Dg (x:=b) (e:=own) wF wF wF
 have b1:=Dh a1.1 a1.2 a2.1 a2.2
 have b2:=Dh (c:=2) b1.1 b1.2 (show (0:Int)<=2 by decide) wE
 have b3:=Dh b2.1 b2.2 a3.1 a3.2
 exact ⟨b3.1,Fd b3.2 wE⟩
theorem Hj {sc t b own:Int} (h:Fv sc t b) (ho:own<=sc):0<=tS t b sc own/\tS t b sc own<2 ^ 250:=by
 have:=h.s1; have:=h.s2; have:=h.t0; have:=h.tb; have:=h.b2
 have a1:=Dg (x:=b) (e:=sc) wF wF wF
 have a2:=Dg (x:=b) (e:=own) wF wF wF
 have a3:=Dg (x:=t) (e:=own) h.t0 wF wF
 have e:(2:Int) ^ 82=2 ^ 81+2 ^ 81:=by decide
 have b1:=Dh (y:=b ^ own.toNat+t ^ own.toNat) (c:=82) a1.1 a1.2 wF (by rw [e]; omega)
 exact ⟨b1.1,Fd b1.2 wE⟩
theorem HL {s x:Int} (h:DO s (some x)=true):0<=x/\x<=s:=by
 have h:(decide (0<=x)&&decide (x<=s))=true:=h
 rw [Bool.and_eq_true] at h
 exact ⟨of_decide_eq_true h.1,of_decide_eq_true h.2⟩
theorem IJ {s x so:Int} (h:0<=x/\x<=s) (hs:0<=so/\so<=s):0<=ab (x-so)/\ab (x-so)<=s:=by
 unfold ab
 split <;> omega
theorem Jj {sc t b own so:Int} {w:Option Int} (h:Fv sc t b) (ho:own<=sc) (hs:0<=so/\so<=sc) (hw:w=none\/DO sc w=true):0<=tF t b sc own so w/\tF t b sc own so w<2 ^ 250:=by
 cases w with
 | none=>exact Hj h ho
 | some x=>
  rcases hw with hw | hw
  ·cases hw
  ·exact R1 h ho (IJ (HL hw) hs)
theorem GE {m sc:Int} {said:List (Option Int)} {ws:List Int} (hs:Bx m sc said) (h0:0<=sc) (hw:DE ws):0<=BM said ws/\BM said ws<=sc:=by
 have h24:said.length<=24:=by have:=hs.1; have:=hs.2.1; omega
 have hr:=TV (M8 (ws:=ws) h24 hw)
 unfold BM
 unfold K3 at hr
 by_cases hn:Ee said=[]
 ·rw [if_pos hn] at hr
  rw [of_decide_eq_true hr]
  omega
 ·rw [if_neg hn,Bool.and_eq_true] at hr
  have hm:=of_decide_eq_true hr.1
  unfold Ee at hm
  obtain ⟨k,hk,e⟩:=List.mem_map.mp hm
  have hlt:=II hk
  have hq:=(List.mem_filter.mp hk).2
  unfold Ee
  rw [<- e]
  have hmem:BT said k∈said:=by
   unfold BT
   rw [List.getElem?_eq_getElem hlt]
   exact List.getElem_mem hlt
  cases hx:BT said k with
  | none=>rw [hx] at hq; cases hq
  | some x=>
   rw [hx] at hmem
   rcases hs.2.2 _ hmem with h | h
   ·cases h
   ·exact HL h
def FE:List D->D->Prop:=λds d=>∃ (m s:Int) (said:List (Option Int)) (so:Int),ds=[.int m,.int s,.tup (said.map od),.int so]/\Bx m s said/\(0<=so/\so<=s)/\d=.non
theorem Q7 (m s t b u:Int) (ws vs:List Int):AX "tops" (.tup (vs.map D.int)) (Bs m s t b ws u)=Bs m s t b vs u:=by
 unfold Bs
 rw [Az wD,Az wD,Az wD,Az wD,ED]
theorem Q6 (m s t b u v:Int) (ws:List Int):AX "under" (.int v) (Bs m s t b ws u)=Bs m s t b ws v:=by
 unfold Bs
 rw [Az wD,Az wD,Az wD,Az wD,Az wD,ED]
theorem HS {t b sc dd so:Int} {said:List (Option Int)} {ws:List Int} (h:ws.length=said.length):(CD t b sc dd so said ws).length=ws.length:=by
 unfold CD
 rw [List.length_map,List.length_zip]
 omega
def DP (x:Int):Int:=(x*x+48271*x+11)%2147483647
def Lo (x:Int):Prop:=0<=x/\x<2147483647
theorem Lp (x:Int):Lo (DP x):=by unfold Lo DP; omega
def Gp (c k:Int):Int:=DP (DP ((c%2147483647+69621*k*k+5)%2147483647))
theorem NX (c k:Int):Lo (Gp c k):=Lp _
def Hr:List D->D->Prop:=λds d=>∃ x:Int,ds=[.int x]/\(0<=x/\x<3000000000)/\d=.int (DP x)
def Ny:List D->D->Prop:=λds d=>∃ (ns:List Int) (k:Int),ds=[.scr (ns.map D.int),.int k]/\(0<=k/\k<=1000)/\d=.int (Gp (EH ns k) k)
def Rb (s:Int) (sl:Bool) (so k x:Int):Option Int:=if (sl&&decide (x%4=0))=true then none else some (if 1<x/3%(k%7+3) then so else x/16%(s+1))
def TM (s:Int) (sl:Bool) (so:Int):Nat->Nat->Int->List (Option Int)
 | 0,_,_=>[]
 | n+1,k,x=>Rb s sl so (k:Int) (DP (x+(k:Int)))::TM s sl so n (k+1) (DP (x+(k:Int)))
structure SP where
 m:Int
 sc:Int
 t:Int
 b:Int
 sh:Int
 pa:Int
def f7 (m s t b:Int) (ws:List Int) (u sh:Int):List (Str×D):=[("many",.int m),("scale",.int s),("top",.int t),("bottom",.int b),("tops",.tup (ws.map D.int)),("under",.int u),("share",.int sh)]
def Be (p:SP) (ws:List Int) (u:Int):List (Str×D):=[("many",.int p.m),("scale",.int p.sc),("top",.int p.t),("bottom",.int p.b),("tops",.tup (ws.map D.int)),("under",.int u),("share",.int p.sh),("parts",.int p.pa)]
theorem Ui (m s t b u sh:Int) (ws:List Int):AX "share" (.int sh) (Bs m s t b ws u)=f7 m s t b ws u sh:=by
 unfold Bs
 rw [Az wD,Az wD,Az wD,Az wD,Az wD,Az wD]
 rfl
theorem Ul (m s t b u sh pa:Int) (ws:List Int):AX "parts" (.int pa) (f7 m s t b ws u sh)=Be ⟨m,s,t,b,sh,pa⟩ ws u:=by
 unfold f7
 rw [Az wD,Az wD,Az wD,Az wD,Az wD,Az wD,Az wD]
 rfl
theorem Nt (p:SP) (u:Int) (ws vs:List Int):AX "tops" (.tup (vs.map D.int)) (Be p ws u)=Be p vs u:=by
 unfold Be
 rw [Az wD,Az wD,Az wD,Az wD,ED]
theorem Nr (p:SP) (u v:Int) (ws:List Int):AX "under" (.int v) (Be p ws u)=Be p ws v:=by
 unfold Be
 rw [Az wD,Az wD,Az wD,Az wD,Az wD,ED]
section
variable (p:SP) (u:Int) (ws:List Int)
theorem Gc:(Be p ws u).lookup ("many" : Str)=some (.int p.m):=Bj
theorem IX:(Be p ws u).lookup ("scale" : Str)=some (.int p.sc):=by unfold Be; rw [Aq wD,Bj]
theorem MM:(Be p ws u).lookup ("top" : Str)=some (.int p.t):=by unfold Be; rw [Aq wD,Aq wD,Bj]
theorem MN:(Be p ws u).lookup ("bottom" : Str)=some (.int p.b):=by unfold Be; rw [Aq wD,Aq wD,Aq wD,Bj]
theorem IV:(Be p ws u).lookup ("tops" : Str)=some (.tup (ws.map D.int)):=by unfold Be; rw [Aq wD,Aq wD,Aq wD,Aq wD,Bj]
theorem ML:(Be p ws u).lookup ("under" : Str)=some (.int u):=by unfold Be; rw [Aq wD,Aq wD,Aq wD,Aq wD,Aq wD,Bj]
theorem IW:(Be p ws u).lookup ("share" : Str)=some (.int p.sh):=by unfold Be; rw [Aq wD,Aq wD,Aq wD,Aq wD,Aq wD,Aq wD,Bj]
theorem IY:(Be p ws u).lookup ("parts" : Str)=some (.int p.pa):=by unfold Be; rw [Aq wD,Aq wD,Aq wD,Aq wD,Aq wD,Aq wD,Aq wD,Bj]
theorem IZ {f:Str} (h:([("many" : Str),"scale","top","bottom","tops","under","share","parts"].all λg=>!(f==g))=true):(Be p ws u).lookup f=none:=by
 simp only [List.all_cons,List.all_nil,Bool.and_true,Bool.and_eq_true,Bool.not_eq_true'] at h
 obtain ⟨h1,h2,h3,h4,h5,h6,h7,h8⟩:=h
 unfold Be
 rw [Aq h1,Aq h2,Aq h3,Aq h4,Aq h5,Aq h6,Aq h7,Aq h8]
 rfl
end
structure F1 (p:SP):Prop where
 f:Fv p.sc p.t p.b
 m1:1<=p.m
 m2:p.m<=24
 h1:1<=p.sh
 h2:p.sh<p.pa
 h3:p.pa<=100
def IN (C:Addr) (O:Ae) (q:Nat) (p:SP) (ws:List Int) (u:Int):Prop:=O[q]?=some (some (.ins C (Be p ws u)))
structure DX (n:Nat) (ws:List Int) (u:Int):Prop where
 w:∀ x∈ws,0<=x/\x<2 ^ (270*(n+1))
 u0:0<=u
 u1:u<2 ^ (270*(n+1))
theorem Jf (n:Nat):DX 0 (List.replicate n 1) 1:=⟨λx hx=>by rw [List.eq_of_mem_replicate hx]; exact ⟨by decide,by decide⟩,by decide,by decide⟩
def DC (p:SP) (ws:List Int):List Int:=ws.map λw=>w*(p.m*(p.pa-p.sh))+p.sh*ws.sum
theorem Zj (p:SP) (ws:List Int):(DC p ws).length=ws.length:=by unfold DC; rw [List.length_map]
theorem O9 {p:SP} (h:F1 p):0<=p.m*(p.pa-p.sh)/\p.m*(p.pa-p.sh)<=2376:=by
 have:=h.m1; have:=h.m2; have:=h.h1; have:=h.h2; have:=h.h3
 have h1:p.m*(p.pa-p.sh)<=24*(p.pa-p.sh):=Int.mul_le_mul_of_nonneg_right wF wF
 have h2:0<=p.m*(p.pa-p.sh):=Int.mul_nonneg wF wF
 omega
theorem Zi {p:SP} {ws:List Int} {e:Nat} (h:F1 p) (hl:ws.length<=24) (hw:∀ x∈ws,0<=x/\x<2 ^ e):∀ x∈DC p ws,0<=x/\x<2 ^ (e+13):=by
 have:=h.h1; have:=h.h2; have:=h.h3
 have hk:=O9 h
 have hE:(1:Int)<=2 ^ e:=Int.pow_pos wE
 have e13:(2:Int) ^ (e+13)=2 ^ e*8192:=by rw [Int.pow_add]; rfl
 have hs0:0<=ws.sum:=by
  have:=Hy (g:=λx:Int=>x) (l:=ws) λv hv=>(hw v hv).1
  rw [<- Hx,List.map_id'] at this
  exact this
 have hs1:ws.sum<=24*2 ^ e:=by
  have:=sm_bd' (g:=λx:Int=>x) (l:=ws) (B:=2 ^ e) (n:=24) wF hl λv hv=>by have:=(hw v hv).2; omega
  rw [<- Hx,List.map_id'] at this
  exact this
 rw [e13]
 generalize (2:Int) ^ e=E at hE hs1 hw
 intro x hx
 obtain ⟨w,hw',rfl⟩:=List.mem_map.mp hx
 have h1:=hw w hw'
 generalize p.m*(p.pa-p.sh)=K at hk
 have a1:w*K<=E*K:=Int.mul_le_mul_of_nonneg_right wF hk.1
 have a2:E*K<=E*2376:=Int.mul_le_mul_of_nonneg_left hk.2 wF
 have a3:p.sh*ws.sum<=99*ws.sum:=Int.mul_le_mul_of_nonneg_right wF hs0
 have a4:0<=p.sh*ws.sum:=Int.mul_nonneg wF hs0
 have a5:0<=w*K:=Int.mul_nonneg h1.1 hk.1
 omega
theorem Re {n:Nat} {p:SP} {dd so u:Int} {said:List (Option Int)} {ws:List Int} (h:F1 p) (hw:DX n ws u) (hl:ws.length=said.length) (h24:said.length<=24) (hs:∀ w∈said,w=none\/DO p.sc w=true) (hso:0<=so/\so<=p.sc) (hd:0<=dd/\dd<=p.sc):DX (n+1) (DC p (CD p.t p.b p.sc dd so said ws)) (u*tS p.t p.b p.sc dd*p.m*p.pa):=by
 have:=h.m1; have:=h.m2; have:=h.h1; have:=h.h2; have:=h.h3
 have h1:=Hj (own:=dd) h.f hd.2
 have h2:=Dh hw.u0 hw.u1 h1.1 h1.2
 have h3:=Dh (c:=5) h2.1 h2.2 (show 0<=p.m by omega) wF
 have h4:=Dh (c:=7) h3.1 h3.2 (show 0<=p.pa by omega) wF
 refine ⟨λx hx=>?_,h4.1,Fd h4.2 wF⟩
 have hb:∀ x∈CD p.t p.b p.sc dd so said ws,0<=x/\x<2 ^ (270*(n+1)+250):=λx hx=>by
  obtain ⟨q,hq,rfl⟩:=List.mem_map.mp hx
  have g3:=hw.w _ (List.of_mem_zip hq).1
  have g4:=Jj h.f hd.2 hso (hs _ (List.of_mem_zip hq).2)
  exact Dh g3.1 g3.2 g4.1 g4.2
 have:=Zi h (by rw [HS hl,hl]; exact h24) hb x hx
 exact ⟨this.1,Fd this.2 wF⟩
def Nx:List D->D->Prop:=λds d=>∃ a b:Int,ds=[.int a,.int b]/\(1<=a/\a<b/\b<=100)/\d=.non
def Jv (C:Addr):AE:=λds O R=>∃ (q:Nat) (p:SP),ds=[.ptr q,.int p.m,.int p.sc,.int p.t,.int p.b,.int p.sh,.int p.pa]/\O[q]?=some (some (.ins C []))/\F1 p/\R .non (O.set q (some (.ins C (Be p (List.replicate p.m.toNat 1) 1))))
def NN (C:Addr):AE:=λds O R=>∃ (q:Nat) (p:SP) (u:Int) (ws:List Int),ds=[.ptr q]/\IN C O q p ws u/\F1 p/\ws.length<=24/\R .non (O.set q (some (.ins C (Be p (DC p ws) (u*p.m*p.pa)))))
def CA (CW CS:Addr):Bool->Addr
 | false=>CW
 | true=>CS
def B3 (sf:Bool) (p:SP) (ws:List Int) (u:Int):List (Str×D):=match sf with
 | false=>Bs p.m p.sc p.t p.b ws u
 | true=>Be p ws u
section
variable (sf:Bool) (p:SP) (u:Int) (ws:List Int)
theorem M0:(B3 sf p ws u).lookup ("many" : Str)=some (.int p.m):=by cases sf; exact Je ..; exact Gc ..
theorem Hg:(B3 sf p ws u).lookup ("scale" : Str)=some (.int p.sc):=by cases sf; exact Jd ..; exact IX ..
theorem MZ:(B3 sf p ws u).lookup ("top" : Str)=some (.int p.t):=by cases sf; exact MU ..; exact MM ..
theorem Hh:(B3 sf p ws u).lookup ("bottom" : Str)=some (.int p.b):=by cases sf; exact MW ..; exact MN ..
theorem MY:(B3 sf p ws u).lookup ("tops" : Str)=some (.tup (ws.map D.int)):=by cases sf; exact Q9 ..; exact IV ..
theorem Rh:(B3 sf p ws u).lookup ("under" : Str)=some (.int u):=by cases sf; exact Q8 ..; exact ML ..
theorem Gd {f:Str} (h:([("many" : Str),"scale","top","bottom","tops","under"].all λg=>!(f==g))=true) (h2:([("many" : Str),"scale","top","bottom","tops","under","share","parts"].all λg=>!(f==g))=true):(B3 sf p ws u).lookup f=none:=by
 cases sf
 ·exact MV _ _ _ _ _ _ h
 ·exact IZ _ _ _ h2
theorem MX:(B3 sf p ws u).length<1000:=by cases sf; show 6<1000; decide; show 8<1000; decide
theorem Rg (vs:List Int):AX "tops" (.tup (vs.map D.int)) (B3 sf p ws u)=B3 sf p vs u:=by cases sf; exact Q7 ..; exact Nt ..
theorem Rf (v:Int):AX "under" (.int v) (B3 sf p ws u)=B3 sf p ws v:=by cases sf; exact Q6 ..; exact Nr ..
end
def EI (CW CS:Addr) (O:Ae) (q:Nat) (sf:Bool) (p:SP) (ws:List Int) (u:Int):Prop:=O[q]?=some (some (.ins (CA CW CS sf) (B3 sf p ws u)))
structure Dn (sf:Bool) (p:SP):Prop where
 f:Fv p.sc p.t p.b
 m1:1<=p.m
 m2:p.m<=24
 s:sf=true->1<=p.sh/\p.sh<p.pa/\p.pa<=100
theorem Dn.so {p:SP} (h:Dn true p):F1 p:=⟨h.f,h.m1,h.m2,(h.s rfl).1,(h.s rfl).2.1,(h.s rfl).2.2⟩
def Ih (sf:Bool) (p:SP) (said:List (Option Int)) (so:Int) (ws:List Int):List Int:=match sf with
 | false=>CD p.t p.b p.sc (ab (BM said ws-so)) so said ws
 | true=>DC p (CD p.t p.b p.sc (ab (BM said ws-so)) so said ws)
def LL (sf:Bool) (p:SP) (said:List (Option Int)) (so:Int) (ws:List Int) (u:Int):Int:=match sf with
 | false=>u*tS p.t p.b p.sc (ab (BM said ws-so))
 | true=>u*tS p.t p.b p.sc (ab (BM said ws-so))*p.m*p.pa
section
variable {P:Program} {w:World} {K:PySem.W.Frag} {mg:Str->Option Value} {base:Heap} {CW CS:Addr} {k1 k2:Nat} {m:Str} {sp:AE} {sq:Bool->AE}
theorem cv (h1:Bn K CW) (h2:Bn K CS) (sf:Bool):Bn K (CA CW CS sf):=by cases sf; exact h1; exact h2
theorem nv (h1:Ao K CW m) (h2:Ao K CS m) (sf:Bool):Ao K (CA CW CS sf) m:=by cases sf; exact h1; exact h2
theorem mv (h1:AI P w K mg base CW k1 m sp) (h2:AI P w K mg base CS k1 m sp) (sf:Bool):AI P w K mg base (CA CW CS sf) k1 m sp:=by cases sf; exact h1; exact h2
theorem mv2 (h1:AI P w K mg base CW k1 m (sq false)) (h2:AI P w K mg base CS k2 m (sq true)) (sf:Bool):AI P w K mg base (CA CW CS sf) (max k1 k2) m (sq sf):=by cases sf; exact h1.mono (Nat.le_max_left _ _); exact h2.mono (Nat.le_max_right _ _)
end
def Gk (CW CS:Addr):AE:=λds O R=>∃ (q:Nat) (sf:Bool) (p:SP),ds=[.ptr q,.int p.m,.int p.sc,.int p.t,.int p.b]/\O[q]?=some (some (.ins (CA CW CS sf) []))/\Dn false p/\R .non (O.set q (some (.ins (CA CW CS sf) (Bs p.m p.sc p.t p.b (List.replicate p.m.toNat 1) 1))))
def Jx (CW CS:Addr):AE:=λds O R=>∃ (q:Nat) (sf:Bool) (p:SP) (u:Int) (ws:List Int),ds=[.ptr q]/\EI CW CS O q sf p ws u/\R (.tup (ws.map D.int)) O
def Nw (CW CS:Addr):AE:=λds O R=>∃ (q:Nat) (sf:Bool) (p:SP) (u own off:Int) (ws:List Int),ds=[.ptr q,.int own,.int off]/\EI CW CS O q sf p ws u/\Dn sf p/\(0<=own/\own<=p.sc)/\(0<=off/\off<=p.sc)/\R (.int (tA p.t p.b p.sc own off)) O
def Jp (CW CS:Addr):AE:=λds O R=>∃ (q:Nat) (sf:Bool) (p:SP) (u own:Int) (ws:List Int),ds=[.ptr q,.int own]/\EI CW CS O q sf p ws u/\Dn sf p/\(0<=own/\own<=p.sc)/\R (.int (tS p.t p.b p.sc own)) O
def Nv (CW CS:Addr):AE:=λds O R=>∃ (q:Nat) (sf:Bool) (p:SP) (u own so:Int) (w:Option Int) (ws:List Int),ds=[.ptr q,.int own,od w,.int so]/\EI CW CS O q sf p ws u/\Dn sf p/\(0<=own/\own<=p.sc)/\(0<=so/\so<=p.sc)/\(w=none\/DO p.sc w=true)/\R (.int (tF p.t p.b p.sc own so w)) O
def Jn (CW CS:Addr):AE:=λds O R=>∃ (q n:Nat) (sf:Bool) (p:SP) (u so:Int) (said:List (Option Int)) (ws:List Int),ds=[.ptr q,.tup (said.map od),.int so]/\EI CW CS O q sf p ws u/\Dn sf p/\n<=1000/\DX n ws u/\(ws.length:Int)=p.m/\Bx p.m p.sc said/\(0<=so/\so<=p.sc) /\
 R .non (O.set q (some (.ins (CA CW CS sf) (B3 sf p (CD p.t p.b p.sc (ab (BM said ws-so)) so said ws) (u*tS p.t p.b p.sc (ab (BM said ws-so)))))))
def EV (CW CS:Addr) (sf:Bool):AE:=λds O R=>∃ (q n:Nat) (p:SP) (u so:Int) (said:List (Option Int)) (ws:List Int),ds=[.ptr q,.tup (said.map od),.int so]/\EI CW CS O q sf p ws u/\Dn sf p/\n<=1000/\DX n ws u/\(ws.length:Int)=p.m/\Bx p.m p.sc said/\(0<=so/\so<=p.sc) /\
 R .non (O.set q (some (.ins (CA CW CS sf) (B3 sf p (Ih sf p said so ws) (LL sf p said so ws u)))))
def EX (CW CS:Addr) (sf:Bool):AE:=λds O R=>∃ (q:Nat) (p:SP) (u:Int) (ws:List Int),ds=[.ptr q]/\EI CW CS O q sf p ws u/\Dn sf p/\R (.ptr O.length) (O++[some (.ins (CA CW CS sf) (B3 sf p (List.replicate p.m.toNat 1) 1))])
theorem Rc {n:Nat} {t b sc dd so u:Int} {said:List (Option Int)} {ws:List Int} (hf:Fv sc t b) (hw:DX n ws u) (hs:∀ w∈said,w=none\/DO sc w=true) (hso:0<=so/\so<=sc) (hd:0<=dd/\dd<=sc):DX (n+1) (CD t b sc dd so said ws) (u*tS t b sc dd):=by
 have h1:=Hj (own:=dd) hf hd.2
 have h2:=Dh hw.u0 hw.u1 h1.1 h1.2
 refine ⟨λx hx=>?_,h2.1,Fd h2.2 wF⟩
 obtain ⟨p,hp,rfl⟩:=List.mem_map.mp hx
 have h3:=hw.w _ (List.of_mem_zip hp).1
 have h4:=Jj hf hd.2 hso (hs _ (List.of_mem_zip hp).2)
 have h5:=Dh h3.1 h3.2 h4.1 h4.2
 exact ⟨h5.1,Fd h5.2 wF⟩
theorem XX {n:Nat} {sf:Bool} {p:SP} {u so:Int} {said:List (Option Int)} {ws:List Int} (h:Dn sf p) (hw:DX n ws u) (hl:(ws.length:Int)=p.m) (hs:Bx p.m p.sc said) (hso:0<=so/\so<=p.sc):DX (n+1) (Ih sf p said so ws) (LL sf p said so ws u)/\((Ih sf p said so ws).length:Int)=p.m:=by
 have hs1:=hs.1
 have h24:=hs.2.1
 have hd:=IJ (GE (ws:=ws) hs (by have:=h.f.s1; omega) (λw h=>(hw.w w h).1)) hso
 cases sf
 ·refine ⟨Rc h.f hw hs.2.2 hso hd,?_⟩
  show ((CD _ _ _ _ _ _ _).length:Int)=_
  rw [HS wF]; exact hl
 ·refine ⟨Re h.so hw wF wF hs.2.2 hso hd,?_⟩
  show ((DC _ _).length:Int)=_
  rw [Zj,HS wF]; exact hl
def EO (sc:List Int) (as:List Nat) (k:Nat):Prop:=k∈as/\∀ j∈as,sc.getD k 0<=sc.getD j 0/\(sc.getD j 0=sc.getD k 0->k<=j)
theorem EO.uniq {sc:List Int} {as:List Nat} {j k:Nat} (h:EO sc as j) (g:EO sc as k):j=k:=by
 have h1:=h.2 k g.1
 have g1:=g.2 j h.1
 have e:sc.getD j 0=sc.getD k 0:=by omega
 have:=h1.2 e.symm
 have:=g1.2 e
 omega
def GI (sc:List Int):List Nat->Option Nat
 | []=>none
 | k::as=>match GI sc as with
  | none=>some k
  | some j=>if sc.getD j 0<sc.getD k 0 then some j else some k
theorem L4 (sc:List Int):∀ as:List Nat,as.Pairwise (· < ·)->as≠[]->∃ k,GI sc as=some k/\EO sc as k
 | [],_,h=>absurd rfl h
 | k::as,hp,_=>by
  obtain ⟨hk,hp⟩:=List.pairwise_cons.mp hp
  unfold GI
  by_cases h0:as=[]
  ·subst h0
   refine ⟨k,rfl,List.mem_cons_self,λj hj=>?_⟩
   rcases List.mem_cons.mp hj with rfl | hj
   ·exact ⟨Int.le_refl _,λ_=>Nat.le_refl _⟩
   ·cases hj
  ·obtain ⟨j,e,hj⟩:=L4 sc as hp h0
   rw [e]
   by_cases hd:sc.getD j 0<sc.getD k 0
   ·refine ⟨j,if_pos hd,List.mem_cons_of_mem _ hj.1,λi hi=>?_⟩
    rcases List.mem_cons.mp hi with rfl | hi
    ·exact ⟨by omega,λz=>by omega⟩
    ·exact hj.2 i hi
   ·refine ⟨k,if_neg hd,List.mem_cons_self,λi hi=>?_⟩
    rcases List.mem_cons.mp hi with rfl | hi
    ·exact ⟨Int.le_refl _,λ_=>Nat.le_refl _⟩
    ·have:=hj.2 i hi
     have:=hk i hi
     exact ⟨by omega,λ_=>by omega⟩
theorem Qs (said:List (Option Int)):(ax said).Pairwise (· < ·):=List.Pairwise.filter _ List.pairwise_lt_range
def D7 (sc:List Int) (said:List (Option Int)):Int:=match GI sc (ax said) with
 | none=>0
 | some k=>(BT said k).getD 0
theorem TB {sc:List Int} {said:List (Option Int)} (h:ax said=[]):D7 sc said=0:=by unfold D7; rw [h]; rfl
theorem Tx {sc:List Int} {said:List (Option Int)} {k:Nat} (h:EO sc (ax said) k):D7 sc said=(BT said k).getD 0:=by
 obtain ⟨j,e,hj⟩:=L4 sc (ax said) (Qs said) (List.ne_nil_of_mem h.1)
 unfold D7
 rw [e,hj.uniq h]
def FS (said:List (Option Int)) (so:Int) (sc:List Int):List Int:=(sc.zip said).map λp=>p.1+EG p.2 so
theorem WW {said:List (Option Int)} {so:Int} {sc:List Int} (h:sc.length=said.length):(FS said so sc).length=sc.length:=by
 unfold FS
 rw [List.length_map,List.length_zip]
 omega
def Ca (m s:Int) (ps sc:List Int):List (Str×D):=[("many",.int m),("scale",.int s),("push",.tup (ps.map D.int)),("reached",.tup (sc.map D.int))]
def g2 (m s:Int):List (Str×D):=[("many",.int m),("scale",.int s)]
def g3 (m s:Int) (d:D):List (Str×D):=[("many",.int m),("scale",.int s),("push",d)]
theorem Ur (m s:Int) (d:D):AX "push" d (g2 m s)=g3 m s d:=by
 unfold g2
 rw [Az wD,Az wD]
 rfl
theorem Uq (m s:Int) (ps sc:List Int):AX "reached" (.tup (sc.map D.int)) (g3 m s (.tup (ps.map D.int)))=Ca m s ps sc:=by
 unfold g3
 rw [Az wD,Az wD,Az wD]
 rfl
theorem Yh (m s:Int) (ps sc s2:List Int):AX "reached" (.tup (s2.map D.int)) (Ca m s ps sc)=Ca m s ps s2:=by
 unfold Ca
 rw [Az wD,Az wD,Az wD,ED]
section
variable (m s:Int) (ps sc:List Int)
theorem Ip:(Ca m s ps sc).lookup ("many" : Str)=some (.int m):=Bj
theorem Io:(Ca m s ps sc).lookup ("scale" : Str)=some (.int s):=by unfold Ca; rw [Aq wD,Bj]
theorem Yl:(Ca m s ps sc).lookup ("push" : Str)=some (.tup (ps.map D.int)):=by unfold Ca; rw [Aq wD,Aq wD,Bj]
theorem Pu:(Ca m s ps sc).lookup ("reached" : Str)=some (.tup (sc.map D.int)):=by unfold Ca; rw [Aq wD,Aq wD,Aq wD,Bj]
theorem L5 {f:Str} (h:([("many" : Str),"scale","push","reached"].all λg=>!(f==g))=true):(Ca m s ps sc).lookup f=none:=by
 simp only [List.all_cons,List.all_nil,Bool.and_true,Bool.and_eq_true,Bool.not_eq_true'] at h
 obtain ⟨h1,h2,h3,h4⟩:=h
 unfold Ca
 rw [Aq h1,Aq h2,Aq h3,Aq h4]
 rfl
end
theorem Yf (m s:Int) (d:D):(g3 m s d).lookup ("push" : Str)=some d:=by unfold g3; rw [Aq wD,Aq wD,Bj]
def MH (CK1:Addr) (O:Ae) (q:Nat) (m s:Int) (ps sc:List Int):Prop:=O[q]?=some (some (.ins CK1 (Ca m s ps sc)))
def Ft (m:Int) (ps:List Int):Prop:=(ps.length:Int)=m/\∀ p∈ps,0<=p/\p<=10 ^ (60:Int).toNat-1
def Lc:Option (List Int)->D
 | none=>.non
 | some ps=>.tup (ps.map D.int)
def FN (m:Int) (po:Option (List Int)):List Int:=po.getD (List.replicate m.toNat 0)
def NA:List D->D->Prop:=λds d=>∃ (m:Int) (ps:List Int),ds=[.int m,.tup (ps.map D.int)]/\Ft m ps/\m<=24/\d=.non
def Nz:List D->D->Prop:=λds d=>∃ (m:Int) (po:Option (List Int)),ds=[.int m,Lc po]/\(1<=m/\m<=24)/\Ft m (FN m po)/\d=.tup ((FN m po).map D.int)
def NM:List D->D->Prop:=λds d=>∃ (sc:List Int) (as:List Nat) (k:Nat),ds=[.tup (sc.map D.int),.lst (as.map λk=>D.int (k:Nat))]/\as.length<=24/\(∀ k∈as,k<sc.length)/\EO sc as k/\d=.int (k:Nat)
def Gn (CK1:Addr):AE:=λds O R=>∃ (q:Nat) (m s:Int) (po:Option (List Int)),ds=[.ptr q,.int m,.int s,Lc po]/\O[q]?=some (some (.ins CK1 []))/\(1<=m/\m<=24)/\(1<=s/\s<=10)/\Ft m (FN m po)/\R .non (O.set q (some (.ins CK1 (Ca m s (FN m po) (FN m po)))))
def Hn (CK1:Addr):AE:=λds O R=>∃ (q:Nat) (m s:Int) (ps sc:List Int) (said:List (Option Int)),ds=[.ptr q,.tup (said.map od)]/\MH CK1 O q m s ps sc/\(1<=m/\m<=24)/\Bx m s said/\(sc.length:Int)=m/\R (.int (D7 sc said)) O
def JA (CK1:Addr):AE:=λds O R=>∃ (q:Nat) (m s so:Int) (ps sc:List Int) (said:List (Option Int)),ds=[.ptr q,.tup (said.map od),.int so]/\MH CK1 O q m s ps sc/\(1<=m/\m<=24)/\Bx m s said/\(0<=so/\so<=s)/\(sc.length:Int)=m/\R .non (O.set q (some (.ins CK1 (Ca m s ps (FS said so sc)))))
def JK (CK1:Addr):AE:=λds O R=>∃ (q:Nat) (m s:Int) (ps sc:List Int),ds=[.ptr q]/\MH CK1 O q m s ps sc/\(1<=m/\m<=24)/\(1<=s/\s<=10)/\Ft m ps/\R (.ptr O.length) (O++[some (.ins CK1 (Ca m s ps ps))])
theorem Hd (n:Nat):(List.replicate n [D.int 0]).flatten=(List.replicate n (0:Int)).map D.int:=by rw [K6,List.map_replicate]
theorem Xf {sc:List Int} {as:List Nat} {k:Nat} (h:EO sc as k):Fg (as.map λk=>(sc.getD k 0,((k:Nat):Int)))=(sc.getD k 0,((k:Nat):Int)):=by
 have hne:(as.map λk=>(sc.getD k 0,((k:Nat):Int)))≠[]:=λz=>by
  rw [List.map_eq_nil_iff] at z
  have:=h.1
  rw [z] at this
  cases this
 obtain ⟨j,hj,e⟩:=List.mem_map.mp (Xd hne)
 have hj2:EO sc as j:=by
  refine ⟨hj,λi hi=>?_⟩
  have:=Xe (List.mem_map.mpr ⟨i,hi,rfl⟩:(sc.getD i 0,((i:Nat):Int))∈as.map λk=>(sc.getD k 0,((k:Nat):Int)))
  rw [<- e] at this
  have:=of_decide_eq_false this
  refine ⟨?_,λz=>?_⟩ <;> simp only [] at this <;> omega
 rw [<- e,hj2.uniq h]
theorem Tz {m s:Int} {sc:List Int} {said:List (Option Int)} (hs:Bx m s said) (h0:0<=s):0<=D7 sc said/\D7 sc said<=s:=by
 unfold D7
 cases e:GI sc (ax said) with
 | none=>exact ⟨Int.le_refl _,h0⟩
 | some k=>
  show 0<=(BT said k).getD 0/\(BT said k).getD 0<=s
  unfold BT
  by_cases hk:k<said.length
  ·rw [List.getElem?_eq_getElem hk]
   show 0<=(said[k]).getD 0/\(said[k]).getD 0<=s
   have hw:=hs.2.2 _ (List.getElem_mem hk)
   generalize said[k]=w at hw
   cases w with
   | none=>exact ⟨Int.le_refl _,h0⟩
   | some x=>exact HL (hw.resolve_left (λz=>by cases z))
  ·rw [List.getElem?_eq_none wF]
   exact ⟨Int.le_refl _,h0⟩
def BK (m s:Int) (ins:List Bool) (ov:Int):List (Str×D):=[("many",.int m),("scale",.int s),("inside",.tup (ins.map D.bl)),("over",.int ov)]
def IH (b:Bool):Int:=if b=true then 1 else 0
def r2 (m s:Int):List (Str×D):=[("many",.int m),("scale",.int s)]
def r3 (m s:Int) (d:D):List (Str×D):=[("many",.int m),("scale",.int s),("inside",d)]
theorem Uk (m s:Int) (d:D):AX "inside" d (r2 m s)=r3 m s d:=by
 unfold r2
 rw [Az wD,Az wD]
 rfl
theorem Uj (m s ov:Int) (ins:List Bool):AX "over" (.int ov) (r3 m s (.tup (ins.map D.bl)))=BK m s ins ov:=by
 unfold r3
 rw [Az wD,Az wD,Az wD]
 rfl
theorem Oe (m s ov:Int) (ins js:List Bool):AX "inside" (.tup (js.map D.bl)) (BK m s ins ov)=BK m s js ov:=by
 unfold BK
 rw [Az wD,Az wD,ED]
theorem TQ (m s ov o2:Int) (ins:List Bool):AX "over" (.int o2) (BK m s ins ov)=BK m s ins o2:=by
 unfold BK
 rw [Az wD,Az wD,Az wD,ED]
section
variable (m s ov:Int) (ins:List Bool)
theorem Gu:(BK m s ins ov).lookup ("many" : Str)=some (.int m):=Bj
theorem HE:(BK m s ins ov).lookup ("scale" : Str)=some (.int s):=by unfold BK; rw [Aq wD,Bj]
theorem Of:(BK m s ins ov).lookup ("inside" : Str)=some (.tup (ins.map D.bl)):=by unfold BK; rw [Aq wD,Aq wD,Bj]
theorem TU:(BK m s ins ov).lookup ("over" : Str)=some (.int ov):=by unfold BK; rw [Aq wD,Aq wD,Aq wD,Bj]
theorem HF {f:Str} (h:([("many" : Str),"scale","inside","over"].all λg=>!(f==g))=true):(BK m s ins ov).lookup f=none:=by
 simp only [List.all_cons,List.all_nil,Bool.and_true,Bool.and_eq_true,Bool.not_eq_true'] at h
 obtain ⟨h1,h2,h3,h4⟩:=h
 unfold BK
 rw [Aq h1,Aq h2,Aq h3,Aq h4]
 rfl
end
def IP (CK10:Addr) (O:Ae) (q:Nat) (m s:Int) (ins:List Bool) (ov:Int):Prop:=O[q]?=some (some (.ins CK10 (BK m s ins ov)))
def Eg (said:List (Option Int)) (so:Int) (ins:List Bool):List Bool:=(ins.zip said).map λp=>p.1&&decide (EG p.2 so=0)
def FT (said:List (Option Int)) (so:Int) (ins:List Bool):List Bool:=if (Eg said so ins).any id=true then Eg said so ins else List.replicate ins.length true
def Lr (said:List (Option Int)) (so:Int) (ins:List Bool) (ov:Int):Int:=if (Eg said so ins).any id=true then ov else ov+1
def D5 (ins:List Bool):List Int:=ins.map IH
theorem MT (ins:List Bool):DE (D5 ins):=λw h=>by
 obtain ⟨b,_,rfl⟩:=List.mem_map.mp h
 unfold IH
 split <;> decide
theorem X3 (ins:List Bool):(ins.map λq=>if q=true then D.int 1 else D.int 0)=(D5 ins).map D.int:=by
 unfold D5
 rw [List.map_map]
 refine List.map_congr_left λb _=>?_
 show (if b=true then D.int 1 else D.int 0)=D.int (IH b)
 unfold IH
 cases b <;> rfl
theorem O6 {said:List (Option Int)} {so:Int} {ins:List Bool} (h:ins.length=said.length):(Eg said so ins).length=ins.length:=by
 unfold Eg
 rw [List.length_map,List.length_zip]
 omega
theorem WX {said:List (Option Int)} {so:Int} {ins:List Bool} (h:ins.length=said.length):(FT said so ins).length=ins.length:=by
 unfold FT
 split
 ·exact O6 h
 ·rw [List.length_replicate]
theorem M9 (n:Nat):(List.replicate n [D.bl true]).flatten=(List.replicate n true).map D.bl:=by rw [K6,List.map_replicate]
def Jw (CK10:Addr):AE:=λds O R=>∃ (q:Nat) (m s:Int),ds=[.ptr q,.int m,.int s]/\O[q]?=some (some (.ins CK10 []))/\(1<=m/\m<=24)/\(1<=s/\s<=10)/\R .non (O.set q (some (.ins CK10 (BK m s (List.replicate m.toNat true) 0))))
def NH (CK10:Addr):AE:=λds O R=>∃ (q:Nat) (m s ov:Int) (ins:List Bool),ds=[.ptr q]/\IP CK10 O q m s ins ov/\ins.length<=24/\R (.tup ((D5 ins).map D.int)) O
def Jy (CK10:Addr):AE:=λds O R=>∃ (q:Nat) (m s ov so:Int) (ins:List Bool) (said:List (Option Int)),ds=[.ptr q,.tup (said.map od),.int so]/\IP CK10 O q m s ins ov/\(1<=m/\m<=24)/\Bx m s said/\(0<=so/\so<=s)/\(ins.length:Int)=m/\R .non (O.set q (some (.ins CK10 (BK m s (FT said so ins) (Lr said so ins ov)))))
def JI (CK10:Addr):AE:=λds O R=>∃ (q:Nat) (m s ov:Int) (ins:List Bool),ds=[.ptr q]/\IP CK10 O q m s ins ov/\(1<=m/\m<=24)/\(1<=s/\s<=10)/\R (.ptr O.length) (O++[some (.ins CK10 (BK m s (List.replicate m.toNat true) 0))])
theorem LP {m s:Int} {f:Str} (h:([("many" : Str),"scale"].all λg=>!(f==g))=true):(Bl m s).lookup f=none:=by
 simp only [List.all_cons,List.all_nil,Bool.and_true,Bool.and_eq_true,Bool.not_eq_true'] at h
 unfold Bl
 rw [Aq h.1,Aq h.2]
 rfl
def Jz (CK2:Addr):AE:=λds O R=>∃ (q:Nat) (m sc so:Int) (said:List (Option Int)),ds=[.ptr q,.tup (said.map od),.int so]/\O[q]?=some (some (.ins CK2 (Bl m sc)))/\Bx m sc said/\(0<=so/\so<=sc)/\R .non O
def JJ (CK2:Addr):AE:=λds O R=>∃ (q:Nat) (m sc:Int),ds=[.ptr q]/\O[q]?=some (some (.ins CK2 (Bl m sc)))/\(1<=m/\m<=24)/\(1<=sc/\sc<=10)/\R (.ptr O.length) (O++[some (.ins CK2 (Bl m sc))])
theorem Su {O:Ae} {q:Nat} {x:Option MO} (h:O[q]?=some x):O.set q x=O:=by
 refine List.ext_getElem? λi=>?_
 by_cases z:q=i
 ·subst z
  rw [Bh h]
  exact h.symm
 ·rw [List.getElem?_set_ne z]
def D6 (isC:Addr->Prop):AE:=λds O R=>∃ (q:Nat) (m s:Int) (C:Addr),ds=[.ptr q,.int m,.int s]/\isC C/\O[q]?=some (some (.ins C []))/\(1<=m/\m<=24)/\(1<=s/\s<=10)/\R .non (O.set q (some (.ins C (Bl m s))))
def CC (CH CW CS CR:Addr):AE:=λds O R=>∃ (q:Nat) (m s:Int) (ws:List Int) (said:List (Option Int)),ds=[.ptr q,.tup (said.map od)]/\((O[q]?=some (some (.ins CH (Bl m s)))/\ws=List.replicate m.toNat 1)\/(∃ sf p u,EI CW CS O q sf p ws u/\p.m=m/\p.sc=s)\/∃ ins ov,IP CR O q m s ins ov/\ws=D5 ins)/\(1<=m/\m<=24)/\Bx m s said/\(ws.length:Int)=m/\DE ws/\R (.int (BM said ws)) O
inductive Hv where
 | h | v (sf:Bool) (p:SP) (ws:List Int) (u:Int) | r (ins:List Bool) (ov:Int) | f (ps sc:List Int)
def Dy (CH CW CS CR CF:Addr) (m s:Int):Hv->MO
 | .h=>.ins CH (Bl m s)
 | .v sf p ws u=>.ins (CA CW CS sf) (B3 sf p ws u)
 | .r ins ov=>.ins CR (BK m s ins ov)
 | .f ps sc=>.ins CF (Ca m s ps sc)
def BW (n m:Nat) (s:Int):Hv->Prop
 | .h=>True
 | .v sf p ws u=>Dn sf p/\p.m=(m:Nat)/\p.sc=s/\DX n ws u/\ws.length=m
 | .r ins _=>ins.length=m
 | .f ps sc=>Ft (m:Nat) ps/\sc.length=m
def D8 (m:Nat) (said:List (Option Int)):Hv->Int
 | .h=>BM said (List.replicate m 1)
 | .v _ _ ws _=>BM said ws
 | .r ins _=>BM said (D5 ins)
 | .f _ sc=>D7 sc said
def Cr (said:List (Option Int)) (so:Int):Hv->Hv
 | .h=>.h
 | .v sf p ws u=>.v sf p (Ih sf p said so ws) (LL sf p said so ws u)
 | .r ins ov=>.r (FT said so ins) (Lr said so ins ov)
 | .f ps sc=>.f ps (FS said so sc)
def C0 (m:Nat):Hv->Hv
 | .h=>.h
 | .v sf p _ _=>.v sf p (List.replicate m 1) 1
 | .r _ _=>.r (List.replicate m true) 0
 | .f ps _=>.f ps ps
theorem BW.hear {n m:Nat} {s so:Int} {said:List (Option Int)} {v:Hv} (h:BW n m s v) (hs:Bx (m:Nat) s said) (hso:0<=so/\so<=s):BW (n+1) m s (Cr said so v):=by
 have hl:=hs.1
 cases v with
 | h=>exact h
 | v sf p ws u=>
  obtain ⟨h1,h2,h3,h4,h5⟩:=h
  obtain ⟨g1,g2⟩:=XX h1 h4 (by rw [h2,h5]) (by rw [h2,h3]; exact hs) (by rw [h3]; exact hso)
  exact ⟨h1,h2,h3,g1,by have:=g2.trans h2; omega⟩
 | r ins ov=>
  have h:ins.length=m:=h
  show (FT said so ins).length=m
  rw [WX wF]; exact h
 | f ps sc=>exact ⟨h.1,by rw [WW (by have:=h.2; omega)]; exact h.2⟩
theorem BW.anew {n m:Nat} {s:Int} {v:Hv} (h:BW n m s v):BW 0 m s (C0 m v):=by
 cases v with
 | h=>exact h
 | v sf p ws u=>exact ⟨h.1,h.2.1,h.2.2.1,Jf m,List.length_replicate⟩
 | r ins ov=>exact List.length_replicate
 | f ps sc=>exact ⟨h.1,by have:=h.1.1; omega⟩
theorem TD {n m:Nat} {s:Int} {said:List (Option Int)} {v:Hv} (h:BW n m s v) (hs:Bx (m:Nat) s said) (h0:0<=s):0<=D8 m said v/\D8 m said v<=s:=by
 cases v with
 | h=>exact GE hs h0 (λw hw=>by rw [List.eq_of_mem_replicate hw]; decide)
 | v sf p ws u=>exact GE hs h0 (λw hw=>(h.2.2.2.1.w w hw).1)
 | r ins ov=>exact GE hs h0 (MT ins)
 | f ps sc=>exact Tz hs h0
section
variable {X:Cx} {ρ:Ai} {O:Ae} {CH CW CS CR CF:Addr} {o e e2:Expr} {q n m k1 k2 k3 k4 k6:Nat} {s so:Int} {v:Hv} {said:List (Option Int)} {R:D->Ae->Prop} {pos apos:Pos}
theorem PB {pl:Sem Bool} (M1:AI X.prog X.w X.K X.mg X.base CH k1 "say" (CC CH CW CS CR)) (M2:AI X.prog X.w X.K X.mg X.base CW k1 "say" (CC CH CW CS CR)) (M3:AI X.prog X.w X.K X.mg X.base CS k1 "say" (CC CH CW CS CR)) (M4:AI X.prog X.w X.K X.mg X.base CR k1 "say" (CC CH CW CS CR)) (r1:AM k1 X.A) (M6:AI X.prog X.w X.K X.mg X.base CF k6 "say" (Hn CF)) (r6:AM k6 X.A)
  (ho:Ad X ρ O o (.ptr q)) (hq:O[q]?=some (some (Dy CH CW CS CR CF (m:Nat) s v))) (hok:BW n m s v) (hm:1<=m/\m<=24) (hs:Bx (m:Nat) s said) (ha:Bd X ρ O [e] [.tup (said.map od)])
  (hst:starEach [e] X.env=(false,eval e X.env)::starEach [] X.env:=by rfl) (hpl:(backTo pos (starEach [] X.env)).any (·.1)=false:=by rfl)
  (ht:eval (.Call (.Attribute o "say" apos) [e] [] pos) X.env=(do
   let ov <- eval o X.env
   standAt apos.atName
   let (f,first) <- holding [ov] (getMethod ov "say" pl)
   callWith pos f first (backTo pos (starEach [e] X.env)) (backToKw pos (keywordEach [] X.env))):=by rfl):Ad X ρ O (.Call (.Attribute o "say" apos) [e] [] pos) (.int (D8 m said v)):=by
 have hmI:(1:Int)<=(m:Nat)/\((m:Nat):Int)<=24:=⟨by omega,by omega⟩
 cases v with
 | h=>exact Ev.evp (CG M1 r1 ho hq (LP wD) ha ⟨q,(m:Nat),s,List.replicate m 1,said,rfl,.inl ⟨hq,by rw [Int.toNat_natCast]⟩,hmI,hs,by rw [List.length_replicate],(λw hw=>by rw [List.eq_of_mem_replicate hw]; decide),rfl,rfl⟩ hst hpl ht)
 | v sf p ws u=>exact Ev.evp (CG (mv M2 M3 sf) r1 ho hq (Gd _ _ _ _ wD wD) ha ⟨q,(m:Nat),s,ws,said,rfl,.inr (.inl ⟨sf,p,u,hq,hok.2.1,hok.2.2.1⟩),hmI,hs,by rw [hok.2.2.2.2],(λw hw=>(hok.2.2.2.1.w w hw).1),rfl,rfl⟩ hst hpl ht)
 | r ins ov=>exact Ev.evp (CG M4 r1 ho hq (HF _ _ _ _ wD) ha ⟨q,(m:Nat),s,D5 ins,said,rfl,.inr (.inr ⟨ins,ov,hq,rfl⟩),hmI,hs,by have h:ins.length=m:=hok; rw [show (D5 ins).length=ins.length from List.length_map ..,h],MT ins,rfl,rfl⟩ hst hpl ht)
 | f ps sc=>exact Ev.evp (CG M6 r6 ho hq (L5 _ _ _ _ wD) ha ⟨q,(m:Nat),s,ps,sc,said,rfl,hq,hmI,hs,by rw [hok.2],rfl,rfl⟩ hst hpl ht)
theorem PK {pl:Sem Bool} (M1:AI X.prog X.w X.K X.mg X.base CH k1 "hear" (Jz CH)) (M2:AI X.prog X.w X.K X.mg X.base CW k2 "hear" (EV CW CS false)) (M3:AI X.prog X.w X.K X.mg X.base CS k3 "hear" (EV CW CS true)) (M4:AI X.prog X.w X.K X.mg X.base CR k4 "hear" (Jy CR)) (r1:AM k1 X.A) (r2:AM (max k2 k3) X.A) (r3:AM k4 X.A) (M6:AI X.prog X.w X.K X.mg X.base CF k6 "hear" (JA CF)) (r6:AM k6 X.A)
  (ho:Ad X ρ O o (.ptr q)) (hq:O[q]?=some (some (Dy CH CW CS CR CF (m:Nat) s v))) (hok:BW n m s v) (hn:n<=1000) (hm:1<=m/\m<=24) (hs:Bx (m:Nat) s said) (hso:0<=so/\so<=s) (ha:Bd X ρ O [e,e2] [.tup (said.map od),.int so]) (hR:R .non (O.set q (some (Dy CH CW CS CR CF (m:Nat) s (Cr said so v)))))
  (hst:starEach [e,e2] X.env=(false,eval e X.env)::starEach [e2] X.env:=by rfl) (hpl:(backTo pos (starEach [e2] X.env)).any (·.1)=false:=by rfl)
  (ht:eval (.Call (.Attribute o "hear" apos) [e,e2] [] pos) X.env=(do
   let ov <- eval o X.env
   standAt apos.atName
   let (f,first) <- holding [ov] (getMethod ov "hear" pl)
   callWith pos f first (backTo pos (starEach [e,e2] X.env)) (backToKw pos (keywordEach [] X.env))):=by rfl):Ev X ρ O (.Call (.Attribute o "hear" apos) [e,e2] [] pos) R:=by
 have hmI:(1:Int)<=(m:Nat)/\((m:Nat):Int)<=24:=⟨by omega,by omega⟩
 cases v with
 | h=>
  have hR:R .non (O.set q (some (Dy CH CW CS CR CF (m:Nat) s .h))):=hR
  rw [Su hq] at hR
  exact CG M1 r1 ho hq (LP wD) ha ⟨q,(m:Nat),s,so,said,rfl,hq,hs,hso,hR⟩ hst hpl ht
 | v sf p ws u=>exact CG (mv2 (sq:=EV CW CS) M2 M3 sf) r2 ho hq (Gd _ _ _ _ wD wD) ha ⟨q,n,p,u,so,said,ws,rfl,hq,hok.1,hn,hok.2.2.2.1,by rw [hok.2.2.2.2,hok.2.1],by rw [hok.2.1,hok.2.2.1]; exact hs,by rw [hok.2.2.1]; exact hso,hR⟩ hst hpl ht
 | r ins ov=>exact CG M4 r3 ho hq (HF _ _ _ _ wD) ha ⟨q,(m:Nat),s,ov,so,ins,said,rfl,hq,hmI,hs,hso,by have h:ins.length=m:=hok; rw [h],hR⟩ hst hpl ht
 | f ps sc=>exact CG M6 r6 ho hq (L5 _ _ _ _ wD) ha ⟨q,(m:Nat),s,so,ps,sc,said,rfl,hq,hmI,hs,hso,by rw [hok.2],hR⟩ hst hpl ht
theorem PP {pl:Sem Bool} (M1:AI X.prog X.w X.K X.mg X.base CH k1 "anew" (JJ CH)) (M2:AI X.prog X.w X.K X.mg X.base CW k2 "anew" (EX CW CS false)) (M3:AI X.prog X.w X.K X.mg X.base CS k3 "anew" (EX CW CS true)) (M4:AI X.prog X.w X.K X.mg X.base CR k4 "anew" (JI CR)) (r1:AM k1 X.A) (r2:AM (max k2 k3) X.A) (r3:AM k4 X.A) (M6:AI X.prog X.w X.K X.mg X.base CF k6 "anew" (JK CF)) (r6:AM k6 X.A)
  (ho:Ad X ρ O o (.ptr q)) (hq:O[q]?=some (some (Dy CH CW CS CR CF (m:Nat) s v))) (hok:BW n m s v) (hm:1<=m/\m<=24) (hs:1<=s/\s<=10) (hR:R (.ptr O.length) (O++[some (Dy CH CW CS CR CF (m:Nat) s (C0 m v))]))
  (ht:eval (.Call (.Attribute o "anew" apos) [] [] pos) X.env=(do
   let ov <- eval o X.env
   standAt apos.atName
   let (f,first) <- holding [ov] (getMethod ov "anew" pl)
   callWith pos f first (backTo pos (starEach [] X.env)) (backToKw pos (keywordEach [] X.env))):=by rfl):Ev X ρ O (.Call (.Attribute o "anew" apos) [] [] pos) R:=by
 have hmI:(1:Int)<=(m:Nat)/\((m:Nat):Int)<=24:=⟨by omega,by omega⟩
 cases v with
 | h=>exact DT M1 r1 ho hq (LP wD) ⟨q,(m:Nat),s,rfl,hq,hmI,hs,hR⟩ ht
 | v sf p ws u=>exact DT (mv2 (sq:=EX CW CS) M2 M3 sf) r2 ho hq (Gd _ _ _ _ wD wD) ⟨q,p,u,ws,rfl,hq,hok.1,by rw [hok.2.1,Int.toNat_natCast]; exact hR⟩ ht
 | r ins ov=>exact DT M4 r3 ho hq (HF _ _ _ _ wD) ⟨q,(m:Nat),s,ov,ins,rfl,hq,hmI,hs,by rw [Int.toNat_natCast]; exact hR⟩ ht
 | f ps sc=>exact DT M6 r6 ho hq (L5 _ _ _ _ wD) ⟨q,(m:Nat),s,ps,sc,rfl,hq,hmI,hs,hok.1,hR⟩ ht
theorem GO (c1:Bn X.K CH) (c2:Bn X.K CW) (c3:Bn X.K CS) (c4:Bn X.K CR) (n1:Ao X.K CH "many") (n2:Ao X.K CW "many") (n3:Ao X.K CS "many") (n4:Ao X.K CR "many") (c6:Bn X.K CF) (n6:Ao X.K CF "many") (ho:Ad X ρ O o (.ptr q)) (hq:O[q]?=some (some (Dy CH CW CS CR CF (m:Nat) s v))) (hok:BW n m s v) (hb:attributeBase o ("many" : Str) X.env (eval o X.env)=eval o X.env:=by rfl):Ad X ρ O (.Attribute o "many" pos) (.int (m:Nat)):=by
 cases v with
 | h=>exact As ho hq c1 n1 (GH _ _) hb
 | v sf p ws u=>rw [<- hok.2.1]; exact As ho hq (cv c2 c3 sf) (nv n2 n3 sf) (M0 _ _ _ _) hb
 | r ins ov=>exact As ho hq c4 n4 (Gu _ _ _ _) hb
 | f ps sc=>exact As ho hq c6 n6 (Ip _ _ _ _) hb
theorem FX (c1:Bn X.K CH) (c2:Bn X.K CW) (c3:Bn X.K CS) (c4:Bn X.K CR) (n1:Ao X.K CH "scale") (n2:Ao X.K CW "scale") (n3:Ao X.K CS "scale") (n4:Ao X.K CR "scale") (c6:Bn X.K CF) (n6:Ao X.K CF "scale") (ho:Ad X ρ O o (.ptr q)) (hq:O[q]?=some (some (Dy CH CW CS CR CF (m:Nat) s v))) (hok:BW n m s v) (hb:attributeBase o ("scale" : Str) X.env (eval o X.env)=eval o X.env:=by rfl):Ad X ρ O (.Attribute o "scale" pos) (.int s):=by
 cases v with
 | h=>exact As ho hq c1 n1 (Ii _ _) hb
 | v sf p ws u=>rw [<- hok.2.2.1]; exact As ho hq (cv c2 c3 sf) (nv n2 n3 sf) (Hg _ _ _ _) hb
 | r ins ov=>exact As ho hq c4 n4 (HE _ _ _ _) hb
 | f ps sc=>exact As ho hq c6 n6 (Io _ _ _ _) hb
theorem YF {k:Bool} {x:Str} {C2:Addr} {p p2:Pos} (hm:X.mg "isinstance" = none) (he:Ad X ρ O e (.ptr q)) (hq:O[q]?=some (some (Dy CH CW CS CR CF (m:Nat) s v))) (t1:Br X.K CH) (t2:Br X.K CW) (t3:Br X.K CS) (t4:Br X.K CR) (hx:X.mg x=some (.ref C2)) (k1:PySem.W.kitOne X.K (.ref CH) (.ref C2)=some k) (k2:PySem.W.kitOne X.K (.ref CW) (.ref C2)=some k) (k3:PySem.W.kitOne X.K (.ref CS) (.ref C2)=some k) (k4:PySem.W.kitOne X.K (.ref CR) (.ref C2)=some k) (t6:Br X.K CF) (k6':PySem.W.kitOne X.K (.ref CF) (.ref C2)=some k)
  (hg:Gl X "isinstance" := by rfl) (hgx:Gl X x:=by rfl) (hdx:(x==("__debug__" : Str))=false:=by decide) (hs:starEach [e,.Name x p2] X.env=(false,eval e X.env)::starEach [.Name x p2] X.env:=by rfl) (hpl:(backTo pos (starEach [.Name x p2] X.env)).any (·.1)=false:=by rfl) :
  Ad X ρ O (.Call (.Name "isinstance" p) [e,.Name x p2] [] pos) (.bl k):=by
 cases v with
 | h=>exact Fj hm he hq t1 hx k1 hg hgx hdx hs hpl
 | v sf p ws u=>
  cases sf
  ·exact Fj hm he hq t2 hx k2 hg hgx hdx hs hpl
  ·exact Fj hm he hq t3 hx k3 hg hgx hdx hs hpl
 | r ins ov=>exact Fj hm he hq t4 hx k4 hg hgx hdx hs hpl
 | f ps sc=>exact Fj hm he hq t6 hx k6' hg hgx hdx hs hpl
end
def BZ (m s:Int) (q n:Nat) (ch:List Int):List (Str×D):=[("many",.int m),("scale",.int s),("hands",.tup ((List.range n).map λi=>.ptr (q+1+i))),("head",.ptr (q+1+n)),("charged",.tup (ch.map D.int))]
def Jh (m s:Int) (d e:D):List (Str×D):=[("many",.int m),("scale",.int s),("hands",d),("head",e)]
def Gg (m s:Int) (d:D):List (Str×D):=[("many",.int m),("scale",.int s),("hands",d)]
theorem Uo (m s:Int) (d:D):AX "hands" d (Bl m s)=Gg m s d:=by
 unfold Bl
 rw [Az wD,Az wD]
 rfl
theorem Um (m s:Int) (d e:D):AX "head" e (Gg m s d)=Jh m s d e:=by
 unfold Gg
 rw [Az wD,Az wD,Az wD]
 rfl
theorem Us (m s:Int) (q n:Nat) (ch:List Int):AX "charged" (.tup (ch.map D.int)) (Jh m s (.tup ((List.range n).map λi=>.ptr (q+1+i))) (.ptr (q+1+n)))=BZ m s q n ch:=by
 unfold Jh
 rw [Az wD,Az wD,Az wD,Az wD]
 rfl
theorem Rx (m s:Int) (q n:Nat) (ch cs:List Int):AX "charged" (.tup (cs.map D.int)) (BZ m s q n ch)=BZ m s q n cs:=by
 unfold BZ
 rw [Az wD,Az wD,Az wD,Az wD,ED]
section
variable (m s:Int) (q n:Nat) (ch:List Int)
theorem FA:(BZ m s q n ch).lookup ("many" : Str)=some (.int m):=Bj
theorem Gf:(BZ m s q n ch).lookup ("scale" : Str)=some (.int s):=by unfold BZ; rw [Aq wD,Bj]
theorem Nc:(BZ m s q n ch).lookup ("hands" : Str)=some (.tup ((List.range n).map λi=>.ptr (q+1+i))):=by unfold BZ; rw [Aq wD,Aq wD,Bj]
theorem Nb:(BZ m s q n ch).lookup ("head" : Str)=some (.ptr (q+1+n)):=by unfold BZ; rw [Aq wD,Aq wD,Aq wD,Bj]
theorem Nd:(BZ m s q n ch).lookup ("charged" : Str)=some (.tup (ch.map D.int)):=by unfold BZ; rw [Aq wD,Aq wD,Aq wD,Aq wD,Bj]
theorem DJ {f:Str} (h:([("many" : Str),"scale","hands","head","charged"].all λg=>!(f==g))=true):(BZ m s q n ch).lookup f=none:=by
 simp only [List.all_cons,List.all_nil,Bool.and_true,Bool.and_eq_true,Bool.not_eq_true'] at h
 obtain ⟨h1,h2,h3,h4,h5⟩:=h
 unfold BZ
 rw [Aq h1,Aq h2,Aq h3,Aq h4,Aq h5]
 rfl
end
theorem BV {O Y:Ae} {i:Nat} {x:Option MO} (h:O[i]?=some x):(O++Y)[i]?=some x:=by rw [List.getElem?_append_left (List.getElem?_eq_some_iff.mp h).1]; exact h
theorem Lz {A Z:Ae} {x:Option MO}:(A++[x]++Z)[A.length]?=some x:=by rw [List.append_assoc,List.getElem?_append_right (Nat.le_refl _),Nat.sub_self]; rfl
theorem Ly {A Z:Ae} {x y:Option MO}:(A++[x]++Z).set A.length y=A++[y]++Z:=by rw [List.append_assoc,List.set_append_right (h:=Nat.le_refl _),Nat.sub_self,List.append_assoc]; rfl
structure Cs where
 h:Addr
 w:Addr
 s:Addr
 r:Addr
 t:Addr
 f:Addr
def Cs.o (C:Cs) (m s:Int) (v:Hv):MO:=Dy C.h C.w C.s C.r C.f m s v
structure BO (C:Cs) (O:Ae) (q:Nat) (m:Nat) (s:Int) (hs:List Hv) (hd:Hv) (ch:List Int):Prop where
 o:O[q]?=some (some (.ins C.t (BZ (m:Nat) s q hs.length ch)))
 h:∀ i v,hs[i]?=some v->O[q+1+i]?=some (some (C.o (m:Nat) s v))
 d:O[q+1+hs.length]?=some (some (C.o (hs.length:Nat) s hd))
structure B6 (n m:Nat) (s:Int) (hs:List Hv) (hd:Hv) (ch:List Int):Prop where
 h:∀ v∈hs,BW n m s v
 d:BW n hs.length s hd
 l1:1<=hs.length
 l2:hs.length<=24
 c:ch.length=hs.length
def BN (m:Nat) (said:List (Option Int)) (hs:List Hv):List Int:=hs.map (D8 m said)
def Cw (l:List Int):List (Option Int):=l.map some
theorem Qy (l:List Int):(Cw l).map od=l.map D.int:=by unfold Cw; rw [List.map_map]; rfl
theorem Mn {n m:Nat} {s:Int} {said:List (Option Int)} {hs:List Hv} (h:∀ v∈hs,BW n m s v) (h2:hs.length<=24) (hsd:Bx (m:Nat) s said) (h0:0<=s):Bx ((hs.length:Nat):Int) s (Cw (BN m said hs)):=by
 refine ⟨by unfold Cw BN; rw [List.length_map,List.length_map],by omega,λw hw=>?_⟩
 obtain ⟨x,hx,rfl⟩:=List.mem_map.mp hw
 obtain ⟨v,hv,rfl⟩:=List.mem_map.mp hx
 right
 have:=TD (h v hv) hsd h0
 show (decide (0<=_)&&decide (_<=s))=true
 rw [decide_eq_true this.1,decide_eq_true this.2]; rfl
def GA (m:Nat) (said:List (Option Int)) (so:Int) (hs:List Hv) (ch:List Int):List Int:=(ch.zip (BN m said hs)).map λx=>x.1+ab (x.2-so)
structure Ew (q n:Nat) (O O':Ae):Prop where
 l:O'.length=O.length
 o:∀ j,j<q\/q+1+n<j->O'[j]?=O[j]?
theorem Ew.refl (q n:Nat) (O:Ae):Ew q n O O:=⟨rfl,λ_ _=>rfl⟩
theorem Ew.set {q n i:Nat} {O O':Ae} {x:Option MO} (h:Ew q n O O') (h1:q<=i) (h2:i<=q+1+n):Ew q n O (O'.set i x):=⟨by rw [List.length_set]; exact h.l,λj hj=>by rw [List.getElem?_set_ne wF]; exact h.o j hj⟩
def JH (C:Cs):AE:=λds O R=>∃ (q n m:Nat) (s:Int) (hs:List Hv) (hd:Hv) (ch:List Int) (said:List (Option Int)),ds=[.ptr q,.tup (said.map od)]/\BO C O q m s hs hd ch/\B6 n m s hs hd ch/\(1<=m/\m<=24)/\Bx (m:Nat) s said/\R (.tup ((BN m said hs).map D.int)) O
def TC (m:Nat) (said:List (Option Int)) (hs:List Hv) (hd:Hv):Int:=D8 hs.length (Cw (BN m said hs)) hd
def R7 (C:Cs):AE:=λds O R=>∃ (q n m:Nat) (s:Int) (hs:List Hv) (hd:Hv) (ch:List Int) (said:List (Option Int)),ds=[.ptr q,.tup (said.map od)]/\BO C O q m s hs hd ch/\B6 n m s hs hd ch/\(1<=m/\m<=24)/\0<=s/\Bx (m:Nat) s said/\R (.int (TC m said hs hd)) O
def NP (C:Cs):AE:=λds O R=>∃ (q m:Nat) (s:Int) (hs:List Hv) (hd:Hv) (ch:List Int),ds=[.ptr q]/\BO C O q m s hs hd ch/\R (.tup (ch.map D.int)) O
def R9 (C:Cs):AE:=λds O R=>∃ (q n m:Nat) (s so:Int) (hs:List Hv) (hd:Hv) (ch:List Int) (said:List (Option Int)),ds=[.ptr q,.tup (said.map od),.int so]/\BO C O q m s hs hd ch/\B6 n m s hs hd ch/\n<=1000/\(1<=m/\m<=24)/\Bx (m:Nat) s said/\(0<=so/\so<=s) /\
 ∀ O',Ew q hs.length O O'->BO C O' q m s (hs.map (Cr said so)) (Cr (Cw (BN m said hs)) so hd) (GA m said so hs ch)->R .non O'
def Ff (C:Cs) (m:Nat) (s:Int) (q:Nat) (hs:List Hv) (hd:Hv):Ae:=some (.ins C.t (BZ (m:Nat) s q hs.length (List.replicate hs.length 0)))::(hs.map (λv=>some (C.o (m:Nat) s (C0 m v)))++[some (C.o (hs.length:Nat) s (C0 hs.length hd))])
def BB (C:Cs) (O:Ae) (m:Nat) (s:Int) (pv:List (Nat×Hv)):Prop:=∀ x∈pv,O[x.1]?=some (some (C.o (m:Nat) s x.2))/\∃ n,BW n m s x.2
def R6 (C:Cs):AE:=λds O R=>∃ (m:Nat) (s:Int) (pv:List (Nat×Hv)) (hp:Nat) (hd:Hv),ds=[.tup (pv.map λx=>.ptr x.1),.ptr hp]/\BB C O m s pv/\BB C O pv.length s [(hp,hd)]/\(1<=m/\m<=24)/\(1<=s/\s<=10)/\(1<=pv.length/\pv.length<=24)/\R .non O
def R8 (C:Cs):AE:=λds O R=>∃ (q m:Nat) (s:Int) (pv:List (Nat×Hv)) (hp:Nat) (hd:Hv) (O0:Ae),ds=[.ptr q,.tup (pv.map λx=>.ptr x.1),.ptr hp]/\O=O0++[some (.ins C.t [])]/\q=O0.length/\BB C O0 m s pv/\BB C O0 pv.length s [(hp,hd)]/\(1<=m/\m<=24)/\(1<=s/\s<=10)/\(1<=pv.length/\pv.length<=24)/\R .non (O0++Ff C m s q (pv.map (·.2)) hd)
theorem BB.app {C:Cs} {O Y:Ae} {m:Nat} {s:Int} {pv:List (Nat×Hv)} (h:BB C O m s pv):BB C (O++Y) m s pv:=λx hx=>⟨BV (h x hx).1,(h x hx).2⟩
theorem BO.app {C:Cs} {O Y:Ae} {q m:Nat} {s:Int} {hs:List Hv} {hd:Hv} {ch:List Int} (h:BO C O q m s hs hd ch):BO C (O++Y) q m s hs hd ch:=⟨BV h.o,λi v hv=>BV (h.h i v hv),BV h.d⟩
theorem WY {C:Cs} {O Y:Ae} {m:Nat} {s:Int} {hs:List Hv} {hd:Hv}:BO C (O++Ff C m s O.length hs hd++Y) O.length m s (hs.map (C0 m)) (C0 hs.length hd) (List.replicate hs.length 0):=by
 have e:∀ k,(O++Ff C m s O.length hs hd)[O.length+k]?=(Ff C m s O.length hs hd)[k]?:=λk=>by rw [List.getElem?_append_right wF,Nat.add_sub_cancel_left]
 have hl:(hs.map λv=>some (C.o (m:Nat) s (C0 m v))).length=hs.length:=List.length_map ..
 refine BO.app ⟨?_,λi v hv=>?_,?_⟩
 ·rw [List.length_map]
  exact e 0
 ·rw [List.getElem?_map] at hv
  obtain ⟨w,hw,rfl⟩:=Option.map_eq_some_iff.mp hv
  have hi:=(List.getElem?_eq_some_iff.mp hw).1
  rw [Nat.add_assoc,e]
  show (_::_)[1+i]?=_
  rw [Nat.add_comm 1 i,List.getElem?_cons_succ,List.getElem?_append_left wF,List.getElem?_map,hw]
  rfl
 ·rw [Nat.add_assoc,e,List.length_map]
  show (_::_)[1+hs.length]?=_
  rw [Nat.add_comm 1 hs.length,List.getElem?_cons_succ,List.getElem?_append_right wF,hl,Nat.sub_self]
  rfl
theorem B6.hear {n m:Nat} {s so:Int} {hs:List Hv} {hd:Hv} {ch:List Int} {said:List (Option Int)} (h:B6 n m s hs hd ch) (hsd:Bx (m:Nat) s said) (hso:0<=so/\so<=s) (h0:0<=s):B6 (n+1) m s (hs.map (Cr said so)) (Cr (Cw (BN m said hs)) so hd) (GA m said so hs ch):=by
 refine ⟨λv hv=>?_,by rw [List.length_map]; exact h.d.hear (Mn h.h h.l2 hsd h0) hso,by rw [List.length_map]; exact h.l1,by rw [List.length_map]; exact h.l2,?_⟩
 ·obtain ⟨w,hw,rfl⟩:=List.mem_map.mp hv
  exact (h.h w hw).hear hsd hso
 ·unfold GA BN
  rw [List.length_map,List.length_zip,List.length_map,List.length_map,h.c]
  omega
theorem B6.anew {n m:Nat} {s:Int} {hs:List Hv} {hd:Hv} {ch:List Int} (h:B6 n m s hs hd ch):B6 0 m s (hs.map (C0 m)) (C0 hs.length hd) (List.replicate hs.length 0):=⟨λv hv=>by
 obtain ⟨w,hw,rfl⟩:=List.mem_map.mp hv
 exact (h.h w hw).anew,by rw [List.length_map]; exact h.d.anew,by rw [List.length_map]; exact h.l1,by rw [List.length_map]; exact h.l2,by rw [List.length_replicate,List.length_map]⟩
inductive Ov where
 | n | i (v:Int) | b (t:Bool) | s (x:Str) | t (xs:List D) | l (xs:List D)
def ov:Ov->D
 | .n=>.non | .i v=>.int v | .b t=>.bl t | .s x=>.str x | .t xs=>.tup xs | .l xs=>.lst xs
def LK:Ov->Bool
 | .i _=>true
 | _=>false
def Bt (s:Int):Ov->Bool
 | .i v=>decide (0<=v)&&decide (v<=s)
 | _=>false
def Ch (s:Int) (w:Ov):Bool:=Ej (ov w)||Bt s w
inductive Sv where
 | t (xs:List Ov) | o (v:Ov)
def sv:Sv->D
 | .t xs=>.tup (xs.map ov)
 | .o v=>ov v
def isT:Ov->Bool
 | .t _=>true
 | _=>false
def DZ:Sv->Prop
 | .t xs=>xs.length<=100
 | .o v=>isT v=false
def Bi (m s:Int):Sv->Bool
 | .t xs=>decide ((xs.length:Int)=m)&&xs.all (Ch s)
 | .o _=>false
theorem OL {b:Bool} (h:(!b)=true):b=false:=by cases b <;> first | rfl | cases h
theorem OM {b:Bool} (h:(!b)=false):b=true:=by cases b <;> first | rfl | cases h
theorem HM (v:Ov):FQ (ov v)=true:=by cases v <;> rfl
def Jt:List D->D->Prop:=λds d=>∃ v:Ov,ds=[ov v]/\d=.bl (LK v)
def Jr:List D->D->Prop:=λds d=>∃ (s:Int) (v:Ov),ds=[.int s,ov v]/\d=.bl (Bt s v)
def Hs:List D->D->Prop:=λds d=>∃ (m s:Int) (x:Sv),ds=[.int m,.int s,sv x]/\DZ x/\d=.bl (Bi m s x)
theorem JQ {m s:Int} {xs:List Ov} (h:¬ (xs.length:Int)=m):Bi m s (.t xs)=false:=by
 show (decide ((xs.length:Int)=m)&&_)=false
 rw [decide_eq_false h]; rfl
def BQ:Option Int->Ov
 | none=>.n
 | some i=>.i i
theorem Va (w:Option Int):ov (BQ w)=od w:=by cases w <;> rfl
theorem U9 (l:List (Option Int)):(l.map BQ).map ov=l.map od:=by rw [List.map_map]; exact List.map_congr_left λw _=>Va w
inductive Tv where
 | two (x:Sv) (y:Ov) | o (v:Ov) | many (xs:List D)
def tv:Tv->D
 | .two x y=>.tup [sv x,ov y]
 | .o v=>ov v
 | .many xs=>.tup xs
def Z7:Tv->Prop
 | .two x _=>DZ x
 | .o v=>isT v=false
 | .many xs=>¬ (xs.length:Int)=2
def Rs (m s:Int):Tv->Bool
 | .two x y=>Bi m s x&&Bt s y
 | _=>false
def Ju:List D->D->Prop:=λds d=>∃ (m s:Int) (x:Tv),ds=[.int m,.int s,tv x]/\Z7 x/\d=.bl (Rs m s x)
theorem FB (l:List (Option Int)):sv (.t (l.map BQ))=.tup (l.map od):=congrArg D.tup (U9 l)
theorem Vr (s:Int) (w:Option Int):Bt s (BQ w)=DO s w:=by cases w <;> rfl
theorem HC {m s:Int} {said:List (Option Int)} (h:Bx m s said):Bi m s (.t (said.map BQ))=true:=by
 obtain ⟨h1,_,h3⟩:=h
 show (decide (((said.map BQ).length:Int)=m)&&(said.map BQ).all (Ch s))=true
 rw [decide_eq_true (by rw [List.length_map]; exact h1),List.all_map]
 show (true&&said.all _)=true
 rw [List.all_eq_true.mpr λw hw=>?_]
 ·rfl
 ·show (Ej (ov (BQ w))||Bt s (BQ w))=true
  rcases h3 w hw with rfl | h
  ·rfl
  ·rw [Vr,h,Bool.or_true]
theorem Hw {m s:Int} {said:List (Option Int)} (h:Bx m s said):DZ (.t (said.map BQ)):=by
 have h1:=h.1; have h2:=h.2.1
 show (said.map BQ).length<=100
 rw [List.length_map]
 omega
theorem Ll {s so:Int} (h:0<=so/\so<=s):Bt s (.i so)=true:=by
 show (decide (0<=so)&&decide (so<=s))=true
 rw [decide_eq_true h.1,decide_eq_true h.2]; rfl
def JC (C:Addr):Cl:=λds O R RX=>∃ (m s:Int) (x:Sv) (y:Ov),ds=[.int m,.int s,sv x,ov y]/\DZ x/\((Bi m s x&&Bt s y)=true->R .non O)/\((Bi m s x&&Bt s y)=false->RX C [("number",.int 0)] O)
def JB (C:Cs):AE:=λds O R=>∃ (m:Nat) (s x:Int),ds=[.int (m:Nat),.int s,.int x]/\(1<=m/\m<=24)/\(1<=s/\s<=10)/\∀ v,BW 0 m s v->R (.ptr O.length) (O++[some (C.o (m:Nat) s v)])
def QC (C:Cs) (O:Ae) (m:Nat) (s:Int) (pv:List (Nat×Hv)):Prop:=∀ x∈pv,O[x.1]?=some (some (C.o (m:Nat) s x.2))/\BW 0 m s x.2
def NL (C:Cs):AE:=λds O R=>∃ (m:Nat) (s x:Int),ds=[.int (m:Nat),.int s,.int x]/\Lo x/\(1<=m/\m<=24)/\(1<=s/\s<=10)/\∀ (O':Ae) (pv:List (Nat×Hv)),(∃ Y,O'=O++Y)->QC C O' m s pv->(1<=pv.length/\pv.length<=5)->R (.tup (pv.map λz=>.ptr z.1)) O'
theorem Rj {O O' Z:Ae} (h:∃ Y,O'=O++Y):∃ Y,O'++Z=O++Y:=by
 obtain ⟨Y,rfl⟩:=h
 exact ⟨_,List.append_assoc ..⟩
theorem Ss (x:Int):∃ n:Nat,Bf [D.int 1,.int 2,.int 3,.int 5] (x%4)=some (.int (n:Nat))/\1<=n/\n<=5:=by
 have h:x%4=0\/x%4=1\/x%4=2\/x%4=3:=by omega
 rcases h with h | h | h | h <;> rw [h]
 ·exact ⟨1,rfl,by decide,by decide⟩
 ·exact ⟨2,rfl,by decide,by decide⟩
 ·exact ⟨3,rfl,by decide,by decide⟩
 ·exact ⟨5,rfl,by decide,by decide⟩
def JD (C:Addr):Cl:=λds O R RX=>∃ (m s:Int) (x:Sv),ds=[.int m,.int s,sv x]/\DZ x/\(Bi m s x=true->R .non O)/\(Bi m s x=false->RX C [("number",.int 0)] O)
theorem Lk {s v:Int} (hv:v<0\/s<v):Bt s (.i v)=false:=by
 show (decide (0<=v)&&decide (v<=s))=false
 rcases hv with h | h
 ·rw [decide_eq_false wF]; rfl
 ·rw [decide_eq_false (show ¬ v<=s by omega),Bool.and_false]
theorem TF {m s:Int} {l:List Ov} {w:Ov} (h1:w∈l) (h2:Ch s w=false):Bi m s (.t l)=false:=by
 show (decide _&&l.all (Ch s))=false
 have:l.all (Ch s)=false:=by
  cases e:l.all (Ch s) with
  | false=>rfl
  | true=>rw [List.all_eq_true.mp e w h1] at h2; cases h2
 rw [this,Bool.and_false]
def HN (s j:Int):Ov:=if j=0 then .i (-1) else if j=1 then .i (s+1) else if j=2 then .b true else .s "0"
theorem WP {s j:Int} (h:j=0\/j=1\/j=2\/j=3):Bf [D.int (-1),.int (s+1),.bl true,.str "0"] j=some (ov (HN s j)):=by
 rcases h with rfl | rfl | rfl | rfl <;> rfl
theorem WO {s j:Int} (h:j=0\/j=1\/j=2\/j=3) (hs:1<=s):Ch s (HN s j)=false/\HP (ov (HN s j))=true:=by
 have h1:∀ v:Int,(v<0\/s<v)->Ch s (.i v)=false:=λv hv=>by show (false||Bt s (.i v))=false; rw [Lk hv]; rfl
 rcases h with rfl | rfl | rfl | rfl
 ·exact ⟨h1 (-1) wF,rfl⟩
 ·exact ⟨h1 (s+1) wF,rfl⟩
 ·exact ⟨rfl,rfl⟩
 ·exact ⟨rfl,rfl⟩
theorem XB {xs:List D} {k:Nat} (h:k<xs.length):Dw xs.length ((k:Nat):Int)=some k:=by
 unfold Dw
 rw [if_pos wF,if_pos wF,Int.toNat_natCast]
theorem Vs {s:Int} {y:Ov} (h:Bt s y=true):∃ so,y=.i so/\0<=so/\so<=s:=by
 cases y with
 | i so=>
  have h:(decide (0<=so)&&decide (so<=s))=true:=h
  rw [Bool.and_eq_true,decide_eq_true_eq,decide_eq_true_eq] at h
  exact ⟨so,rfl,h⟩
 | _=>cases h
theorem WH {s:Int} {w:Ov} (h:Ch s w=true):∃ o:Option Int,w=BQ o/\(o=none\/DO s o=true):=by
 cases w with
 | n=>exact ⟨none,rfl,.inl rfl⟩
 | i v=>exact ⟨some v,rfl,.inr h⟩
 | _=>cases h
theorem Na {s:Int}:∀ {xs:List Ov},xs.all (Ch s)=true->∃ said:List (Option Int),xs=said.map BQ/\∀ w∈said,w=none\/DO s w=true
 | [],_=>⟨[],rfl,λw h=>by cases h⟩
 | x::xs,h=>by
  rw [List.all_cons,Bool.and_eq_true] at h
  obtain ⟨o,rfl,ho⟩:=WH h.1
  obtain ⟨said,rfl,hs⟩:=Na h.2
  refine ⟨o::said,rfl,λw hw=>?_⟩
  rcases List.mem_cons.mp hw with rfl | hw
  ·exact ho
  ·exact hs w hw
theorem Oc {m s:Int} {x:Sv} (hm:m<=24) (h:Bi m s x=true):∃ said:List (Option Int),x=.t (said.map BQ)/\Bx m s said:=by
 cases x with
 | o v=>cases h
 | t xs=>
  have h:(decide ((xs.length:Int)=m)&&xs.all (Ch s))=true:=h
  rw [Bool.and_eq_true,decide_eq_true_eq] at h
  obtain ⟨said,rfl,hs⟩:=Na h.2
  have h1:=h.1
  rw [List.length_map] at h1
  exact ⟨said,rfl,h1,hm,hs⟩
def PZ (b:Bool):Str:=if b then "none" else "turn"
def Cf (b:Bool):D:=.tup [.str (PZ b),.bl true]
theorem K4 (b:Bool):CU (Cf b) (Cf b)=true:=by cases b <;> decide +kernel
theorem FK (b:Bool):B1 (Cf b)=true:=by cases b <;> decide +kernel
theorem K5 (b:Bool):CV (Cf b)<=60:=by cases b <;> decide
def Gh (CK8 CK7:Addr):AE:=λds O R=>∃ (q:Nat) (C:Addr) (fs:List (Str×D)),ds=[.ptr q]/\O[q]?=some (some (.exc C fs))/\((C=CK8/\R (.str "turn") O)\/(C=CK7/\R (.str "rule") O))
def hO (x sc:Int) (k:Nat):Ov:=if decide (x/(0+(k:Nat)+3)%5=0)=true then .n else .i (x/(0+(k:Nat)+2)%(sc+1))
theorem X5 (x sc:Int) (k:Nat):(if decide (x/(0+(k:Nat)+3)%5=0)=true then D.non else .int (x/(0+(k:Nat)+2)%(sc+1)))=ov (hO x sc k):=by
 unfold hO
 split <;> rfl
theorem TN (b:Bool):Bf [D.str "rule",.str "none"] (if b then 1 else 0)=some (.str (if b then "none" else "rule")):=by cases b <;> rfl
structure Hq where
 q:Nat
 m:Nat
 s:Int
 v:Hv
def Dc (C:Cs) (O:Ae) (x:Hq):Prop:=O[x.q]?=some (some (C.o (x.m:Nat) x.s x.v))/\∃ n,BW n x.m x.s x.v
inductive Th where
 | h (x:Hq) | d (d:D) | o (q:Nat) (C:Addr) (fs:List (Str×D))
def Ez:Th->D
 | .h x=>.ptr x.q
 | .d d=>d
 | .o q _ _=>.ptr q
def Ge:D->Bool
 | .non=>true | .int _=>true | .str _=>true | .tup _=>true | _=>false
theorem Rm {d:D} (h:Ge d=true):∃ T,Hi d=some T/\T∈["NoneType","int","str","tuple"]:=by
 cases d <;> first | exact ⟨_,rfl,by decide⟩ | cases h
def DY (C:Cs) (CM CB:Addr) (O:Ae):Th->Prop
 | .h x=>Dc C O x
 | .d d=>Ge d=true
 | .o q c fs=>O[q]?=some (some (.ins c fs))/\(c=CM\/c=CB)
def Dx:Th->Bool
 | .h _=>true
 | _=>false
theorem Dc.app {C:Cs} {O Y:Ae} {x:Hq} (h:Dc C O x):Dc C (O++Y) x:=⟨BV h.1,h.2⟩
theorem DY.app {C:Cs} {CM CB:Addr} {O Y:Ae} {t:Th} (h:DY C CM CB O t):DY C CM CB (O++Y) t:=by
 cases t with
 | h x=>exact Dc.app h
 | d d=>exact h
 | o q c fs=>exact ⟨BV h.1,h.2⟩
section
variable {X:Cx} {ρ:Ai} {O:Ae} {C:Cs} {CM CB C2:Addr} {e:Expr} {x:Str} {t:Th} {y:Hq} {p p2 pos:Pos}
theorem Iu (hm:X.mg "isinstance" = none) (he:Ad X ρ O e (Ez t)) (ht:DY C CM CB O t) (t1:Br X.K C.h) (t2:Br X.K C.w) (t3:Br X.K C.s) (t4:Br X.K C.r) (hx:X.mg x=some (.ref C2)) (k1:PySem.W.kitOne X.K (.ref C.h) (.ref C2)=some true) (k2:PySem.W.kitOne X.K (.ref C.w) (.ref C2)=some true) (k3:PySem.W.kitOne X.K (.ref C.s) (.ref C2)=some true) (k4:PySem.W.kitOne X.K (.ref C.r) (.ref C2)=some true) (t6:Br X.K C.f) (k6:PySem.W.kitOne X.K (.ref C.f) (.ref C2)=some true)
  (tm:Br X.K CM) (km:PySem.W.kitOne X.K (.ref CM) (.ref C2)=some false) (tb:Br X.K CB) (kb:PySem.W.kitOne X.K (.ref CB) (.ref C2)=some false)
  (hg:Gl X "isinstance" := by rfl) (hgx:Gl X x:=by rfl) (hdx:(x==("__debug__" : Str))=false:=by decide) (hs:starEach [e,.Name x p2] X.env=(false,eval e X.env)::starEach [.Name x p2] X.env:=by rfl) (hpl:(backTo pos (starEach [.Name x p2] X.env)).any (·.1)=false:=by rfl) :
  Ad X ρ O (.Call (.Name "isinstance" p) [e,.Name x p2] [] pos) (.bl (Dx t)):=by
 cases t with
 | h y=>exact YF hm he ht.1 t1 t2 t3 t4 hx k1 k2 k3 k4 t6 k6 hg hgx hdx hs hpl
 | d d=>
  obtain ⟨T,h1,h2⟩:=Rm ht
  exact YG hm he h1 hx (Xt km h2) hg hgx hdx hs hpl
 | o q c fs=>
  obtain ⟨h1,rfl | rfl⟩:=ht
  ·exact Fj hm he h1 tm hx km hg hgx hdx hs hpl
  ·exact Fj hm he h1 tb hx kb hg hgx hdx hs hpl
theorem YE (hm:X.mg "isinstance" = none) (he:Ad X ρ O e (.ptr y.q)) (hy:Dc C O y) (hx:X.mg "tuple" = none) (t1:Br X.K C.h) (t2:Br X.K C.w) (t3:Br X.K C.s) (t4:Br X.K C.r) (t6:Br X.K C.f) (k1:PySem.W.kitOne X.K (.ref C.h) (.type "tuple")=some false) (k2:PySem.W.kitOne X.K (.ref C.w) (.type "tuple")=some false) (k3:PySem.W.kitOne X.K (.ref C.s) (.type "tuple")=some false) (k4:PySem.W.kitOne X.K (.ref C.r) (.type "tuple")=some false) (k6:PySem.W.kitOne X.K (.ref C.f) (.type "tuple")=some false)
  (hg:Gl X "isinstance" := by rfl) (hgx:Gl X "tuple" := by rfl) (hs:starEach [e,.Name "tuple" p2] X.env=(false,eval e X.env)::starEach [.Name "tuple" p2] X.env:=by rfl) (hpl:(backTo pos (starEach [.Name "tuple" p2] X.env)).any (·.1)=false:=by rfl) :
  Ad X ρ O (.Call (.Name "isinstance" p) [e,.Name "tuple" p2] [] pos) (.bl false):=by
 obtain ⟨q,m,s,v⟩:=y
 have hq:=hy.1
 cases v with
 | h=>exact GP hm he hq t1 hx k1 (by first | rfl | decide +kernel) hg hgx wE wE hs hpl
 | v sf p ws u=>
  cases sf
  ·exact GP hm he hq t2 hx k2 (by first | rfl | decide +kernel) hg hgx wE wE hs hpl
  ·exact GP hm he hq t3 hx k3 (by first | rfl | decide +kernel) hg hgx wE wE hs hpl
 | r ins ov=>exact GP hm he hq t4 hx k4 (by first | rfl | decide +kernel) hg hgx wE wE hs hpl
 | f ps sc=>exact GP hm he hq t6 hx k6 (by first | rfl | decide +kernel) hg hgx wE wE hs hpl
end
def FG (x0:Hq) (hs:List Hq):Bool:=hs.all λx=>decide (((x.m:Nat):Int)=(x0.m:Nat))&&decide (x.s=x0.s)
def QE (C:Cs) (O:Ae) (d:D):Prop:=(FQ d=true/\Ei d "tuple" = false)\/(∃ x:Hq,d=.ptr x.q/\Dc C O x)\/d=.tup []
def Ep (C:Cs) (CM CB:Addr) (O:Ae) (d:D):Prop:=QE C O d\/(∃ ts:List Th,d=.tup (ts.map Ez)/\(∀ t∈ts,DY C CM CB O t)/\(1<=ts.length/\ts.length<=25)/\ts.all Dx=false)\/∃ (hs:List Hq) (x0:Hq),d=.tup (hs.map λx=>.ptr x.q)/\(∀ x∈hs,Dc C O x)/\hs[0]?=some x0/\hs.length<=25/\FG x0 hs=false
def JL (C:Cs) (CM CB:Addr):AE:=λds O R=>∃ d,ds=[d]/\((QE C O d/\R (.bl false) O)\/(∃ ts:List Th,d=.tup (ts.map Ez)/\(∀ t∈ts,DY C CM CB O t)/\(1<=ts.length/\ts.length<=25)/\ts.all Dx=false/\R (.bl false) O)\/∃ (hs:List Hq) (x0:Hq),d=.tup (hs.map λx=>.ptr x.q)/\(∀ x∈hs,Dc C O x)/\hs[0]?=some x0/\hs.length<=25/\R (.bl (FG x0 hs)) O)
theorem Ep.sp {C:Cs} {CM CB:Addr} {O:Ae} {d:D} {R:D->Ae->Prop} (h:Ep C CM CB O d) (hR:R (.bl false) O):JL C CM CB [d] O R:=by
 rcases h with h | ⟨ts,h1,h2,h3,h4⟩ | ⟨hs,x0,h1,h2,h3,h4,h5⟩
 ·exact ⟨d,rfl,.inl ⟨h,hR⟩⟩
 ·exact ⟨d,rfl,.inr (.inl ⟨ts,h1,h2,h3,h4,hR⟩)⟩
 ·exact ⟨d,rfl,.inr (.inr ⟨hs,x0,h1,h2,h3,h4,by rw [h5]; exact hR⟩)⟩
theorem Ep.app {C:Cs} {CM CB:Addr} {O Y:Ae} {d:D} (h:Ep C CM CB O d):Ep C CM CB (O++Y) d:=by
 rcases h with (h | ⟨x,rfl,hx⟩ | h) | ⟨ts,h1,h2,h3,h4⟩ | ⟨hs,x0,h1,h2,h3,h4,h5⟩
 ·exact .inl (.inl h)
 ·exact .inl (.inr (.inl ⟨x,rfl,hx.app⟩))
 ·exact .inl (.inr (.inr h))
 ·exact .inr (.inl ⟨ts,h1,λt ht=>(h2 t ht).app,h3,h4⟩)
 ·exact .inr (.inr ⟨hs,x0,h1,λt ht=>(h2 t ht).app,h3,h4,h5⟩)
def Ij (n:Nat) (s:Int):Th->Bool
 | .h x=>decide (((x.m:Nat):Int)=(n:Nat))&&decide (x.s=s)
 | _=>false
def NK (C:Cs) (CM CB:Addr):AE:=λds O R=>∃ (m:Nat) (s:Int) (pv:List (Nat×Hv)) (t:Th),ds=[.tup (pv.map λx=>.ptr x.1),Ez t]/\BB C O m s pv/\(1<=pv.length/\pv.length<=25)/\DY C CM CB O t/\R (.bl (Ij pv.length s t)) O
def Q0a (C:Cs) (CM CB:Addr) (O:Ae) (d d2:D):Prop:=∃ (m:Nat) (s:Int) (pv:List (Nat×Hv)) (t:Th),d=.tup (pv.map λx=>.ptr x.1)/\d2=Ez t/\BB C O m s pv/\(1<=pv.length/\pv.length<=25)/\DY C CM CB O t/\Ij pv.length s t=false
def F3 (C:Cs) (CM CB:Addr) (O:Ae) (d d2:D):Prop:=Ep C CM CB O d\/Q0a C CM CB O d d2
theorem F3.app {C:Cs} {CM CB:Addr} {O Y:Ae} {d d2:D} (h:F3 C CM CB O d d2):F3 C CM CB (O++Y) d d2:=by
 rcases h with h | ⟨m,s,pv,t,h1,h2,h3,h4,h5,h6⟩
 ·exact .inl h.app
 ·exact .inr ⟨m,s,pv,t,h1,h2,h3.app,h4,h5.app,h6⟩
def Q1x (C:Cs) (O:Ae) (d d2:D):Prop:=∃ (m:Nat) (s:Int) (pv:List (Nat×Hv)) (hp:Nat) (hd:Hv),d=.tup (pv.map λx=>.ptr x.1)/\d2=.ptr hp/\BB C O m s pv/\BB C O pv.length s [(hp,hd)]/\(1<=m/\m<=24)/\(1<=s/\s<=10)/\(1<=pv.length/\pv.length<=24)
def Mr (C:Cs) (CM CB:Addr) (O:Ae) (d d2:D) (b:Bool):Prop:=(b=true/\Q1x C O d d2)\/(b=false/\F3 C CM CB O d d2)
def Jo (C:Cs) (CM CB CN:Addr):Cl:=λds O R RX=>R6 C ds O R\/∃ d d2,ds=[d,d2]/\F3 C CM CB O d d2/\RX CN [] O
def Gm (C:Cs) (CM CB CN:Addr):Cl:=λds O R RX=>R8 C ds O R\/∃ (q:Nat) (d d2:D),ds=[.ptr q,d,d2]/\F3 C CM CB O d d2/\RX CN [] O
def Gi (C:Cs) (CN:Addr):Cl:=λds O R RX=>R7 C ds O R\/∃ (q m:Nat) (s:Int) (hs:List Hv) (hd:Hv) (ch:List Int) (x:Sv),ds=[.ptr q,sv x]/\BO C O q m s hs hd ch/\DZ x/\Bi (m:Nat) s x=false/\RX CN [("number",.int 0)] O
def Ht (C:Cs) (CN:Addr):Cl:=λds O R RX=>R9 C ds O R\/∃ (q m:Nat) (s:Int) (hs:List Hv) (hd:Hv) (ch:List Int) (x:Sv) (y:Ov),ds=[.ptr q,sv x,ov y]/\BO C O q m s hs hd ch/\DZ x/\(Bi (m:Nat) s x&&Bt s y)=false/\RX CN [("number",.int 0)] O
def NC (C:Addr):AE:=λds O R=>∃ (q:Nat) (m s t b:Int),ds=[.ptr q,.int m,.int s,.int t,.int b]/\O[q]?=some (some (.ins C []))/\(1<=m/\m<=24)/\(1<=s/\s<=10)/\(0<=t/\t<b/\b<=100)/\∀ fs,R .non (O.set q (some (.ins C fs)))
def ND (C:Addr):AE:=λds O R=>∃ (q:Nat) (sc t b:Int),ds=[.ptr q,.int sc,.int t,.int b]/\O[q]?=some (some (.ins C []))/\(1<=sc/\sc<=10)/\(0<=t/\t<b/\b<=100)/\∀ fs,R .non (O.set q (some (.ins C fs))++[some (MO.dct [] [])])
def NF (C:Cs) (CM CB:Addr):AE:=λds O R=>∃ d d2 b,ds=[d,d2]/\Mr C CM CB O d d2 b/\R (.str (if b then "none" else "rule")) O
def NB (C:Cs) (CM CB:Addr):AE:=λds O R=>∃ (m:Nat) (s x:Int) (pv:List (Nat×Hv)) (hp:Nat) (hd:Hv),ds=[.tup (pv.map λx=>.ptr x.1),.ptr hp,.int x]/\BB C O m s pv/\BB C O pv.length s [(hp,hd)]/\(1<=m/\m<=6)/\(1<=s/\s<=10)/\(1<=pv.length/\pv.length<=5)/\∀ O' d d2 b,(∃ Y,O'=O++Y)->Mr C CM CB O' d d2 b->R (.tup [d,d2,.bl b]) O'
def D1 (l:Nat) (O O':Ae):Prop:=∀ j,j<l->O'[j]?=O[j]?
theorem Xs {l:Nat} {O O1 O':Ae} (h:D1 l O1 O') (hu:∃ Y,O1=O++Y) (hl:O.length<=l):∃ Y,O'=O++Y:=by
 obtain ⟨Y,rfl⟩:=hu
 refine ⟨O'.drop O.length,List.ext_getElem? λj=>?_⟩
 by_cases hj:j<O.length
 ·rw [h j wF,List.getElem?_append_left hj,List.getElem?_append_left hj]
 ·rw [List.getElem?_append_right wF,List.getElem?_drop,show O.length+(j-O.length)=j by omega]
def NQ (C:Cs):AE:=λds O R=>∃ (q n m:Nat) (s:Int) (hs:List Hv) (hd:Hv) (ch:List Int) (x:Sv) (y:D),ds=[.ptr q,sv x,y,.bl false]/\BO C O q m s hs hd ch/\B6 n m s hs hd ch/\(1<=m/\m<=24)/\0<=s/\DZ x/\R (Cf (Bi (m:Nat) s x)) O
def NR (C:Cs):AE:=λds O R=>∃ (q n m:Nat) (s:Int) (hs:List Hv) (hd:Hv) (ch:List Int) (x:Sv) (y:Ov),ds=[.ptr q,sv x,ov y,.bl true]/\BO C O q m s hs hd ch/\B6 n m s hs hd ch/\n<=1000/\(1<=m/\m<=24)/\0<=s/\DZ x /\
 ((Bi (m:Nat) s x&&Bt s y)=true->∀ O' hs' hd' ch',D1 q O O'->BO C O' q m s hs' hd' ch'->B6 (n+1) m s hs' hd' ch'->R (Cf true) O')/\((Bi (m:Nat) s x&&Bt s y)=false->∀ Y,R (Cf false) (O++Y))
def DW (w:Int):Bool:=decide (w<3)||(decide (w=4)||decide (w=5))
def Nu:AE:=λds O R=>∃ (m:Nat) (s x:Int),ds=[.int (m:Nat),.int s,.int x]/\(1<=m/\m<=24)/\(1<=s/\s<=10)/\∀ O' (L:List Ov) (y:Ov) (w:Int),(∃ Y,O'=O++Y)->L.length<=25->Bi (m:Nat) s (.t L)=!DW w->Bt s y=!decide (w=3)->R (.tup [.tup (L.map ov),ov y,.int w]) O'
def NJ (C:Cs):AE:=λds O R=>∃ (q n m:Nat) (s x:Int) (hs:List Hv) (hd:Hv) (ch:List Int),ds=[.ptr q,.int x]/\BO C O q m s hs hd ch/\B6 n m s hs hd ch/\n<=999/\(1<=m/\m<=24)/\(1<=s/\s<=10)/\∀ O' k hs' hd' ch',D1 q O O'->BO C O' q m s hs' hd' ch'->B6 k m s hs' hd' ch'->k<=n+1->R (.bl true) O'
def Ce (m:Nat) (s:Int) (x:Nat×Hv):Hq:=⟨x.1,m,s,x.2⟩
theorem HH {C:Cs} {O:Ae} {m:Nat} {s:Int} {pv:List (Nat×Hv)} (h:BB C O m s pv):∀ x∈pv.map (Ce m s),Dc C O x:=λx hx=>by
 obtain ⟨y,hy,rfl⟩:=List.mem_map.mp hx
 exact h y hy
theorem N8 (m:Nat) (s:Int) (x0:Nat×Hv) (pv:List (Nat×Hv)):FG (Ce m s x0) (pv.map (Ce m s))=true:=by
 unfold FG
 rw [List.all_map]
 exact List.all_eq_true.mpr λx _=>by
  show (decide (((m:Nat):Int)=(m:Nat))&&decide (s=s))=true
  rw [decide_eq_true rfl,decide_eq_true rfl]; rfl
theorem N9 {x0 y:Hq} {hs:List Hq} (h:y∈hs) (hn:y.m≠x0.m\/y.s≠x0.s):FG x0 hs=false:=by
 unfold FG
 rw [List.all_eq_false]
 refine ⟨y,h,λz=>?_⟩
 rw [Bool.and_eq_true,decide_eq_true_eq,decide_eq_true_eq] at z
 rcases hn with hn | hn
 ·exact hn wF
 ·exact hn z.2
theorem Uu {C:Cs} {CM CB:Addr} {O:Ae} {m m' k q hp:Nat} {s s':Int} {pv:List (Nat×Hv)} {hd:Hv} (hP:BB C O m s pv) (hD:BB C O pv.length s [(hp,hd)]) (hq:Dc C O ⟨q,m',s',.h⟩) (hk:k<pv.length) (hl:pv.length<=5) (hm:1<=m/\m<=24) (hm':1<=m'/\m'<=24) (hs:1<=s/\s<=10) :
  Mr C CM CB O (.tup ((pv.take k).map (λx=>D.ptr x.1)++[.ptr q]++(pv.drop (k+1)).map λx=>D.ptr x.1)) (.ptr hp) (decide (s'=s)&&(decide (m'=m)||decide (pv.length=1))):=by
 have hlen:((pv.take k)++[(q,Hv.h)]++pv.drop (k+1)).length=pv.length:=by simp; omega
 have ed:((pv.take k).map (λx=>D.ptr x.1)++[.ptr q]++(pv.drop (k+1)).map λx=>D.ptr x.1)=((pv.take k)++[(q,Hv.h)]++pv.drop (k+1)).map λx=>D.ptr x.1:=by rw [List.map_append,List.map_append]; rfl
 have hins:m'=m->s'=s->BB C O m s ((pv.take k)++[(q,Hv.h)]++pv.drop (k+1)):=λe1 e2 x hx=>by
  subst e1; subst e2
  rcases List.mem_append.mp hx with hx | hx
  ·rcases List.mem_append.mp hx with hx | hx
   ·exact hP x (List.mem_of_mem_take hx)
   ·rw [List.mem_singleton.mp hx]; exact hq
  ·exact hP x (List.mem_of_mem_drop hx)
 have e1:pv.length=1->(pv.take k)++[(q,Hv.h)]++pv.drop (k+1)=[(q,.h)]:=λe=>by
  have:k=0:=by omega
  subst this
  rw [List.take_zero,List.drop_eq_nil_of_le wF]; rfl
 have one:pv.length=1->BB C O m' s' [(q,Hv.h)]:=λ_ x hx=>by rw [List.mem_singleton.mp hx]; exact hq
 have mix:pv.length≠1->(m'≠m\/s'≠s)->Ep C CM CB O (.tup ((pv.take k).map (λx=>D.ptr x.1)++[.ptr q]++(pv.drop (k+1)).map λx=>D.ptr x.1)):=λh1 hn=>by
  refine .inr (.inr ?_)
  have eh:((pv.take k).map (λx=>D.ptr x.1)++[.ptr q]++(pv.drop (k+1)).map λx=>D.ptr x.1)=((pv.take k).map (Ce m s)++[(⟨q,m',s',.h⟩:Hq)]++(pv.drop (k+1)).map (Ce m s)).map λx=>D.ptr x.q:=by rw [List.map_append,List.map_append,List.map_map,List.map_map]; rfl
  have hall:∀ x∈(pv.take k).map (Ce m s)++[(⟨q,m',s',.h⟩:Hq)]++(pv.drop (k+1)).map (Ce m s),Dc C O x:=λx hx=>by
   rcases List.mem_append.mp hx with hx | hx
   ·rcases List.mem_append.mp hx with hx | hx
    ·exact HH (λy hy=>hP y (List.mem_of_mem_take hy)) x hx
    ·rw [List.mem_singleton.mp hx]; exact hq
   ·exact HH (λy hy=>hP y (List.mem_of_mem_drop hy)) x hx
  have hL:((pv.take k).map (Ce m s)++[(⟨q,m',s',.h⟩:Hq)]++(pv.drop (k+1)).map (Ce m s)).length<=25:=by simp; omega
  by_cases hk0:k=0
  ·subst hk0
   obtain ⟨y,hy⟩:∃ y,pv[1]?=some y:=⟨_,List.getElem?_eq_getElem (show 1<pv.length by omega)⟩
   refine ⟨_,⟨q,m',s',.h⟩,congrArg D.tup eh,hall,rfl,hL,N9 (y:=Ce m s y) ?_ ?_⟩
   ·refine List.mem_append_right _ (List.mem_map.mpr ⟨y,?_,rfl⟩)
    exact List.mem_of_getElem? (i:=0) (by rw [List.getElem?_drop]; exact hy)
   ·exact hn.imp Ne.symm Ne.symm
  ·obtain ⟨y,hy⟩:∃ y,pv[0]?=some y:=⟨_,List.getElem?_eq_getElem (show 0<pv.length by omega)⟩
   refine ⟨_,Ce m s y,congrArg D.tup eh,hall,?_,hL,N9 (y:=⟨q,m',s',.h⟩) (List.mem_append_left _ (List.mem_append_right _ (List.mem_singleton.mpr rfl))) hn⟩
   rw [List.append_assoc,List.getElem?_append_left (by simp; omega),List.getElem?_map,List.getElem?_take_of_lt wF,hy]; rfl
 by_cases hs':s'=s
 ·rw [decide_eq_true hs',Bool.true_and]
  by_cases hm2:m'=m
  ·rw [decide_eq_true hm2,Bool.true_or]
   exact .inl ⟨rfl,m,s,_,hp,hd,congrArg D.tup ed,rfl,hins hm2 hs',by rw [hlen]; exact hD,hm,hs,by rw [hlen]; omega⟩
  ·rw [decide_eq_false hm2,Bool.false_or]
   by_cases hl1:pv.length=1
   ·rw [decide_eq_true hl1,ed,e1 hl1]
    subst hs'
    exact .inl ⟨rfl,m',s',[(q,.h)],hp,hd,rfl,rfl,one hl1,by rw [hl1] at hD; exact hD,hm',hs,by show 1<=1/\1<=24; decide⟩
   ·rw [decide_eq_false hl1]
    exact .inr ⟨rfl,.inl (mix hl1 (.inl hm2))⟩
 ·rw [decide_eq_false hs',Bool.false_and]
  refine .inr ⟨rfl,?_⟩
  by_cases hl1:pv.length=1
  ·rw [ed,e1 hl1]
   have h2:=hD (hp,hd) (List.mem_singleton.mpr rfl)
   refine .inr ⟨m',s',[(q,.h)],.h ⟨hp,pv.length,s,hd⟩,rfl,rfl,one hl1,(by show 1<=1/\1<=25; decide),h2,?_⟩
   show (_&&decide (s=s'))=false
   rw [decide_eq_false (Ne.symm hs'),Bool.and_false]
  ·exact .inl (mix hl1 (.inr hs'))
theorem Uv {C:Cs} {CM CB:Addr} {O:Ae} {m k:Nat} {s:Int} {pv:List (Nat×Hv)} {t:Th} (hP:BB C O m s pv) (ht:DY C CM CB O t) (hn:Dx t=false) (hk:k<pv.length) (hl:pv.length<=5):Ep C CM CB O (.tup ((pv.take k).map (λx=>D.ptr x.1)++[Ez t]++(pv.drop (k+1)).map λx=>D.ptr x.1)):=by
 refine .inr (.inl ⟨(pv.take k).map (λx=>Th.h (Ce m s x))++[t]++(pv.drop (k+1)).map (λx=>Th.h (Ce m s x)),by rw [List.map_append,List.map_append,List.map_map,List.map_map]; rfl,λx hx=>?_,by simp; omega,?_⟩)
 ·rcases List.mem_append.mp hx with hx | hx
  ·rcases List.mem_append.mp hx with hx | hx
   ·obtain ⟨y,hy,rfl⟩:=List.mem_map.mp hx
    exact hP y (List.mem_of_mem_take hy)
   ·rw [List.mem_singleton.mp hx]; exact ht
  ·obtain ⟨y,hy,rfl⟩:=List.mem_map.mp hx
   exact hP y (List.mem_of_mem_drop hy)
 ·rw [List.all_append,List.all_append]
  show (_&&(Dx t&&true)&&_)=false
  rw [hn]; simp
def Dj (m:Nat) (w:Int):Nat:=if w=0 then m+1 else if w=1 then (if m=1 then 2 else m-1) else m
def Di (s w:Int):Int:=if w=2 then s%10+1 else s
theorem Vt {m:Nat} {w:Int} (hm:1<=m) (hw:0<=w/\w<4):Bf [D.int ((m:Nat)+1),.int ((m:Nat)-1+2*(if decide (((m:Nat):Int)=1) then 1 else 0)),.int (m:Nat),.int (m:Nat)] w=some (.int (Dj m w:Nat)):=by
 have h:w=0\/w=1\/w=2\/w=3:=by omega
 unfold Dj
 rcases h with rfl | rfl | rfl | rfl
 ·rfl
 ·by_cases h1:m=1
  ·subst h1; rfl
  ·have e:(((m:Nat):Int)-1+2*(if decide (((m:Nat):Int)=1) then 1 else 0))=(((m-1:Nat)):Int):=by rw [decide_eq_false (show ¬ ((m:Nat):Int)=1 by omega)]; show ((m:Nat):Int)-1+2*0=_; omega
   rw [e,if_neg (show ¬ (1:Int)=0 by decide),if_pos rfl,if_neg h1]; rfl
 ·rfl
 ·rfl
theorem Vb {s w:Int} (hw:0<=w/\w<4):Bf [D.int s,.int s,.int (s%10+1),.int s] w=some (.int (Di s w)):=by
 have h:w=0\/w=1\/w=2\/w=3:=by omega
 rcases h with rfl | rfl | rfl | rfl <;> rfl
theorem Vu {m:Nat} {w:Int} (hm:1<=m/\m<=6):1<=Dj m w/\Dj m w<=24:=by unfold Dj; split <;>(try split) <;>(try split) <;> omega
theorem Vc {s w:Int} (hs:1<=s/\s<=10):1<=Di s w/\Di s w<=10:=by unfold Di; split <;> omega
theorem WL {m:Nat} {s w:Int} {l:Nat} (hm:1<=m) (hs:1<=s/\s<=10) (hw:0<=w/\w<4):(decide (w=3)||(decide (((l:Nat):Int)=1)&&(decide (w<3)&&!decide (w=2))))=(decide (Di s w=s)&&(decide (Dj m w=m)||decide (l=1))):=by
 have h:w=0\/w=1\/w=2\/w=3:=by omega
 have hl:decide (((l:Nat):Int)=1)=decide (l=1):=by rw [Bool.eq_iff_iff]; simp only [decide_eq_true_eq]; omega
 rw [hl]
 rcases h with rfl | rfl | rfl | rfl
 ·rw [show Di s 0=s from rfl,show Dj m 0=m+1 from rfl,decide_eq_true (rfl:s=s),decide_eq_false (show ¬ m+1=m by omega)]; simp
 ·have:Dj m 1≠m:=by show (if m=1 then 2 else m-1)≠m; split <;> omega
  rw [show Di s 1=s from rfl,decide_eq_true (rfl:s=s),decide_eq_false this]; simp
 ·rw [show Di s 2=s%10+1 from rfl,decide_eq_false (show ¬ s%10+1=s by omega)]; simp
 ·rw [show Di s 3=s from rfl,show Dj m 3=m from rfl,decide_eq_true (rfl:s=s),decide_eq_true (rfl:m=m)]; simp
theorem OH {C:Cs} {CM CB:Addr} {O:Ae} {qm qb:Nat} {f1 f2:List (Str×D)} (h1:O[qm]?=some (some (.ins CM f1))) (h2:O[qb]?=some (some (.ins CB f2))) {d1 d2 d3:D} (e1:Ge d1=true) (e2:Ge d2=true) (e3:Ge d3=true) (j:Int):∃ t:Th,Bf [d1,d2,d3,.ptr qm,.ptr qb] (j%5)=some (Ez t)/\Dx t=false/\DY C CM CB O t:=by
 have h:j%5=0\/j%5=1\/j%5=2\/j%5=3\/j%5=4:=by omega
 rcases h with h | h | h | h | h <;> rw [h]
 ·exact ⟨.d d1,rfl,rfl,e1⟩
 ·exact ⟨.d d2,rfl,rfl,e2⟩
 ·exact ⟨.d d3,rfl,rfl,e3⟩
 ·exact ⟨.o qm CM f1,rfl,rfl,h1,.inl rfl⟩
 ·exact ⟨.o qb CB f2,rfl,rfl,h2,.inr rfl⟩
theorem OG {s:Int} {t:Th} (n:Nat) (h:Dx t=false):Ij n s t=false:=by cases t <;> first | rfl | cases h
def GC (s j:Int):Ov:=if j%5=0 then .i (-1) else if j%5=1 then .i (s+1) else if j%5=2 then .b false else if j%5=3 then .n else .s "1"
theorem WN (s j:Int):Bf [D.int (-1),.int (s+1),.bl false,.non,.str "1"] (j%5)=some (ov (GC s j)):=by
 unfold GC
 have h:j%5=0\/j%5=1\/j%5=2\/j%5=3\/j%5=4:=by omega
 rcases h with h | h | h | h | h <;> rw [h] <;> rfl
theorem WM (s j:Int):Bt s (GC s j)=false:=by
 unfold GC
 have h:j%5=0\/j%5=1\/j%5=2\/j%5=3\/j%5=4:=by omega
 rcases h with h | h | h | h | h <;> rw [h] <;> first | exact Lk (v:=-1) wF | exact Lk (v:=s+1) wF | rfl
theorem X4 {x s:Int} {m:Nat} (hs:1<=s):Bi (m:Nat) s (.t ((List.range m).map (hO x s)))=true:=by
 show (decide ((((List.range m).map (hO x s)).length:Int)=(m:Nat))&&((List.range m).map (hO x s)).all (Ch s))=true
 rw [decide_eq_true (by rw [List.length_map,List.length_range]),Bool.true_and]
 refine List.all_eq_true.mpr λw hw=>?_
 obtain ⟨k,_,rfl⟩:=List.mem_map.mp hw
 unfold hO
 split
 ·rfl
 ·have h1:=Int.emod_nonneg (x/(0+(k:Nat)+2)) (show s+1≠0 by omega)
  have h2:=Int.emod_lt_of_pos (x/(0+(k:Nat)+2)) (show 0<s+1 by omega)
  show (false||(decide (0<=_)&&decide (_<=s)))=true
  rw [decide_eq_true h1,decide_eq_true (show x/(0+(k:Nat)+2)%(s+1)<=s by omega)]; rfl
theorem QS (m:Nat):(List.replicate ((m:Nat):Int).toNat [D.int 0]).flatten=(List.replicate m (some (0:Int))).map od:=by rw [Int.toNat_natCast,Hd,List.map_replicate,List.map_replicate]; rfl
theorem QR {m:Nat} {s:Int} (hm:m<=24) (hs:1<=s):Bx (m:Nat) s (List.replicate m (some (0:Int))):=by
 refine ⟨by rw [List.length_replicate],by omega,λw hw=>.inr ?_⟩
 rw [List.eq_of_mem_replicate hw]
 show (decide (0<=(0:Int))&&decide ((0:Int)<=s))=true
 rw [decide_eq_true (show (0:Int)<=s by omega)]; rfl
theorem Zc (b:Bool):Bf [D.str "none",.str "turn"] (if b then 1 else 0)=some (.str (PZ (!b))):=by cases b <;> rfl
seal Ad Ev Bd Ex Exs AH BX G8 F8 D2
section
variable {P:Program} {w:World} {K:PySem.W.Frag} {mg:Str->Option Value} {base:Heap} {CK2 CK14 CK11 CK10 CK1 CK12 CK4 CK0 CK3 CK8 CK7 CK6 CK9 CK5 CK13:Addr} {f:Addr} {fd:FuncData} (T:Txt K mg CK2 CK14 CK11 CK10 CK1 CK12 CK4 CK0 CK3 CK8 CK7 CK6 CK9 CK5 CK13)
include T
theorem Wv (Fn:Av K "__init__" "NoTurn.__init__" FI f fd) (Z:F7 K CK8 f "number"):AC P w K mg base AO 1 f fd ["self","number"] (Go CK8 "number"):=
 L2.okI Fn Tj Z T.lv rfl wE wE wE wE (by first | exact Or.inl rfl | exact Or.inr rfl) (by first | exact Or.inl rfl | exact Or.inr rfl) (λ_=>rfl)
theorem VQ (Fn:Av K "is_whole" "is_whole" Ka f fd) (hm:mg "is_whole" = some (.ref f)) (hb:Binds K fd ["value"] []):Am P w K mg base 1 "is_whole" (AA Jt):=by
 refine A4 (k:=0) Fn SG hm hb (λds O R h=>?_) (λcdv A outer s H E ds O R hr h=>?_)
 ·obtain ⟨_,⟨_,rfl,_⟩,_⟩:=h; rfl
 ·obtain ⟨d,⟨v,rfl,rfl⟩,hR⟩:=h
  refine Ac (Ay (Ad.ev (Ck (AT T.vt (Ab (Aa 0) (Ab (Ct T.vv) Af)) (ZT (HM v))) (λhbb=>(Cu (GN (AT T.vt (Ab (Aa 0) (Ab (Ct T.vw) Af)) (GU (HM v))))))) ?_))
  have e:(Ei (ov v) "int" && !Ei (ov v) "bool")=LK v:=by cases v <;> rfl
  rw [e]
  exact hR
theorem VW (Fn:Av K "counted" "counted" Kg f fd) (hm:mg "counted" = some (.ref f)) (hb:Binds K fd ["weights"] []):Am P w K mg base 1 "counted" (AA NO):=by
 refine A4 (k:=0) Fn SM hm hb (λds O R h=>?_) (λcdv A outer s H E ds O R hr h=>?_)
 ·obtain ⟨_,⟨_,rfl,_⟩,_⟩:=h; rfl
 ·obtain ⟨d,⟨ws,rfl,hl,rfl⟩,hR⟩:=h
  refine Ac (AG (AJ (AT T.vn (Ab (Aa 0) Af) (Mg (by first | exact Or.inr rfl | exact Or.inl (Or.inl rfl) | exact Or.inl (Or.inr (Or.inl rfl)) | exact Or.inl (Or.inr (Or.inr ⟨_,rfl,by first | assumption | rfl⟩))))) Ag AV) (λhk=>?_) (λhk=>?_))
  ·have hk:=of_decide_eq_true hk
   refine Ac (Ay (Ad.ev (Cv (λ_=>.int 1) ["weight"] [] [] (CJ (Aa 0) wB) (by rw [sizeLine_eq]; omega) (by exact λq hq s H fp=>⟨[some _],rfl,(A2 0 (show List.Nodup (["weight"]:List Str) by decide +kernel)),⟨_,rfl,Ag⟩⟩)) ?_))
   unfold B5 at hR
   rw [if_pos hk,List.map_map] at hR
   exact hR
  ·have hk:=of_decide_eq_false hk
   refine Aw ?_
   refine Ac (Ay (Ad.ev (Cj T.vm (Ab (Aa 0) Af) (Qi (by first | exact Or.inr rfl | exact Or.inl (Or.inl rfl) | exact Or.inl (Or.inr (Or.inl rfl)) | exact Or.inl (Or.inr (Or.inr ⟨_,rfl,by first | assumption | rfl⟩))))) ?_))
   unfold B5 at hR
   rw [if_neg hk] at hR
   exact hR
theorem VB (Fn:Av K "middle" "middle" JX f fd) (hm:mg "middle" = some (.ref f)) (hb:Binds K fd ["numbers","weights"] []) (zc:Am P w K mg base 1 "counted" (AA NO)):Am P w K mg base 2 "middle" (AA NE):=by
 refine A4 (k:=1) Fn EZ hm hb (λds O R h=>?_) (λcdv A outer s H E ds O R hr h=>?_)
 ·obtain ⟨_,⟨_,_,rfl,_⟩,_⟩:=h; rfl
 ·obtain ⟨d,⟨ns,ws,rfl,⟨h1,h2,h3⟩,rfl⟩,hR⟩:=h
  refine Ac (AL 2 (Ad.ev (AF zc (hr.mono wE) (Ab (Aa 1) Af) ⟨_,rfl,by assumption,rfl⟩) ?_) EZ.nd)
  have hc:=Qc h3
  have hcl:=Qd ws
  unfold Fh at hR
  generalize B5 ws=cs at hR hc hcl
  refine Ac (AL 3 (Ad.ev (AT T.vn (Ab (Aa 2) Af) (Mg (by first | exact Or.inr rfl | exact Or.inl (Or.inl rfl) | exact Or.inl (Or.inr (Or.inl rfl)) | exact Or.inl (Or.inr (Or.inr ⟨_,rfl,by first | assumption | rfl⟩))))) ?_) EZ.nd)
  refine Ac (AL 4 (Ad.ev Ag ?_) EZ.nd)
  have hz:(ns.zip cs).length<64:=by rw [List.length_zip]; omega
  have hsl:(B0 AQ (ns.zip cs)).length<=63:=by rw [(Hm AQ (ns.zip cs)).length_eq]; omega
  have hsm:∀ p∈B0 AQ (ns.zip cs),0<=p.2:=λp hp=>hc _ (List.of_mem_zip ((Hm AQ (ns.zip cs)).mem_iff.mp hp)).2
  refine Ac (Fz (CJ (YA GB (λY=>Zz) WS (GJ (Aa 0) (Aa 2) wB wB T.vo) wF T.vp) wB) (λi ρ O'=>∃ (r:Int) (u v:Option D),ρ=[some (.tup (ns.map D.int)),some (.tup (ws.map D.int)),some (.lst (cs.map D.int)),some (.int cs.sum),some (.int r),u,v]/\r=sm (λq=>q.2) ((B0 AQ (ns.zip cs)).take i)/\go cs.sum 0 (B0 AQ (ns.zip cs))=go cs.sum r ((B0 AQ (ns.zip cs)).drop i)/\O'=O) ⟨0,_,_,rfl,rfl,rfl,rfl⟩ ?_ ?_)
  ·rintro i x ρ O' hx ⟨r,u,v,rfl,hr1,hg,rfl⟩
   rw [List.getElem?_map] at hx
   cases hp:(B0 AQ (ns.zip cs))[i]? with
   | none=>rw [hp] at hx; cases hx
   | some p=>
    rw [hp] at hx
    cases hx
    refine ⟨_,EB (B7 (A2 5 EZ.nd) (B7 (A2 6 EZ.nd) EA)),?_⟩
    refine Ac (AL 4 (Ad.ev (An (Aa 4) (Aa 6) Bq) ?_) EZ.nd)
    have h4:r+p.2=sm (λq=>q.2) ((B0 AQ (ns.zip cs)).take (i+1)):=by rw [Sj hp,hr1]
    have hd:(B0 AQ (ns.zip cs)).drop i=p::(B0 AQ (ns.zip cs)).drop (i+1):=by
     obtain ⟨hi,e⟩:=List.getElem?_eq_some_iff.mp hp
     rw [List.drop_eq_getElem_cons hi,e]
    rw [hd] at hg
    refine Ac (AG (AJ (An Ag (Aa 4) (B8 (C4.ok (Or.inl ⟨by decide,by decide⟩)))) (Aa 3) Zx) (λhk=>?_) (λhk=>?_))
    ·have hk:=of_decide_eq_true hk
     refine Ac (Ay (Ad.ev (Aa 5) ?_))
     rw [hg] at hR
     unfold go at hR
     rw [if_pos hk] at hR
     exact hR
    ·have hk:=of_decide_eq_false hk
     refine Aw (Aw ?_)
     refine ⟨_,_,_,rfl,h4,?_,rfl⟩
     rw [hg]
     conv=>lhs; unfold go
     rw [if_neg hk]
  ·rintro ρ O' ⟨r,u,v,rfl,hr1,hg,rfl⟩
   refine Ac (Ay (Ad.ev Ag ?_))
   rw [List.length_map,List.drop_of_length_le (Nat.le_refl _)] at hg
   rw [hg] at hR
   exact hR
theorem VX (Fn:Av K "check_within" "check_within" Kh f fd) (hm:mg "check_within" = some (.ref f)) (hb:Binds K fd ["what","value","least","most"] []) (jq:Am P w K mg base 1 "is_whole" (AA Jt)):Am P w K mg base 2 "check_within" (AA FC):=by
 refine A4 (k:=1) Fn SN hm hb (λds O R h=>?_) (λcdv A outer s H E ds O R hr h=>?_)
 ·obtain ⟨_,⟨_,_,_,_,rfl,_⟩,_⟩:=h; rfl
 ·obtain ⟨d,⟨x,v,l,u,rfl,hv,rfl⟩,hR⟩:=h
  refine Ac (AG (BJ.t (B4 (Bw (Ba (AF jq (hr.mono wE) (Ab (Aa 1) Af) ⟨.i v,rfl,rfl⟩))) (λhbb=>(CT (Bw (YW (Aa 2) (Aa 1) (Aa 3) IF (λhbb=>IF))))))) (λhk=>?_) (λhk=>Aw (Aw hR)))
  exfalso
  have hk:(!true||!(decide (l<=v)&&decide (v<=u)))=true:=hk
  rw [decide_eq_true hv.1,decide_eq_true hv.2] at hk
  cases hk
theorem V2 (Fn:Av K "check_scale" "check_scale" Km f fd) (hm:mg "check_scale" = some (.ref f)) (hb:Binds K fd ["scale"] []) (ja:Am P w K mg base 2 "check_within" (AA FC)):Am P w K mg base 3 "check_scale" (AA Jq):=by
 refine A4 (k:=2) Fn ST hm hb (λds O R h=>?_) (λcdv A outer s H E ds O R hr h=>?_)
 ·obtain ⟨_,⟨_,rfl,_⟩,_⟩:=h; rfl
 ·obtain ⟨d,⟨s,rfl,hs,rfl⟩,hR⟩:=h
  refine Ac (A5 (Ad.ev (AF ja (hr.mono wE) (Ab A7 (Ab (Aa 0) (Ab Ag (Ab (GQ T.xk.choose_spec) Af)))) ⟨_,_,_,_,rfl,by omega,rfl⟩) ?_))
  exact Aw hR
theorem V6 (Fn:Av K "check_making" "check_making" Kr f fd) (hm:mg "check_making" = some (.ref f)) (hb:Binds K fd ["many","scale"] []) (ja:Am P w K mg base 2 "check_within" (AA FC)) (jt:Am P w K mg base 3 "check_scale" (AA Jq)):Am P w K mg base 4 "check_making" (AA Js):=by
 refine A4 (k:=3) Fn SW hm hb (λds O R h=>?_) (λcdv A outer s H E ds O R hr h=>?_)
 ·obtain ⟨_,⟨_,_,rfl,_⟩,_⟩:=h; rfl
 ·obtain ⟨d,⟨m,s,rfl,hm,hs,rfl⟩,hR⟩:=h
  refine Ac (A5 (Ad.ev (AF ja (hr.mono wE) (Ab A7 (Ab (Aa 0) (Ab Ag (Ab (GQ T.xj.choose_spec) Af)))) ⟨_,_,_,_,rfl,by omega,rfl⟩) ?_))
  refine Ac (A5 (Ad.ev (AF jt (hr.mono wE) (Ab (Aa 1) Af) ⟨_,rfl,by assumption,rfl⟩) ?_))
  exact Aw hR
theorem V7 (Fn:Av K "check_fraction" "check_fraction" Ks f fd) (hm:mg "check_fraction" = some (.ref f)) (hb:Binds K fd ["top","bottom"] []) (ja:Am P w K mg base 2 "check_within" (AA FC)):Am P w K mg base 3 "check_fraction" (AA Hu):=by
 refine A4 (k:=2) Fn SX hm hb (λds O R h=>?_) (λcdv A outer s H E ds O R hr h=>?_)
 ·obtain ⟨_,⟨_,_,rfl,_⟩,_⟩:=h; rfl
 ·obtain ⟨d,⟨t,b,rfl,hb,rfl⟩,hR⟩:=h
  refine Ac (A5 (Ad.ev (AF ja (hr.mono wE) (Ab A7 (Ab (Aa 1) (Ab Ag (Ab (GQ T.xl.choose_spec) Af)))) ⟨_,_,_,_,rfl,by omega,rfl⟩) ?_))
  refine Ac (A5 (Ad.ev (AF ja (hr.mono wE) (Ab A7 (Ab (Aa 0) (Ab Ag (Ab (An (Aa 1) Ag Fe) Af)))) ⟨_,_,_,_,rfl,by omega,rfl⟩) ?_))
  exact Aw hR
theorem V1 (Fn:Av K "check_share" "check_share" Kl f fd) (hm:mg "check_share" = some (.ref f)) (hb:Binds K fd ["share","parts"] []) (ja:Am P w K mg base 2 "check_within" (AA FC)):Am P w K mg base 3 "check_share" (AA Nx):=by
 refine A4 (k:=2) Fn SS hm hb (λds O R h=>?_) (λcdv A outer s H E ds O R hr h=>?_)
 ·obtain ⟨_,⟨_,_,rfl,_⟩,_⟩:=h; rfl
 ·obtain ⟨d,⟨t,b,rfl,hb,rfl⟩,hR⟩:=h
  refine Ac (A5 (Ad.ev (AF ja (hr.mono wE) (Ab A7 (Ab (Aa 1) (Ab Ag (Ab (GQ T.xm.choose_spec) Af)))) ⟨_,_,_,_,rfl,by omega,rfl⟩) ?_))
  refine Ac (A5 (Ad.ev (AF ja (hr.mono wE) (Ab A7 (Ab (Aa 0) (Ab Ag (Ab (An (Aa 1) Ag Fe) Af)))) ⟨_,_,_,_,rfl,by omega,rfl⟩) ?_))
  exact Aw hR
theorem VT (Fn:Av K "is_on_scale" "is_on_scale" Kd f fd) (hm:mg "is_on_scale" = some (.ref f)) (hb:Binds K fd ["scale","value"] []) (jq:Am P w K mg base 1 "is_whole" (AA Jt)):Am P w K mg base 2 "is_on_scale" (AA Jr):=by
 refine A4 (k:=1) Fn SJ hm hb (λds O R h=>?_) (λcdv A outer s H E ds O R hr h=>?_)
 ·obtain ⟨_,⟨_,_,rfl,_⟩,_⟩:=h; rfl
 ·obtain ⟨d,⟨s,v,rfl,rfl⟩,hR⟩:=h
  cases hw:LK v with
  | false=>
   have e:Bt s v=false:=by cases v <;> first | rfl | cases hw
   rw [e] at hR
   refine Ac (Ay (Ad.ev (Ck (k:=false) (l:=false) (AF jq (hr.mono wE) (Ab (Aa 1) Af) ⟨v,rfl,by rw [hw]⟩) (λhbb=>absurd hbb Bool.false_ne_true)) ?_))
   exact hR
  | true=>
   cases v <;> first | (cases hw; done) | skip
   rename_i i
   refine Ac (Ay (Ad.ev (Ck (AF jq (hr.mono wE) (Ab (Aa 1) Af) ⟨.i i,rfl,rfl⟩) (λhbb=>(Cu (YM Ag (Aa 1) (Aa 0) IF (λhbb=>IF))))) ?_))
   exact hR
theorem VS (Fn:Av K "is_said" "is_said" Kc f fd) (hm:mg "is_said" = some (.ref f)) (hb:Binds K fd ["many","scale","said"] []) (ju:Am P w K mg base 2 "is_on_scale" (AA Jr)):Am P w K mg base 3 "is_said" (AA Hs):=by
 refine A4 (k:=2) Fn SI hm hb (λds O R h=>?_) (λcdv A outer s H E ds O R hr h=>?_)
 ·obtain ⟨_,⟨_,_,_,rfl,_⟩,_⟩:=h; rfl
 ·obtain ⟨d,⟨m,s,x,rfl,hS,rfl⟩,hR⟩:=h
  cases x with
  | o v=>
   have hT:Ei (ov v) "tuple" = false:=by cases v <;> first | rfl | cases hS
   refine Ac (AG (BJ.t (B4 (k:=true) (l:=false) (AH.cast (Bw (Ba (AT T.vt (Ab (Aa 2) (Ab (Ct T.vk) Af)) (DV (HM v))))) (by rw [hT]; rfl)) (λhbb=>by cases hbb))) (λhk=>?_) (λhk=>by cases hk))
   exact Ac (Ay (Ad.ev Bo hR))
  | t xs=>
   refine Ac (AG (BJ.t (B4 (Bw (Ba (AT T.vt (Ab (Aa 2) (Ab (Ct T.vk) Af)) (DV rfl)))) (λhbb=>(CT (AJ (AT T.vh (Ab (Aa 2) Af) (Cd (by first | exact Or.inr rfl | exact Or.inl (Or.inl rfl) | exact Or.inl (Or.inr (Or.inl rfl)) | exact Or.inl (Or.inr (Or.inr ⟨_,rfl,by first | assumption | rfl⟩))))) (Aa 0) EF))))) (λhk=>?_) (λhk=>Aw ?_))
   ·have hk:(!true||!decide ((((xs.map ov).length:Nat):Int)=m))=true:=hk
    have e:Bi m s (.t xs)=false:=by
     refine JQ λz=>?_
     rw [List.length_map,decide_eq_true z] at hk
     cases hk
    rw [e] at hR
    exact Ac (Ay (Ad.ev Bo hR))
   ·have hk:(!true||!decide ((((xs.map ov).length:Nat):Int)=m))=false:=hk
    have hS:xs.length<=100:=hS
    refine Ac (Ay (Ad.ev (AT T.vx (Ab (Cv (λw=>.bl (Ch s w)) ["what"] ["scale"] [1] (CJ (Aa 2) wB) (by rw [sizeLine_eq]; omega) (by exact λq hq s H fp=>⟨[some _],rfl,(A2 0 (show List.Nodup (["what","scale"]:List Str) by decide +kernel)),⟨_,rfl,(GL (BG (Aa 0) C9 Fo) (λhbb=>(Cu (AF ju (hr.mono wE) (Ab (Aa 1) (Ab (Aa 0) Af)) ⟨_,q,rfl,rfl⟩))))⟩⟩)) Af) (IG (bs:=xs.map λw=>Ch s w) (Or.inl (Or.inl (congrArg D.lst (by rw [List.map_map]; rfl)))))) ?_))
    have e:((xs.map λw=>Ch s w).all id)=Bi m s (.t xs):=by
     rw [List.all_map]
     show xs.all (Ch s)=(decide ((xs.length:Int)=m)&&xs.all (Ch s))
     have:(xs.length:Int)=m:=by
      by_cases z:(xs.length:Int)=m
      ·exact z
      ·rw [List.length_map,decide_eq_false z] at hk; cases hk
     rw [decide_eq_true this,Bool.true_and]
    rw [e]
    exact hR
theorem V4 (Fn:Av K "check_said" "check_said" Ko f fd) (hm:mg "check_said" = some (.ref f)) (hb:Binds K fd ["many","scale","said"] []) (jh:Am P w K mg base 3 "is_said" (AA Hs)):Am P w K mg base 4 "check_said" (AA JE):=by
 refine A4 (k:=3) Fn SV hm hb (λds O R h=>?_) (λcdv A outer s H E ds O R hr h=>?_)
 ·obtain ⟨_,⟨_,_,_,rfl,_⟩,_⟩:=h; rfl
 ·obtain ⟨d,⟨m,s,said,rfl,hs,rfl⟩,hR⟩:=h
  have e:=HC hs
  exact Ac (AG (Bw (Ba (AF jh (hr.mono wE) (Ab (Aa 0) (Ab (Aa 1) (Ab (Aa 2) Af))) ⟨m,s,.t (said.map BQ),by rw [FB],Hw hs,rfl⟩))) (λhk=>by rw [e] at hk; cases hk) (λhk=>Aw (Aw hR)))
theorem Vz (Fn:Av K "power" "power" JV f fd) (hm:mg "power" = some (.ref f)) (hb:Binds K fd ["base","exponent"] []):Am P w K mg base 1 "power" (AA Ho):=by
 refine A4 (k:=0) Fn Hz hm hb (λds O R h=>?_) (λcdv A outer s H E ds O R hr h=>?_)
 ·obtain ⟨_,⟨_,_,rfl,_⟩,_⟩:=h; rfl
 ·obtain ⟨d,⟨b,n,rfl,hb,hn,rfl⟩,hR⟩:=h
  refine Ac (AL 2 (Ad.ev Ag ?_) Hz.nd)
  refine Ac (Fz (IA (Aa 1) T.vq wC wC) (λi ρ O'=>∃ u,ρ=[some (.int b),some (.int n),some (.int (b ^ i)),u]/\O'=O) ⟨none,by rw [Int.pow_zero]; rfl,rfl⟩ ?_ ?_)
  ·rintro i x ρ O' hx ⟨u,rfl,rfl⟩
   refine ⟨_,A2 3 Hz.nd,?_⟩
   refine Ac (AL 2 (Ad.ev (An (Aa 2) (Aa 0) (B8 (by first | assumption | exact C4.ok (Or.inl ⟨by omega,by omega⟩) | exact C4.ok (Or.inr ⟨by omega,by omega⟩)))) ?_) Hz.nd)
   exact Aw ⟨_,by rw [Int.pow_succ]; rfl,rfl⟩
  ·rintro ρ O' ⟨u,rfl,rfl⟩
   rw [FL]
   exact Ac (Ay (Ad.ev (Aa 2) hR))
theorem V8 (Fn:Av K "charge" "charge" Kt f fd) (hm:mg "charge" = some (.ref f)) (hb:Binds K fd ["what","so"] []):Am P w K mg base 1 "charge" (AA FF):=by
 refine A4 (k:=0) Fn SY hm hb (λds O R h=>?_) (λcdv A outer s H E ds O R hr h=>?_)
 ·obtain ⟨_,⟨_,_,rfl,_⟩,_⟩:=h; rfl
 ·obtain ⟨d,⟨w,z,rfl,rfl⟩,hR⟩:=h
  cases w with
  | none=>
   refine Ac (AG (AJ (Aa 0) C9 Fo) (λhk=>?_) (λhk=>?_))
   ·exact Ac (Ay (Ad.ev Ag hR))
   ·cases hk
  | some w=>
   refine Ac (AG (AJ (Aa 0) C9 Fo) (λhk=>?_) (λhk=>?_))
   ·cases hk
   ·exact Aw (Ac (Ay (Ad.ev (AT T.xf (Ab (An (Aa 0) (Aa 1) Fe) Af) ZX) hR)))
theorem VR (Fn:Av K "is_turn" "is_turn" Kb f fd) (hm:mg "is_turn" = some (.ref f)) (hb:Binds K fd ["many","scale","turn"] []) (jh:Am P w K mg base 3 "is_said" (AA Hs)) (ju:Am P w K mg base 2 "is_on_scale" (AA Jr)):Am P w K mg base 4 "is_turn" (AA Ju):=by
 refine A4 (k:=3) Fn SH hm hb (λds O R h=>?_) (λcdv A outer s H E ds O R hr h=>?_)
 ·obtain ⟨_,⟨_,_,_,rfl,_⟩,_⟩:=h; rfl
 ·obtain ⟨d,⟨m,s,x,rfl,hS,rfl⟩,hR⟩:=h
  cases x with
  | two x y=>
   refine Ac (AG (BJ.t (B4 (Bw (Ba (AT T.vt (Ab (Aa 2) (Ab (Ct T.vk) Af)) (DV rfl)))) (λhbb=>(CT (AJ (AT T.vh (Ab (Aa 2) Af) (Cd (by first | exact Or.inr rfl | exact Or.inl (Or.inl rfl) | exact Or.inl (Or.inr (Or.inl rfl)) | exact Or.inl (Or.inr (Or.inr ⟨_,rfl,by first | assumption | rfl⟩))))) Ag EF))))) (λhk=>by cases hk) (λhk=>Aw ?_))
   refine Ac (Ay (Ad.ev (Ck (AF jh (hr.mono wE) (Ab (Aa 0) (Ab (Aa 1) (Ab (CI (Aa 2) Ag rfl) Af))) ⟨m,s,x,rfl,hS,rfl⟩) (λhbb=>(Cu (AF ju (hr.mono wE) (Ab (Aa 1) (Ab (CI (Aa 2) Ag rfl) Af)) ⟨s,y,rfl,rfl⟩)))) ?_))
   exact hR
  | o v=>
   have hT:Ei (ov v) "tuple" = false:=by cases v <;> first | rfl | cases hS
   refine Ac (AG (BJ.t (B4 (k:=true) (l:=false) (AH.cast (Bw (Ba (AT T.vt (Ab (Aa 2) (Ab (Ct T.vk) Af)) (DV (HM v))))) (by rw [hT]; rfl)) (λhbb=>by cases hbb))) (λhk=>?_) (λhk=>by cases hk))
   exact Ac (Ay (Ad.ev Bo hR))
  | many xs=>
   refine Ac (AG (BJ.t (B4 (Bw (Ba (AT T.vt (Ab (Aa 2) (Ab (Ct T.vk) Af)) (DV rfl)))) (λhbb=>(CT (AJ (AT T.vh (Ab (Aa 2) Af) (Cd (by first | exact Or.inr rfl | exact Or.inl (Or.inl rfl) | exact Or.inl (Or.inr (Or.inl rfl)) | exact Or.inl (Or.inr (Or.inr ⟨_,rfl,by first | assumption | rfl⟩))))) Ag EF))))) (λhk=>?_) (λhk=>?_))
   ·exact Ac (Ay (Ad.ev Bo hR))
   ·exfalso
    have hk:(!true||!decide (((xs.length:Nat):Int)=2))=false:=hk
    rw [decide_eq_false (show ¬ ((xs.length:Nat):Int)=2 from hS)] at hk
    cases hk
theorem VZ (Fn:Av K "check_turn" "check_turn" Kj f fd) (hm:mg "check_turn" = some (.ref f)) (hb:Binds K fd ["many","scale","said","so"] []) (jw:Am P w K mg base 4 "is_turn" (AA Ju)):Am P w K mg base 5 "check_turn" (AA FE):=by
 refine A4 (k:=4) Fn SQ hm hb (λds O R h=>?_) (λcdv A outer s H E ds O R hr h=>?_)
 ·obtain ⟨_,⟨_,_,_,_,rfl,_⟩,_⟩:=h; rfl
 ·obtain ⟨d,⟨m,s,said,so,rfl,hs,hso,rfl⟩,hR⟩:=h
  have e:(Bi m s (.t (said.map BQ))&&Bt s (.i so))=true:=by rw [HC hs,Ll hso]; rfl
  exact Ac (AG (Bw (Ba (AF jw (hr.mono wE) (Ab (Aa 0) (Ab (Aa 1) (Ab (A9 (Ab (Aa 2) (Ab (Aa 3) Af))) Af))) ⟨m,s,.two (.t (said.map BQ)) (.i so),by show _=[D.int m,.int s,.tup [sv (.t (said.map BQ)),.int so]]; rw [FB],Hw hs,rfl⟩))) (λhk=>by have hk:(!(Bi m s (.t (said.map BQ))&&Bt s (.i so)))=true:=hk; rw [e] at hk; cases hk) (λhk=>Aw (Aw hR)))
theorem V9 (Fn:Av K "awake_in" "awake_in" Ku f fd) (hm:mg "awake_in" = some (.ref f)) (hb:Binds K fd ["said"] []):Am P w K mg base 1 "awake_in" (AA JG):=by
 refine A4 (k:=0) Fn SZ hm hb (λds O R h=>?_) (λcdv A outer s H E ds O R hr h=>?_)
 ·obtain ⟨_,⟨_,rfl,_⟩,_⟩:=h; rfl
 ·obtain ⟨d,⟨said,rfl,hs,rfl⟩,hR⟩:=h
  refine Ac (Ay (Ad.ev (PN (λq:Option Int×Nat=>if (!Ej (od q.1))=true then some (D.int (q.2:Nat)) else none) ["adviser","what"] [] [] (GR (Yn (Aa 0) wB T.xc)) (by rw [List.length_zipIdx,sizeLine_eq]; omega) (by exact λq hq s H fp=>⟨[some _,some _],rfl,(EB (B7 (A2 0 (show List.Nodup (["adviser","what"]:List Str) by decide +kernel)) (B7 (A2 1 (show List.Nodup (["adviser","what"]:List Str) by decide +kernel)) EA))),⟨_,(AJ (Aa 1) C9 Zw),λhbb=>⟨_,if_pos hbb,(Aa 0)⟩,λhbb=>if_neg (λhcc=>Bool.false_ne_true (hbb.symm.trans hcc))⟩⟩)) ?_))
  rw [ZZ]
  exact hR
theorem VA (Fn:Av K "middle_awake" "middle_awake" JW f fd) (hm:mg "middle_awake" = some (.ref f)) (hb:Binds K fd ["said","weights"] []) (zd:Am P w K mg base 2 "middle" (AA NE)) (jx:Am P w K mg base 1 "awake_in" (AA JG)):Am P w K mg base 4 "middle_awake" (AA NG):=by
 refine A4 (k:=3) Fn N1 hm hb (λds O R h=>?_) (λcdv A outer s H E ds O R hr h=>?_)
 ·obtain ⟨_,⟨_,_,rfl,_⟩,_⟩:=h; rfl
 ·obtain ⟨d,⟨said,ws,rfl,hs,hl,hw,rfl⟩,hR⟩:=h
  have hal:=Mm said
  refine Ac (AL 2 (Ad.ev (AF jx (hr.mono wE) (Ab (Aa 0) Af) ⟨_,rfl,by assumption,rfl⟩) ?_) N1.nd)
  have e:[D.tup ((ax said).map λk=>D.int ((BT said k).getD 0)),D.tup ((ax said).map λk=>D.int (ws.getD k 0))]=[.tup ((Ee said).map D.int),.tup ((EU said ws).map D.int)]:=by
   unfold Ee EU
   rw [List.map_map,List.map_map]
   rfl
  exact Ac (Ay (Ad.ev (AF zd (hr.mono wE) (Ab (Cj T.vk (Ab (Cv (λk=>D.int ((BT said k).getD 0)) ["adviser"] ["said"] [0] (CJ (Aa 2) wB) (by rw [sizeLine_eq]; omega) (by exact λq hq s H fp=>⟨[some _],rfl,(A2 0 (show List.Nodup (["adviser","said"]:List Str) by decide +kernel)),⟨_,rfl,(CI (Aa 1) (Aa 0) (Qw hq))⟩⟩)) Af) (Db (by first | exact Or.inr rfl | exact Or.inl (Or.inl rfl) | exact Or.inl (Or.inr (Or.inl rfl)) | exact Or.inl (Or.inr (Or.inr ⟨_,rfl,by first | assumption | rfl⟩))))) (Ab (Cj T.vk (Ab (Cv (λk=>D.int (ws.getD k 0)) ["adviser"] ["weights"] [1] (CJ (Aa 2) wB) (by rw [sizeLine_eq]; omega) (by exact λq hq s H fp=>⟨[some _],rfl,(A2 0 (show List.Nodup (["adviser","weights"]:List Str) by decide +kernel)),⟨_,rfl,(CI (Aa 1) (Aa 0) (Qu (by have:=II hq; omega)))⟩⟩)) Af) (Db (by first | exact Or.inr rfl | exact Or.inl (Or.inl rfl) | exact Or.inl (Or.inr (Or.inl rfl)) | exact Or.inl (Or.inr (Or.inr ⟨_,rfl,by first | assumption | rfl⟩))))) Af)) ⟨Ee said,EU said ws,e,M8 hs hw,rfl⟩) hR))
theorem Vv (Fn:Av K "times_awake" "times_awake" JR f fd) (hm:mg "times_awake" = some (.ref f)) (hb:Binds K fd ["keeper","own","off"] []) (jd:Am P w K mg base 1 "power" (AA Ho)):Am P w K mg base 2 "times_awake" (Nw CK14 CK11):=by
 refine A4 (k:=1) Fn N0 hm hb (λds O R h=>?_) (λcdv A outer s H E ds O R hr h=>?_)
 ·obtain ⟨_,_,_,_,_,_,_,rfl,_⟩:=h; rfl
 ·obtain ⟨q,sf,p,u,own,off,ws,rfl,hW,hp,ho,hof,hR⟩:=h
  have hf:=hp.f
  have s1:=hf.s1; have s2:=hf.s2; have t0:=hf.t0; have tb:=hf.tb; have b2:=hf.b2
  have a1:=Dg (x:=p.t) (e:=off) hf.t0 wF wF
  have a2:=Dg (x:=p.b) (e:=p.sc-off) wF wF wF
  have a3:=Dg (x:=p.b) (e:=own) wF wF wF
  have c1:=Dh a1.1 a1.2 a2.1 a2.2
  have c2:=Dh (c:=2) c1.1 c1.2 (show (0:Int)<=2 by decide) wE
  refine Ac (AL 3 (Ad.ev (An (AF jd (hr.mono wE) (Ab (As (Aa 0) hW (cv T.xw.cls T.bn.cls sf) (nv T.bc T.bu sf) (MZ sf p u ws)) (Ab (Aa 2) Af)) ⟨_,_,rfl,⟨by omega,by omega⟩,⟨by omega,by omega⟩,rfl⟩) (AF jd (hr.mono wE) (Ab (As (Aa 0) hW (cv T.xw.cls T.bn.cls sf) (nv T.bd T.bv sf) (Hh sf p u ws)) (Ab (An (As (Aa 0) hW (cv T.xw.cls T.bn.cls sf) (nv T.xz T.br sf) (Hg sf p u ws)) (Aa 2) Fe) Af)) ⟨_,_,rfl,⟨by omega,by omega⟩,⟨by omega,by omega⟩,rfl⟩) (B8 (Ef a1.1 a1.2 a2.1 a2.2))) ?_) N0.nd)
  exact Ac (Ay (Ad.ev (An (An (Aa 3) Ag (B8 (by first | assumption | exact C4.ok (Or.inl ⟨by omega,by omega⟩) | exact C4.ok (Or.inr ⟨by omega,by omega⟩)))) (AF jd (hr.mono wE) (Ab (As (Aa 0) hW (cv T.xw.cls T.bn.cls sf) (nv T.bd T.bv sf) (Hh sf p u ws)) (Ab (Aa 1) Af)) ⟨_,_,rfl,⟨by omega,by omega⟩,⟨by omega,by omega⟩,rfl⟩) (B8 (Ef c2.1 c2.2 a3.1 a3.2))) hR))
theorem Vw (Fn:Av K "times_asleep" "times_asleep" JS f fd) (hm:mg "times_asleep" = some (.ref f)) (hb:Binds K fd ["keeper","own"] []) (jd:Am P w K mg base 1 "power" (AA Ho)):Am P w K mg base 2 "times_asleep" (Jp CK14 CK11):=by
 refine A4 (k:=1) Fn Sz hm hb (λds O R h=>?_) (λcdv A outer s H E ds O R hr h=>?_)
 ·obtain ⟨_,_,_,_,_,_,rfl,_⟩:=h; rfl
 ·obtain ⟨q,sf,p,u,own,ws,rfl,hW,hp,ho,hR⟩:=h
  have hf:=hp.f
  have s1:=hf.s1; have s2:=hf.s2; have t0:=hf.t0; have tb:=hf.tb; have b2:=hf.b2
  have a1:=Dg (x:=p.b) (e:=p.sc) wF wF wF
  have a2:=Dg (x:=p.b) (e:=own) wF wF wF
  have a3:=Dg (x:=p.t) (e:=own) hf.t0 wF wF
  have e82:(2:Int) ^ 82=2 ^ 81+2 ^ 81:=by decide
  exact Ac (Ay (Ad.ev (An (AF jd (hr.mono wE) (Ab (As (Aa 0) hW (cv T.xw.cls T.bn.cls sf) (nv T.bd T.bv sf) (Hh sf p u ws)) (Ab (As (Aa 0) hW (cv T.xw.cls T.bn.cls sf) (nv T.xz T.br sf) (Hg sf p u ws)) Af)) ⟨_,_,rfl,⟨by omega,by omega⟩,⟨by omega,by omega⟩,rfl⟩) (An (AF jd (hr.mono wE) (Ab (As (Aa 0) hW (cv T.xw.cls T.bn.cls sf) (nv T.bd T.bv sf) (Hh sf p u ws)) (Ab (Aa 1) Af)) ⟨_,_,rfl,⟨by omega,by omega⟩,⟨by omega,by omega⟩,rfl⟩) (AF jd (hr.mono wE) (Ab (As (Aa 0) hW (cv T.xw.cls T.bn.cls sf) (nv T.bc T.bu sf) (MZ sf p u ws)) (Ab (Aa 1) Af)) ⟨_,_,rfl,⟨by omega,by omega⟩,⟨by omega,by omega⟩,rfl⟩) Bq) (B8 (Ef (n:=82) a1.1 a1.2 wF (by rw [e82]; omega)))) hR))
theorem Vx (Fn:Av K "times" "times" JT f fd) (hm:mg "times" = some (.ref f)) (hb:Binds K fd ["keeper","own","what","so"] []) (jb:Am P w K mg base 1 "charge" (AA FF)) (jy:Am P w K mg base 2 "times_asleep" (Jp CK14 CK11)) (ze:Am P w K mg base 2 "times_awake" (Nw CK14 CK11)):Am P w K mg base 3 "times" (Nv CK14 CK11):=by
 refine A4 (k:=2) Fn SB hm hb (λds O R h=>?_) (λcdv A outer s H E ds O R hr h=>?_)
 ·obtain ⟨_,_,_,_,_,_,_,_,rfl,_⟩:=h; rfl
 ·obtain ⟨q,sf,p,u,own,so,w,ws,rfl,hW,hp,ho,hso,hw,hR⟩:=h
  cases w with
  | none=>
   refine Ac (AG (AJ (Aa 2) C9 Fo) (λhk=>?_) (λhk=>by cases hk))
   exact Ac (Ay (Ad.ev (Ev.evp (BU jy (hr.mono wE) (Ab (Aa 0) (Ab (Aa 1) Af)) ⟨q,sf,p,u,own,ws,rfl,hW,hp,ho,rfl,rfl⟩)) hR))
  | some x=>
   have hx:=HL (hw.resolve_left (λh=>by cases h))
   refine Ac (AG (AJ (Aa 2) C9 Fo) (λhk=>by cases hk) (λhk=>Aw ?_))
   exact Ac (Ay (Ad.ev (Ev.evp (BU ze (hr.mono wE) (Ab (Aa 0) (Ab (Aa 1) (Ab (AF jb (hr.mono wE) (Ab (Aa 2) (Ab (Aa 3) Af)) ⟨some x,so,rfl,rfl⟩) Af))) ⟨q,sf,p,u,own,ab (x-so),ws,rfl,hW,hp,ho,IJ hx hso,rfl,rfl⟩)) hR))
theorem V5 (Fn:Av K "check_push" "check_push" Kq f fd) (hm:mg "check_push" = some (.ref f)) (hb:Binds K fd ["many","push"] []) (ja:Am P w K mg base 2 "check_within" (AA FC)) (jd:Am P w K mg base 1 "power" (AA Ho)):Am P w K mg base 3 "check_push" (AA NA):=by
 refine A4 (k:=2) Fn N3 hm hb (λds O R h=>?_) (λcdv A outer s H E ds O R hr h=>?_)
 ·obtain ⟨_,⟨_,_,rfl,_⟩,_⟩:=h; rfl
 ·obtain ⟨d,⟨m,ps,rfl,hp,hm,rfl⟩,hR⟩:=h
  refine Ac (AG (BJ.t (B4 (Bw (Ba (AT T.vt (Ab (Aa 1) (Ab (Ct T.vk) Af)) (DV rfl)))) (λhbb=>(CT (AJ (AT T.vh (Ab (Aa 1) Af) (Cd (by first | exact Or.inr rfl | exact Or.inl (Or.inl rfl) | exact Or.inl (Or.inr (Or.inl rfl)) | exact Or.inl (Or.inr (Or.inr ⟨_,rfl,by first | assumption | rfl⟩))))) (Aa 0) EF))))) (λhk=>?_) (λhk=>Aw ?_))
  ·exfalso
   have hk:(!true||!decide ((((ps.map D.int).length:Nat):Int)=m))=true:=hk
   rw [List.length_map,hp.1,decide_eq_true rfl] at hk
   cases hk
  refine Ac (Fz (CJ (Aa 1) wB) (λi ρ O'=>(∃ u,ρ=[some (.int m),some (.tup (ps.map D.int)),u])/\O'=O) ⟨⟨_,rfl⟩,rfl⟩ ?_ ?_)
  ·rintro i x ρ O' hx ⟨⟨u,rfl⟩,rfl⟩
   rw [List.getElem?_map] at hx
   cases hi:ps[i]? with
   | none=>rw [hi] at hx; cases hx
   | some p=>
    rw [hi] at hx
    cases hx
    have hb:=hp.2 p (List.mem_of_getElem? hi)
    refine ⟨_,A2 2 N3.nd,?_⟩
    exact Ac (A5 (Ad.ev (AF ja (hr.mono wE) (Ab A7 (Ab (Aa 2) (Ab Ag (Ab (An (AF jd (hr.mono wE) (Ab Ag (Ab (GQ T.xn.choose_spec) Af)) ⟨10,60,rfl,by decide,by decide,rfl⟩) Ag Fe) Af)))) ⟨_,_,_,_,rfl,hb,rfl⟩) (Aw ⟨⟨_,rfl⟩,rfl⟩)))
  ·rintro ρ O' ⟨⟨u,rfl⟩,rfl⟩
   exact Aw hR
theorem Vy (Fn:Av K "push_of" "push_of" JU f fd) (hm:mg "push_of" = some (.ref f)) (hb:Binds K fd ["many","push"] []) (zg:Am P w K mg base 3 "check_push" (AA NA)):Am P w K mg base 4 "push_of" (AA Nz):=by
 refine A4 (k:=3) Fn SC hm hb (λds O R h=>?_) (λcdv A outer s H E ds O R hr h=>?_)
 ·obtain ⟨_,⟨_,_,rfl,_⟩,_⟩:=h; rfl
 ·obtain ⟨d,⟨m,po,rfl,hm,hp,rfl⟩,hR⟩:=h
  cases po with
  | none=>
   refine Ac (AG (AJ (Aa 1) C9 Fo) (λhk=>?_) (λhk=>by cases hk))
   refine Ac (Ay (Ad.ev (An (A9 (Ab Ag Af)) (Aa 0) (Ed hm.1 wF (by simp) (by rw [sizeLine_eq]; show 1*m.toNat<=_; omega))) ?_))
   rw [Hd]
   exact hR
  | some ps=>
   have hp:Ft m ps:=hp
   have hm2:=hm.2
   refine Ac (AG (AJ (Aa 1) C9 Fo) (λhk=>by cases hk) (λhk=>Aw ?_))
   refine Ac (A5 (Ad.ev (AF zg (hr.mono wE) (Ab (Aa 0) (Ab (Aa 1) Af)) ⟨m,ps,rfl,hp,hm2,rfl⟩) ?_))
   exact Ac (Ay (Ad.ev (Aa 1) hR))
theorem VV (Fn:Av K "first_least" "first_least" Kf f fd) (hm:mg "first_least" = some (.ref f)) (hb:Binds K fd ["scores","advisers"] []):Am P w K mg base 1 "first_least" (AA NM):=by
 refine A4 (k:=0) Fn SL hm hb (λds O R h=>?_) (λcdv A outer s H E ds O R hr h=>?_)
 ·obtain ⟨_,⟨_,_,_,rfl,_⟩,_⟩:=h; rfl
 ·obtain ⟨d,⟨sc,as,k,rfl,hl,hb,hf,rfl⟩,hR⟩:=h
  have hy:∀ q∈as,Bf (sc.map D.int) (q:Nat)=some (.int (sc.getD q 0)):=λq hq=>Qu (hb q hq)
  have hne:(as.map λk=>(sc.getD k 0,((k:Nat):Int)))≠[]:=λz=>by
   rw [List.map_eq_nil_iff] at z
   have:=hf.1
   rw [z] at this
   cases this
  refine Ac (Ay (Ad.ev (CI (AT T.xg (Ab (Cv (λk:Nat=>pD (sc.getD k 0,((k:Nat):Int))) ["adviser"] ["scores"] [0] (CJ (Aa 1) wB) (by rw [sizeLine_eq]; omega) (by exact λq hq s H fp=>⟨[some _],rfl,(A2 0 (show List.Nodup (["adviser","scores"]:List Str) by decide +kernel)),⟨_,rfl,(A9 (Ab (CI (Aa 1) (Aa 0) (hy q hq)) (Ab (Aa 0) Af)))⟩⟩)) Af) (ZQ hr (ps:=as.map λk=>(sc.getD k 0,((k:Nat):Int))) (Or.inl (congrArg D.lst (by rw [List.map_map]; rfl))) hne)) Ag rfl) ?_))
  rw [Xf hf]
  exact hR
theorem WB (Fn:Av K "__init__" "Hand.__init__" KY f fd)  (jz:Am P w K mg base 4 "check_making" (AA Js)):AC P w K mg base AO 5 f fd ["self","many","scale"] (AR K (D6 (λC=>C=CK2\/C=CK14\/C=CK11\/C=CK10\/C=CK12\/C=CK1))):=by
 refine Bu (k:=4) Fn Tq (λds O R h=>?_) (λcdv A outer s H E ds O R hr h=>?_)
 ·obtain ⟨_,_,_,_,rfl,_⟩:=h; rfl
 ·obtain ⟨q,m,s,C,rfl,hC,hq,hm,hs,hR⟩:=h
  have hc:Bn K C:=by rcases hC with rfl | rfl | rfl | rfl | rfl | rfl; exact T.xo.cls; exact T.xw.cls; exact T.bn.cls; exact T.dh.cls; exact T.eu.cls; exact T.dy.cls
  have n1:Ao K C "many" := by rcases hC with rfl | rfl | rfl | rfl | rfl | rfl; exact T.xq; exact T.xy; exact T.bq; exact T.dj; exact T.fh; exact T.ee
  have n2:Ao K C "scale" := by rcases hC with rfl | rfl | rfl | rfl | rfl | rfl; exact T.xr; exact T.xz; exact T.br; exact T.dl; exact T.fi; exact T.ef
  refine Ac (A5 (Ad.ev (AF jz (hr.mono wE) (Ab (Aa 1) (Ab (Aa 2) Af)) ⟨_,_,rfl,by assumption,by assumption,rfl⟩) ?_))
  refine Ac (A8 (Aa 1) (Aa 0) hq hc n1 wE ?_)
  refine Ac (A8 (Aa 2) (Aa 0) (Bh hq) hc n2 (by show 1<1000; decide) ?_)
  refine Aw ?_
  rw [List.set_set,Up]
  exact hR
theorem Wy (Fn:Av K "heeded" "Hand.heeded" KT f fd)  : AC P w K mg base AO 1 f fd ["self"] (AR K (NI CK2)):=by
 refine Bu (k:=0) Fn Tm (λds O R h=>?_) (λcdv A outer s H E ds O R hr h=>?_)
 ·obtain ⟨_,_,_,rfl,_⟩:=h; rfl
 ·obtain ⟨q,m,s,rfl,hq,hm,hR⟩:=h
  refine Ac (Ay (Ad.ev (An (A9 (Ab Ag Af)) (As (Aa 0) hq T.xo.cls T.xq (GH m s)) (Ed hm.1 wF (by simp) (by rw [sizeLine_eq]; show 1*m.toNat<=_; omega))) ?_))
  rw [OE]
  exact hR
theorem Wc (Fn:Av K "heeded" "Weigher.heeded" Kx f fd)  : AC P w K mg base AO 1 f fd ["self"] (AR K (Jx CK14 CK11)):=by
 refine Bu (k:=0) Fn S1 (λds O R h=>?_) (λcdv A outer s H E ds O R hr h=>?_)
 ·obtain ⟨_,_,_,_,_,rfl,_⟩:=h; rfl
 ·obtain ⟨q,sf,p,u,ws,rfl,hW,hR⟩:=h
  exact Ac (Ay (Ad.ev (As (Aa 0) hW (cv T.xw.cls T.bn.cls sf) (nv T.bf T.bw sf) (MY sf p u ws)) hR))
theorem Wr (Fn:Av K "heeded" "Rounder.heeded" KM f fd)  : AC P w K mg base AO 1 f fd ["self"] (AR K (NH CK10)):=by
 refine Bu (k:=0) Fn Te (λds O R h=>?_) (λcdv A outer s H E ds O R hr h=>?_)
 ·obtain ⟨_,_,_,_,_,rfl,_⟩:=h; rfl
 ·obtain ⟨jj,m,s,ov,ins,rfl,hO,hl,hR⟩:=h
  refine Ac (Ay (Ad.ev (Cj T.vk (Ab (Cv (λb:Bool=>if b=true then D.int 1 else D.int 0) ["one"] [] [] (CJ (As (Aa 0) hO T.dh.cls T.dm (Of m s ov ins)) wB) (by rw [sizeLine_eq]; omega) (by exact λq hq s H fp=>⟨[some _],rfl,(A2 0 (show List.Nodup (["one"]:List Str) by decide +kernel)),⟨_,rfl,(PH (Ba (Aa 0)) (λhbb=>Ag) (λhbb=>Ag))⟩⟩)) Af) (Db (by first | exact Or.inr rfl | exact Or.inl (Or.inl rfl) | exact Or.inl (Or.inr (Or.inl rfl)) | exact Or.inl (Or.inr (Or.inr ⟨_,rfl,by first | assumption | rfl⟩))))) ?_))
  rw [X3]
  exact hR
theorem Wx (Fn:Av K "say" "Hand.say" KS f fd)  (jo:Am P w K mg base 4 "check_said" (AA JE)) (kt:Am P w K mg base 4 "middle_awake" (AA NG)) (zh:AI P w K mg base CK2 1 "heeded" (NI CK2)) (zi:AI P w K mg base CK14 1 "heeded" (Jx CK14 CK11)) (zj:AI P w K mg base CK11 1 "heeded" (Jx CK14 CK11)) (zk:AI P w K mg base CK10 1 "heeded" (NH CK10)):AC P w K mg base AO 6 f fd ["self","said"] (AR K (CC CK2 CK14 CK11 CK10)):=by
 refine Bu (k:=5) Fn Tl (λds O R h=>?_) (λcdv A outer s H E ds O R hr h=>?_)
 ·obtain ⟨_,_,_,_,_,rfl,_⟩:=h; rfl
 ·obtain ⟨q,m,s,ws,said,rfl,hq,hm,hs,hl,hw,hR⟩:=h
  have hs1:=hs.1
  have h24:said.length<=24:=by have:=hs.2.1; omega
  have hll:ws.length=said.length:=by omega
  rcases hq with ⟨hq,rfl⟩ | ⟨sf,p,u,hW,rfl,rfl⟩ | ⟨ins,ov,hq,rfl⟩
  ·refine Ac (A5 (Ad.ev (AF jo (hr.mono wE) (Ab (As (Aa 0) hq T.xo.cls T.xq (GH m s)) (Ab (As (Aa 0) hq T.xo.cls T.xr (Ii m s)) (Ab (Aa 1) Af))) ⟨_,_,_,rfl,by assumption,rfl⟩) ?_))
   exact Ac (Ay (Ad.ev (AF kt (hr.mono wE) (Ab (Aa 1) (Ab (Ev.evp (DT zh (hr.mono wE) (Aa 0) hq (XY m s) ⟨q,m,s,rfl,hq,hm,rfl,rfl⟩)) Af)) ⟨_,_,rfl,by assumption,by assumption,by assumption,rfl⟩) hR))
  ·refine Ac (A5 (Ad.ev (AF jo (hr.mono wE) (Ab (As (Aa 0) hW (cv T.xw.cls T.bn.cls sf) (nv T.xy T.bq sf) (M0 sf p u ws)) (Ab (As (Aa 0) hW (cv T.xw.cls T.bn.cls sf) (nv T.xz T.br sf) (Hg sf p u ws)) (Ab (Aa 1) Af))) ⟨_,_,_,rfl,by assumption,rfl⟩) ?_))
   exact Ac (Ay (Ad.ev (AF kt (hr.mono wE) (Ab (Aa 1) (Ab (Ev.evp (DT (mv zi zj sf) (hr.mono wE) (Aa 0) hW (Gd sf p u ws wD wD) ⟨q,sf,p,u,ws,rfl,hW,rfl,rfl⟩)) Af)) ⟨_,_,rfl,by assumption,by assumption,by assumption,rfl⟩) hR))
  ·have hi24:ins.length<=24:=by have:(D5 ins).length=ins.length:=List.length_map ..; omega
   refine Ac (A5 (Ad.ev (AF jo (hr.mono wE) (Ab (As (Aa 0) hq T.dh.cls T.dj (Gu m s ov ins)) (Ab (As (Aa 0) hq T.dh.cls T.dl (HE m s ov ins)) (Ab (Aa 1) Af))) ⟨_,_,_,rfl,by assumption,rfl⟩) ?_))
   exact Ac (Ay (Ad.ev (AF kt (hr.mono wE) (Ab (Aa 1) (Ab (Ev.evp (DT zk (hr.mono wE) (Aa 0) hq (HF m s ov ins wD) ⟨q,m,s,ov,ins,rfl,hq,hi24,rfl,rfl⟩)) Af)) ⟨_,_,rfl,by assumption,by assumption,by assumption,rfl⟩) hR))
theorem Wz (Fn:Av K "hear" "Hand.hear" KU f fd)  (jc:Am P w K mg base 5 "check_turn" (AA FE)):AC P w K mg base AO 6 f fd ["self","said","so"] (AR K (Jz CK2)):=by
 refine Bu (k:=5) Fn Tn (λds O R h=>?_) (λcdv A outer s H E ds O R hr h=>?_)
 ·obtain ⟨_,_,_,_,_,rfl,_⟩:=h; rfl
 ·obtain ⟨q,m,sc,so,said,rfl,hq,hs,hso,hR⟩:=h
  exact Ac (A5 (Ad.ev (AF jc (hr.mono wE) (Ab (As (Aa 0) hq T.xo.cls T.xq (GH m sc)) (Ab (As (Aa 0) hq T.xo.cls T.xr (Ii m sc)) (Ab (Aa 1) (Ab (Aa 2) Af)))) ⟨_,_,_,_,rfl,by assumption,by assumption,rfl⟩) (Aw hR)))
theorem WA (Fn:Av K "anew" "Hand.anew" KW f fd)  (je:Cn P w K mg base CK2 5 "Hand" (D6 (λC=>C=CK2\/C=CK14\/C=CK11\/C=CK10\/C=CK12\/C=CK1))):AC P w K mg base AO 7 f fd ["self"] (AR K (JJ CK2)):=by
 refine Bu (k:=6) Fn Tp (λds O R h=>?_) (λcdv A outer s H E ds O R hr h=>?_)
 ·obtain ⟨_,_,_,rfl,_⟩:=h; rfl
 ·obtain ⟨q,m,sc,rfl,hq,hm,hs,hR⟩:=h
  refine Ac (Ay (B2 je (hr.mono wE) (Ab (As (Aa 0) hq T.xo.cls T.xq (GH m sc)) (Ab (As (Aa 0) hq T.xo.cls T.xr (Ii m sc)) Af)) ⟨O.length,m,sc,CK2,rfl,.inl rfl,AU,hm,hs,rfl,?_⟩))
  rw [BD]
  exact hR
theorem Wu (Fn:Av K "__init__" "Rounder.__init__" KP f fd)  (jf:EL P w K mg base "Hand" 5 "__init__" (D6 (λC=>C=CK2\/C=CK14\/C=CK11\/C=CK10\/C=CK12\/C=CK1))):AC P w K mg base AO 6 f fd ["self","many","scale"] (AR K (Jw CK10)):=by
 refine Bu (k:=5) Fn Ti (λds O R h=>?_) (λcdv A outer s H E ds O R hr h=>?_)
 ·obtain ⟨_,_,_,rfl,_⟩:=h; rfl
 ·obtain ⟨q,m,s,rfl,hq,hm,hs,hR⟩:=h
  refine Ac (A5 (GM jf (hr.mono wE) (Ab (Aa 0) (Ab (Aa 1) (Ab (Aa 2) Af))) ⟨q,m,s,CK10,rfl,.inr (.inr (.inr (.inl rfl))),hq,hm,hs,?_⟩))
  refine Ac (A8 (An (A9 (Ab Bo Af)) (Aa 1) (Ed hm.1 wF (by simp) (by rw [sizeLine_eq]; show 1*m.toNat<=_; omega))) (Aa 0) (Bh hq) T.dh.cls T.dm (by show 2<1000; decide) ?_)
  rw [List.set_set,show Bl m s=r2 m s from rfl,Uk,M9]
  refine Ac (A8 Ag (Aa 0) (Bh hq) T.dh.cls T.dq (by show 3<1000; decide) ?_)
  rw [List.set_set,Uj]
  exact Aw hR
theorem Ws (Fn:Av K "hear" "Rounder.hear" KN f fd)  (jc:Am P w K mg base 5 "check_turn" (AA FE)) (jb:Am P w K mg base 1 "charge" (AA FF)):AC P w K mg base AO 6 f fd ["self","said","so"] (AR K (Jy CK10)):=by
 refine Bu (k:=5) Fn N5 (λds O R h=>?_) (λcdv A outer s H E ds O R hr h=>?_)
 ·obtain ⟨_,_,_,_,_,_,_,rfl,_⟩:=h; rfl
 ·obtain ⟨jj,m,s,ov,so,ins,said,rfl,hO,hm,hs,hso,hl,hR⟩:=h
  have hs1:=hs.1
  have hzl:(ins.zip said).length<=63:=by rw [List.length_zip]; omega
  refine Ac (A5 (Ad.ev (AF jc (hr.mono wE) (Ab (As (Aa 0) hO T.dh.cls T.dj (Gu m s ov ins)) (Ab (As (Aa 0) hO T.dh.cls T.dl (HE m s ov ins)) (Ab (Aa 1) (Ab (Aa 2) Af)))) ⟨_,_,_,_,rfl,by assumption,by assumption,rfl⟩) ?_))
  refine Ac (AL 3 (Ad.ev (Cj T.vk (Ab (Cv (λp:Bool×Option Int=>.bl (p.1&&decide (EG p.2 so=0))) ["one","what"] ["so"] [2] (GR (GJ (As (Aa 0) hO T.dh.cls T.dm (Of m s ov ins)) (Aa 1) wB wB T.vo)) (by rw [sizeLine_eq]; omega) (by exact λq hq s H fp=>⟨[some _,some _],rfl,(EB (B7 (A2 0 (show List.Nodup (["one","what","so"]:List Str) by decide +kernel)) (B7 (A2 1 (show List.Nodup (["one","what","so"]:List Str) by decide +kernel)) EA))),⟨_,rfl,(Ck (Aa 0) (λhbb=>(Cu (BG (AF jb (hr.mono wE) (Ab (Aa 1) (Ab (Aa 2) Af)) ⟨_,_,rfl,rfl⟩) Ag AV))))⟩⟩)) Af) (Db (by first | exact Or.inr rfl | exact Or.inl (Or.inl rfl) | exact Or.inl (Or.inr (Or.inl rfl)) | exact Or.inl (Or.inr (Or.inr ⟨_,rfl,by first | assumption | rfl⟩))))) ?_) N5.nd)
  have e1:((ins.zip said).map λp:Bool×Option Int=>D.bl (p.1&&decide (EG p.2 so=0)))=(Eg said so ins).map D.bl:=by
   unfold Eg
   rw [List.map_map]
   rfl
  rw [e1]
  have hLl:(Eg said so ins).length=ins.length:=O6 wF
  unfold FT Lr at hR
  generalize Eg said so ins=left at hR hLl
  refine Ac (AG (Ba (AT T.vz (Ab (Aa 3) Af) (ZV (by first | exact Or.inr rfl | exact Or.inl (Or.inl rfl) | exact Or.inl (Or.inr (Or.inl rfl)) | exact Or.inl (Or.inr (Or.inr ⟨_,rfl,by first | assumption | rfl⟩)))))) (λhk=>?_) (λhk=>?_))
  ·rw [if_pos hk,if_pos hk] at hR
   refine Ac (A8 (Aa 3) (Aa 0) hO T.dh.cls T.dm (by show 4<1000; decide) ?_)
   rw [Oe]
   exact Aw (Aw hR)
  ·have hk':¬ left.any id=true:=by rw [hk]; exact Bool.false_ne_true
   rw [if_neg hk',if_neg hk'] at hR
   refine Ac (A8 (An (A9 (Ab Bo Af)) (As (Aa 0) hO T.dh.cls T.dj (Gu m s ov ins)) (Ed hm.1 wF (by simp) (by rw [sizeLine_eq]; show 1*m.toNat<=_; omega))) (Aa 0) hO T.dh.cls T.dm (by show 4<1000; decide) ?_)
   rw [M9,Oe]
   have hO2:(O.set jj (some (MO.ins CK10 (BK m s (List.replicate m.toNat true) ov))))[jj]?=some (some (.ins CK10 (BK m s (List.replicate m.toNat true) ov))):=Bh hO
   refine Ac (A8 (An (As (Aa 0) hO2 T.dh.cls T.dq (TU m s ov _)) Ag Bq) (Aa 0) hO2 T.dh.cls T.dq (by show 4<1000; decide) ?_)
   rw [List.set_set,TQ]
   have e:m.toNat=ins.length:=by omega
   rw [e]
   exact Aw (Aw hR)
theorem Wt (Fn:Av K "anew" "Rounder.anew" KO f fd)  (ka:Cn P w K mg base CK10 6 "Rounder" (Jw CK10)):AC P w K mg base AO 8 f fd ["self"] (AR K (JI CK10)):=by
 refine Bu (k:=7) Fn Tf (λds O R h=>?_) (λcdv A outer s H E ds O R hr h=>?_)
 ·obtain ⟨_,_,_,_,_,rfl,_⟩:=h; rfl
 ·obtain ⟨q,m,s,ov,ins,rfl,hq,hm,hs,hR⟩:=h
  refine Ac (Ay (B2 ka (hr.mono wE) (Ab (As (Aa 0) hq T.dh.cls T.dj (Gu m s ov ins)) (Ab (As (Aa 0) hq T.dh.cls T.dl (HE m s ov ins)) Af)) ⟨O.length,m,s,rfl,AU,hm,hs,rfl,?_⟩))
  rw [BD]
  exact hR
theorem Wh (Fn:Av K "__init__" "Weigher.__init__" KA f fd)  (ji:Am P w K mg base 3 "check_fraction" (AA Hu)) (jf:EL P w K mg base "Hand" 5 "__init__" (D6 (λC=>C=CK2\/C=CK14\/C=CK11\/C=CK10\/C=CK12\/C=CK1))):AC P w K mg base AO 6 f fd ["self","many","scale","top","bottom"] (AR K (Gk CK14 CK11)):=by
 refine Bu (k:=5) Fn S4 (λds O R h=>?_) (λcdv A outer s H E ds O R hr h=>?_)
 ·obtain ⟨_,_,_,rfl,_⟩:=h; rfl
 ·obtain ⟨q,sf,p,rfl,hq,hp,hR⟩:=h
  obtain ⟨m,s,t,b,sh,pa⟩:=p
  have hm:1<=m/\m<=24:=⟨hp.m1,hp.m2⟩
  have hb:0<=t/\t<b/\b<=100:=⟨hp.f.t0,hp.f.tb,hp.f.b2⟩
  refine Ac (A5 (Ad.ev (AF ji (hr.mono wE) (Ab (Aa 3) (Ab (Aa 4) Af)) ⟨_,_,rfl,by assumption,rfl⟩) ?_))
  refine Ac (A5 (GM jf (hr.mono wE) (Ab (Aa 0) (Ab (Aa 1) (Ab (Aa 2) Af))) ⟨q,m,s,CA CK14 CK11 sf,rfl,(by cases sf; exact .inr (.inl rfl); exact .inr (.inr (.inl rfl))),hq,hm,⟨hp.f.s1,hp.f.s2⟩,?_⟩))
  have q1:=Bh (y:=some (.ins (CA CK14 CK11 sf) (Bl m s))) hq
  refine Ac (A8 (Aa 3) (Aa 0) q1 (cv T.xw.cls T.bn.cls sf) (nv T.bc T.bu sf) (by show 2<1000; decide) ?_)
  rw [List.set_set,Uh]
  refine Ac (A8 (Aa 4) (Aa 0) (Bh hq) (cv T.xw.cls T.bn.cls sf) (nv T.bd T.bv sf) (by show 3<1000; decide) ?_)
  rw [List.set_set,Ut]
  refine Ac (A8 (An (A9 (Ab Ag Af)) (Aa 1) (Ed hm.1 wF (by simp) (by rw [sizeLine_eq]; show 1*m.toNat<=_; omega))) (Aa 0) (Bh hq) (cv T.xw.cls T.bn.cls sf) (nv T.bf T.bw sf) (by show 4<1000; decide) ?_)
  rw [List.set_set,Ug,OE]
  refine Ac (A8 Ag (Aa 0) (Bh hq) (cv T.xw.cls T.bn.cls sf) (nv T.bg T.bx sf) (by show 5<1000; decide) ?_)
  rw [List.set_set,Uf]
  exact Aw hR
theorem Wq (Fn:Av K "__init__" "Shifter.__init__" KL f fd)  (zm:Am P w K mg base 3 "check_share" (AA Nx)) (zn:EL P w K mg base "Weigher" 6 "__init__" (Gk CK14 CK11)):AC P w K mg base AO 7 f fd ["self","many","scale","top","bottom","share","parts"] (AR K (Jv CK11)):=by
 refine Bu (k:=6) Fn Td (λds O R h=>?_) (λcdv A outer s H E ds O R hr h=>?_)
 ·obtain ⟨_,_,rfl,_⟩:=h; rfl
 ·obtain ⟨q,p,rfl,hq,hp,hR⟩:=h
  have hsh:1<=p.sh/\p.sh<p.pa/\p.pa<=100:=⟨hp.h1,hp.h2,hp.h3⟩
  refine Ac (A5 (Ad.ev (AF zm (hr.mono wE) (Ab (Aa 5) (Ab (Aa 6) Af)) ⟨_,_,rfl,by assumption,rfl⟩) ?_))
  refine Ac (A5 (GM zn (hr.mono wE) (Ab (Aa 0) (Ab (Aa 1) (Ab (Aa 2) (Ab (Aa 3) (Ab (Aa 4) Af))))) ⟨q,true,p,rfl,hq,⟨hp.f,hp.m1,hp.m2,λz=>by cases z⟩,?_⟩))
  have q1:=Bh (y:=some (.ins CK11 (Bs p.m p.sc p.t p.b (List.replicate p.m.toNat 1) 1))) hq
  refine Ac (A8 (Aa 5) (Aa 0) q1 T.bn.cls T.bz (by show 6<1000; decide) ?_)
  rw [List.set_set,Ui]
  refine Ac (A8 (Aa 6) (Aa 0) (Bh hq) T.bn.cls T.de (by show 7<1000; decide) ?_)
  rw [List.set_set,Ul]
  exact Aw hR
theorem Wb (Fn:Av K "weigh" "Weigher.weigh" Kw f fd)  (jb:Am P w K mg base 1 "charge" (AA FF)) (jk:AI P w K mg base CK14 6 "say" (CC CK2 CK14 CK11 CK10)) (jl:AI P w K mg base CK11 6 "say" (CC CK2 CK14 CK11 CK10)) (zo:Am P w K mg base 3 "times" (Nv CK14 CK11)) (jy:Am P w K mg base 2 "times_asleep" (Jp CK14 CK11)):AC P w K mg base AO 7 f fd ["self","said","so"] (AR K (Jn CK14 CK11)):=by
 refine Bu (k:=6) Fn N4 (λds O R h=>?_) (λcdv A outer s H E ds O R hr h=>?_)
 ·obtain ⟨_,_,_,_,_,_,_,_,rfl,_⟩:=h; rfl
 ·obtain ⟨jj,n,sf,p,u,so,said,ws,rfl,hW,hp,hn,hwo,hl,hs,hso,hR⟩:=h
  have hf:=hp.f
  have hs1:=hs.1
  have h24:=hs.2.1
  have h0:DE ws:=λw hw=>(hwo.w w hw).1
  have hon:=GE (ws:=ws) hs (by have:=hf.s1; omega) h0
  have hd:=IJ hon hso
  refine Ac (AL 3 (Ad.ev (AF jb (hr.mono wE) (Ab (Ev.evp (CG (mv jk jl sf) (hr.mono wE) (Aa 0) hW (Gd sf p u ws wD wD) (Ab (Aa 1) Af) ⟨jj,p.m,p.sc,ws,said,rfl,.inr (.inl ⟨sf,p,u,hW,rfl,rfl⟩),⟨hp.m1,hp.m2⟩,hs,hl,h0,rfl,rfl⟩)) (Ab (Aa 2) Af)) ⟨some (BM said ws),so,rfl,rfl⟩) ?_) N4.nd)
  have hdd:EG (some (BM said ws)) so=ab (BM said ws-so):=rfl
  rw [hdd]
  generalize ab (BM said ws-so)=dd at hd hR
  have hzl:(ws.zip said).length<=63:=by rw [List.length_zip]; omega
  have hi:∀ q∈ws.zip said,IntMulOk q.1 (tF p.t p.b p.sc dd so q.2):=λq hq=>by
   have h1:=hwo.w _ (List.of_mem_zip hq).1
   have h2:=Jj hf hd.2 hso (hs.2.2 _ (List.of_mem_zip hq).2)
   exact Ef h1.1 h1.2 h2.1 h2.2 wF
  have hin:∀ q∈ws.zip said,q.2=none\/DO p.sc q.2=true:=λq hq=>hs.2.2 _ (List.of_mem_zip hq).2
  refine Ac (A8 (Cj T.vk (Ab (Cv (λq:Int×Option Int=>.int (q.1*tF p.t p.b p.sc dd so q.2)) ["kept","what"] ["self","own","so"] [0,3,2] (GR (GJ (As (Aa 0) hW (cv T.xw.cls T.bn.cls sf) (nv T.bf T.bw sf) (MY sf p u ws)) (Aa 1) wB wB T.vo)) (by rw [sizeLine_eq]; omega) (by exact λq hq s H fp=>⟨[some _,some _],rfl,(EB (B7 (A2 0 (show List.Nodup (["kept","what","self","own","so"]:List Str) by decide +kernel)) (B7 (A2 1 (show List.Nodup (["kept","what","self","own","so"]:List Str) by decide +kernel)) EA))),⟨_,rfl,(An (Aa 0) (Ev.evp (BU zo (hr.mono wE) (Ab (Aa 2) (Ab (Aa 3) (Ab (Aa 1) (Ab (Aa 4) Af)))) ⟨_,_,_,_,_,_,q.2,_,rfl,hW,hp,hd,hso,hin q hq,rfl,rfl⟩)) (B8 (hi q hq)))⟩⟩)) Af) (Db (by first | exact Or.inr rfl | exact Or.inl (Or.inl rfl) | exact Or.inl (Or.inr (Or.inl rfl)) | exact Or.inl (Or.inr (Or.inr ⟨_,rfl,by first | assumption | rfl⟩))))) (Aa 0) hW (cv T.xw.cls T.bn.cls sf) (nv T.bf T.bw sf) (MX ..) ?_)
  have e1:((ws.zip said).map λq:Int×Option Int=>D.int (q.1*tF p.t p.b p.sc dd so q.2))=(CD p.t p.b p.sc dd so said ws).map D.int:=by
   unfold CD
   rw [List.map_map]
   rfl
  rw [e1,Rg]
  have h1:=Hj (own:=dd) hf hd.2
  have hW2:(O.set jj (some (MO.ins (CA CK14 CK11 sf) (B3 sf p (CD p.t p.b p.sc dd so said ws) u))))[jj]?=some (some (.ins (CA CK14 CK11 sf) (B3 sf p (CD p.t p.b p.sc dd so said ws) u))):=Bh hW
  refine Ac (A8 (An (As (Aa 0) hW2 (cv T.xw.cls T.bn.cls sf) (nv T.bg T.bx sf) (Rh sf p u _)) (Ev.evp (BU jy (hr.mono wE) (Ab (Aa 0) (Ab (Aa 3) Af)) ⟨jj,sf,p,u,dd,_,rfl,hW2,hp,hd,rfl,rfl⟩)) (B8 (Ef hwo.u0 hwo.u1 h1.1 h1.2 wF))) (Aa 0) hW2 (cv T.xw.cls T.bn.cls sf) (nv T.bg T.bx sf) (MX ..) ?_)
  rw [List.set_set,Rf]
  exact Aw hR
theorem Wo (Fn:Av K "deal" "Shifter.deal" KJ f fd)  : AC P w K mg base AO 1 f fd ["self"] (AR K (NN CK11)):=by
 refine Bu (k:=0) Fn JP (λds O R h=>?_) (λcdv A outer s H E ds O R hr h=>?_)
 ·obtain ⟨_,_,_,_,rfl,_⟩:=h; rfl
 ·obtain ⟨jj,p,u,ws,rfl,hW,hp,hl,hR⟩:=h
  have hk:=O9 hp
  have p1:=hp.h1; have p2:=hp.h2; have p3:=hp.h3; have m1:=hp.m1; have m2:=hp.m2
  refine Ac (AL 1 (Ad.ev (An (As (Aa 0) hW T.bn.cls T.bz (IW p u ws)) (AT T.vn (Ab (As (Aa 0) hW T.bn.cls T.bw (IV p u ws)) Af) (Mg (Or.inr rfl))) (B8 (C4.ok (Or.inl ⟨by omega,by omega⟩)))) ?_) JP.nd)
  refine Ac (AL 2 (Ad.ev (An (As (Aa 0) hW T.bn.cls T.bq (Gc p u ws)) (An (As (Aa 0) hW T.bn.cls T.de (IY p u ws)) (As (Aa 0) hW T.bn.cls T.bz (IW p u ws)) Fe) (B8 (C4.ok (Or.inl ⟨by omega,by omega⟩)))) ?_) JP.nd)
  refine Ac (A8 (Cj T.vk (Ab (Cv (λw:Int=>.int (w*(p.m*(p.pa-p.sh))+p.sh*ws.sum)) ["one"] ["kept","dealt"] [2,1] (CJ (As (Aa 0) hW T.bn.cls T.bw (IV p u ws)) wB) (by rw [sizeLine_eq]; omega) (by exact λq hq s H fp=>⟨[some _],rfl,(A2 0 (show List.Nodup (["one","kept","dealt"]:List Str) by decide +kernel)),⟨_,rfl,(An (An (Aa 0) (Aa 1) (B8 (C4.ok (Or.inr ⟨by omega,by omega⟩)))) (Aa 2) Bq)⟩⟩)) Af) (Db (by first | exact Or.inr rfl | exact Or.inl (Or.inl rfl) | exact Or.inl (Or.inr (Or.inl rfl)) | exact Or.inl (Or.inr (Or.inr ⟨_,rfl,by first | assumption | rfl⟩))))) (Aa 0) hW T.bn.cls T.bw (by show 8<1000; decide) ?_)
  have e1:(ws.map λw:Int=>D.int (w*(p.m*(p.pa-p.sh))+p.sh*ws.sum))=(DC p ws).map D.int:=by
   unfold DC
   rw [List.map_map]
   rfl
  rw [e1,Nt]
  have hW2:(O.set jj (some (MO.ins CK11 (Be p (DC p ws) u))))[jj]?=some (some (.ins CK11 (Be p (DC p ws) u))):=Bh hW
  refine Ac (A8 (An (An (As (Aa 0) hW2 T.bn.cls T.bx (ML p u _)) (As (Aa 0) hW2 T.bn.cls T.bq (Gc p u _)) (B8 (C4.ok (Or.inr ⟨by omega,by omega⟩)))) (As (Aa 0) hW2 T.bn.cls T.de (IY p u _)) (B8 (C4.ok (Or.inr ⟨by omega,by omega⟩)))) (Aa 0) hW2 T.bn.cls T.bx (by show 8<1000; decide) ?_)
  rw [List.set_set,Nr]
  exact Aw hR
theorem Wf (Fn:Av K "hear" "Weigher.hear" Ky f fd)  (jc:Am P w K mg base 5 "check_turn" (AA FE)) (zp:AI P w K mg base CK14 7 "weigh" (Jn CK14 CK11)):AC P w K mg base AO 8 f fd ["self","said","so"] (AR K (EV CK14 CK11 false)):=by
 refine Bu (k:=7) Fn S2 (λds O R h=>?_) (λcdv A outer s H E ds O R hr h=>?_)
 ·obtain ⟨_,_,_,_,_,_,_,rfl,_⟩:=h; rfl
 ·obtain ⟨jj,n,p,u,so,said,ws,rfl,hW,hp,hn,hwo,hl,hs,hso,hR⟩:=h
  have hW':O[jj]?=some (some (.ins CK14 (Bs p.m p.sc p.t p.b ws u))):=hW
  refine Ac (A5 (Ad.ev (AF jc (hr.mono wE) (Ab (As (Aa 0) hW' T.xw.cls T.xy (Je ..)) (Ab (As (Aa 0) hW' T.xw.cls T.xz (Jd ..)) (Ab (Aa 1) (Ab (Aa 2) Af)))) ⟨_,_,_,_,rfl,by assumption,by assumption,rfl⟩) ?_))
  exact Ac (A5 (CG zp (hr.mono wE) (Aa 0) hW' (MV _ _ _ _ _ _ wD) (Ab (Aa 1) (Ab (Aa 2) Af)) ⟨jj,n,false,p,u,so,said,ws,rfl,hW,hp,hn,hwo,hl,hs,hso,Aw hR⟩))
theorem Wn (Fn:Av K "hear" "Shifter.hear" KI f fd)  (jc:Am P w K mg base 5 "check_turn" (AA FE)) (zq:AI P w K mg base CK11 7 "weigh" (Jn CK14 CK11)) (zr:AI P w K mg base CK11 1 "deal" (NN CK11)):AC P w K mg base AO 8 f fd ["self","said","so"] (AR K (EV CK14 CK11 true)):=by
 refine Bu (k:=7) Fn S9 (λds O R h=>?_) (λcdv A outer s H E ds O R hr h=>?_)
 ·obtain ⟨_,_,_,_,_,_,_,rfl,_⟩:=h; rfl
 ·obtain ⟨jj,n,p,u,so,said,ws,rfl,hW0,hp0,hn,hwo,hl,hs,hso,hR⟩:=h
  have hW:IN CK11 O jj p ws u:=hW0
  have hp:=hp0.so
  refine Ac (A5 (Ad.ev (AF jc (hr.mono wE) (Ab (As (Aa 0) hW T.bn.cls T.bq (Gc p u ws)) (Ab (As (Aa 0) hW T.bn.cls T.br (IX p u ws)) (Ab (Aa 1) (Ab (Aa 2) Af)))) ⟨_,_,_,_,rfl,by assumption,by assumption,rfl⟩) ?_))
  refine Ac (A5 (CG zq (hr.mono wE) (Aa 0) hW (IZ p u ws wD) (Ab (Aa 1) (Ab (Aa 2) Af)) ⟨jj,n,true,p,u,so,said,ws,rfl,hW0,hp0,hn,hwo,hl,hs,hso,?_⟩))
  have hW2:IN CK11 (O.set jj (some (.ins CK11 (Be p (CD p.t p.b p.sc (ab (BM said ws-so)) so said ws) (u*tS p.t p.b p.sc (ab (BM said ws-so))))))) jj p (CD p.t p.b p.sc (ab (BM said ws-so)) so said ws) (u*tS p.t p.b p.sc (ab (BM said ws-so))):=Bh hW
  have hs1:=hs.1
  have h24:=hs.2.1
  have hnl:=HS (t:=p.t) (b:=p.b) (sc:=p.sc) (dd:=ab (BM said ws-so)) (so:=so) (show ws.length=said.length by omega)
  refine Ac (A5 (DT zr (hr.mono wE) (Aa 0) hW2 (IZ p _ _ wD) ⟨jj,p,_,_,rfl,hW2,hp,by omega,?_⟩))
  rw [List.set_set]
  exact Aw hR
theorem Wg (Fn:Av K "anew" "Weigher.anew" Kz f fd)  (kc:Cn P w K mg base CK14 6 "Weigher" (Gk CK14 CK11)):AC P w K mg base AO 9 f fd ["self"] (AR K (EX CK14 CK11 false)):=by
 refine Bu (k:=8) Fn S3 (λds O R h=>?_) (λcdv A outer s H E ds O R hr h=>?_)
 ·obtain ⟨_,_,_,_,rfl,_⟩:=h; rfl
 ·obtain ⟨jj,p,u,ws,rfl,hW,hp,hR⟩:=h
  have hW':O[jj]?=some (some (.ins CK14 (Bs p.m p.sc p.t p.b ws u))):=hW
  refine Ac (Ay (B2 kc (hr.mono wE) (Ab (As (Aa 0) hW' T.xw.cls T.xy (Je ..)) (Ab (As (Aa 0) hW' T.xw.cls T.xz (Jd ..)) (Ab (As (Aa 0) hW' T.xw.cls T.bc (MU ..)) (Ab (As (Aa 0) hW' T.xw.cls T.bd (MW ..)) Af)))) ⟨O.length,false,p,rfl,AU,hp,rfl,?_⟩))
  rw [BD]
  exact hR
theorem Wp (Fn:Av K "anew" "Shifter.anew" KK f fd)  (kf:Cn P w K mg base CK11 7 "Shifter" (Jv CK11)):AC P w K mg base AO 9 f fd ["self"] (AR K (EX CK14 CK11 true)):=by
 refine Bu (k:=8) Fn Tc (λds O R h=>?_) (λcdv A outer s H E ds O R hr h=>?_)
 ·obtain ⟨_,_,_,_,rfl,_⟩:=h; rfl
 ·obtain ⟨jj,p,u,ws,rfl,hW0,hp0,hR⟩:=h
  have hW:IN CK11 O jj p ws u:=hW0
  have hp:=hp0.so
  refine Ac (Ay (B2 kf (hr.mono wE) (Ab (As (Aa 0) hW T.bn.cls T.bq (Gc p u ws)) (Ab (As (Aa 0) hW T.bn.cls T.br (IX p u ws)) (Ab (As (Aa 0) hW T.bn.cls T.bu (MM p u ws)) (Ab (As (Aa 0) hW T.bn.cls T.bv (MN p u ws)) (Ab (As (Aa 0) hW T.bn.cls T.bz (IW p u ws)) (Ab (As (Aa 0) hW T.bn.cls T.de (IY p u ws)) Af)))))) ⟨O.length,p,rfl,AU,hp,rfl,?_⟩))
  rw [BD]
  exact hR
theorem WF (Fn:G6 K "__init__" "Follower.__init__" FJ f fd [.none])  (zt:Am P w K mg base 4 "push_of" (AA Nz)) (jf:EL P w K mg base "Hand" 5 "__init__" (D6 (λC=>C=CK2\/C=CK14\/C=CK11\/C=CK10\/C=CK12\/C=CK1))):AC P w K mg base AO 6 f fd ["self","many","scale","push"] (AR K (Gn CK1)):=by
 refine WJ (k:=5) Fn Tt (λds O R h=>?_) (λcdv A outer s H E ds O R hr h=>?_)
 ·obtain ⟨_,_,_,_,rfl,_⟩:=h; rfl
 ·obtain ⟨q,m,s,po,rfl,hq,hm,hs,hp,hR⟩:=h
  refine Ac (A5 (GM jf (hr.mono wE) (Ab (Aa 0) (Ab (Aa 1) (Ab (Aa 2) Af))) ⟨q,m,s,CK1,rfl,.inr (.inr (.inr (.inr (.inr rfl)))),hq,hm,hs,?_⟩))
  refine Ac (A8 (AF zt (hr.mono wE) (Ab (Aa 1) (Ab (Aa 3) Af)) ⟨m,po,rfl,hm,hp,rfl⟩) (Aa 0) (Bh hq) T.dy.cls T.eg (by show 2<1000; decide) ?_)
  rw [List.set_set,show Bl m s=g2 m s from rfl,Ur]
  have q3:=Bh (y:=some (.ins CK1 (g3 m s (.tup ((FN m po).map D.int))))) hq
  refine Ac (A8 (As (Aa 0) q3 T.dy.cls T.eg (Yf _ _ _)) (Aa 0) q3 T.dy.cls T.ej (by show 3<1000; decide) ?_)
  rw [List.set_set,Uq]
  exact Aw hR
theorem WC (Fn:Av K "say" "Follower.say" KZ f fd)  (jo:Am P w K mg base 4 "check_said" (AA JE)) (jx:Am P w K mg base 1 "awake_in" (AA JG)) (zu:Am P w K mg base 1 "first_least" (AA NM)):AC P w K mg base AO 5 f fd ["self","said"] (AR K (Hn CK1)):=by
 refine Bu (k:=4) Fn N6 (λds O R h=>?_) (λcdv A outer s H E ds O R hr h=>?_)
 ·obtain ⟨_,_,_,_,_,_,rfl,_⟩:=h; rfl
 ·obtain ⟨q,m,s,ps,sc,said,rfl,hq,hm,hs,hl,hR⟩:=h
  have hs1:=hs.1
  have h24:said.length<=24:=by have:=hs.2.1; omega
  have hal:=Mm said
  refine Ac (A5 (Ad.ev (AF jo (hr.mono wE) (Ab (As (Aa 0) hq T.dy.cls T.ee (Ip m s ps sc)) (Ab (As (Aa 0) hq T.dy.cls T.ef (Io m s ps sc)) (Ab (Aa 1) Af))) ⟨_,_,_,rfl,by assumption,rfl⟩) ?_))
  refine Ac (AL 2 (Ad.ev (AF jx (hr.mono wE) (Ab (Aa 1) Af) ⟨_,rfl,by assumption,rfl⟩) ?_) N6.nd)
  refine Ac (AG (AJ (AT T.vh (Ab (Aa 2) Af) (Cd (by first | exact Or.inr rfl | exact Or.inl (Or.inl rfl) | exact Or.inl (Or.inr (Or.inl rfl)) | exact Or.inl (Or.inr (Or.inr ⟨_,rfl,by first | assumption | rfl⟩))))) Ag AV) (λhk=>?_) (λhk=>Aw ?_))
  ·have hk:=of_decide_eq_true hk
   rw [List.length_map] at hk
   rw [TB (List.length_eq_zero_iff.mp wF)] at hR
   exact Ac (Ay (Ad.ev Ag hR))
  ·have hk:=of_decide_eq_false hk
   rw [List.length_map] at hk
   obtain ⟨k,_,hf⟩:=L4 sc (ax said) (Qs said) (λz=>hk (by rw [z]; rfl))
   rw [Tx hf] at hR
   have hb:∀ k∈ax said,k<sc.length:=λk hk=>by have:=II hk; omega
   exact Ac (Ay (Ad.ev (CI (Aa 1) (AF zu (hr.mono wE) (Ab (As (Aa 0) hq T.dy.cls T.ej (Pu m s ps sc)) (Ab (Aa 2) Af)) ⟨sc,ax said,k,rfl,by omega,hb,hf,rfl⟩) (Qw hf.1)) hR))
theorem WD (Fn:Av K "hear" "Follower.hear" K0 f fd)  (jc:Am P w K mg base 5 "check_turn" (AA FE)) (jb:Am P w K mg base 1 "charge" (AA FF)):AC P w K mg base AO 6 f fd ["self","said","so"] (AR K (JA CK1)):=by
 refine Bu (k:=5) Fn Tr (λds O R h=>?_) (λcdv A outer s H E ds O R hr h=>?_)
 ·obtain ⟨_,_,_,_,_,_,_,rfl,_⟩:=h; rfl
 ·obtain ⟨jj,m,s,so,ps,sc,said,rfl,hO,hm,hs,hso,hl,hR⟩:=h
  have hs1:=hs.1
  have hzl:(sc.zip said).length<=63:=by rw [List.length_zip]; omega
  refine Ac (A5 (Ad.ev (AF jc (hr.mono wE) (Ab (As (Aa 0) hO T.dy.cls T.ee (Ip m s ps sc)) (Ab (As (Aa 0) hO T.dy.cls T.ef (Io m s ps sc)) (Ab (Aa 1) (Ab (Aa 2) Af)))) ⟨_,_,_,_,rfl,by assumption,by assumption,rfl⟩) ?_))
  refine Ac (A8 (Cj T.vk (Ab (Cv (λp:Int×Option Int=>.int (p.1+EG p.2 so)) ["score","what"] ["so"] [2] (GR (GJ (As (Aa 0) hO T.dy.cls T.ej (Pu m s ps sc)) (Aa 1) wB wB T.vo)) (by rw [sizeLine_eq]; omega) (by exact λq hq s H fp=>⟨[some _,some _],rfl,(EB (B7 (A2 0 (show List.Nodup (["score","what","so"]:List Str) by decide +kernel)) (B7 (A2 1 (show List.Nodup (["score","what","so"]:List Str) by decide +kernel)) EA))),⟨_,rfl,(An (Aa 0) (AF jb (hr.mono wE) (Ab (Aa 1) (Ab (Aa 2) Af)) ⟨_,_,rfl,rfl⟩) Bq)⟩⟩)) Af) (Db (by first | exact Or.inr rfl | exact Or.inl (Or.inl rfl) | exact Or.inl (Or.inr (Or.inl rfl)) | exact Or.inl (Or.inr (Or.inr ⟨_,rfl,by first | assumption | rfl⟩))))) (Aa 0) hO T.dy.cls T.ej (by show 4<1000; decide) ?_)
  have e1:((sc.zip said).map λp:Int×Option Int=>D.int (p.1+EG p.2 so))=(FS said so sc).map D.int:=by
   unfold FS
   rw [List.map_map]
   rfl
  rw [e1,Yh]
  exact Aw hR
theorem WE (Fn:Av K "anew" "Follower.anew" K1 f fd)  (kg:Cn P w K mg base CK1 6 "Follower" (Gn CK1)):AC P w K mg base AO 8 f fd ["self"] (AR K (JK CK1)):=by
 refine Bu (k:=7) Fn Ts (λds O R h=>?_) (λcdv A outer s H E ds O R hr h=>?_)
 ·obtain ⟨_,_,_,_,_,rfl,_⟩:=h; rfl
 ·obtain ⟨q,m,s,ps,sc,rfl,hq,hm,hs,hp,hR⟩:=h
  refine Ac (Ay (B2 kg (hr.mono wE) (Ab (As (Aa 0) hq T.dy.cls T.ee (Ip m s ps sc)) (Ab (As (Aa 0) hq T.dy.cls T.ef (Io m s ps sc)) (Ab (As (Aa 0) hq T.dy.cls T.eg (Yl m s ps sc)) Af))) ⟨O.length,m,s,some ps,rfl,AU,hm,hs,hp,rfl,?_⟩))
  rw [BD]
  exact hR
theorem V3 (Fn:Av K "check_said" "check_said" Kn f fd) (hm:mg "check_said" = some (.ref f)) (hb:Binds K fd ["many","scale","said"] []) (jh:Am P w K mg base 3 "is_said" (AA Hs)) (J_NoTurn:IU P w K mg base CK8 1 "NoTurn" "number"):D3 P w K mg base 4 "check_said" (JD CK8):=by
 refine ⟨f,fd,_,FP (k:=3) Fn SU (λds O R RX h=>?_) (λcdv A outer s H E ds O R RX hr h=>?_),hm,Fn.kp,hb⟩
 ·obtain ⟨_,_,_,rfl,_⟩:=h; rfl
 ·obtain ⟨m,s,x,rfl,hS,h1,h2⟩:=h
  refine BA (D4 (Bw (Ba (AF jh (hr.mono wE) (Ab (Aa 0) (Ab (Aa 1) (Ab (Aa 2) Af))) ⟨m,s,x,rfl,hS,rfl⟩))) (λhk=>?_) (λhk=>Dr (Dr (h1 (OM hk)))))
  exact BA (MR J_NoTurn (hr.mono wE) (Ab Ag Af) (h2 (OL hk)) trivial)
theorem VY (Fn:Av K "check_turn" "check_turn" Ki f fd) (hm:mg "check_turn" = some (.ref f)) (hb:Binds K fd ["many","scale","said","so"] []) (jw:Am P w K mg base 4 "is_turn" (AA Ju)) (J_NoTurn:IU P w K mg base CK8 1 "NoTurn" "number"):D3 P w K mg base 5 "check_turn" (JC CK8):=by
 refine ⟨f,fd,_,FP (k:=4) Fn SO (λds O R RX h=>?_) (λcdv A outer s H E ds O R RX hr h=>?_),hm,Fn.kp,hb⟩
 ·obtain ⟨_,_,_,_,rfl,_⟩:=h; rfl
 ·obtain ⟨m,s,x,y,rfl,hS,h1,h2⟩:=h
  refine BA (D4 (Bw (Ba (AF jw (hr.mono wE) (Ab (Aa 0) (Ab (Aa 1) (Ab (A9 (Ab (Aa 2) (Ab (Aa 3) Af))) Af))) ⟨m,s,.two x y,rfl,hS,rfl⟩))) (λhk=>?_) (λhk=>Dr (Dr (h1 ?_))))
  ·exact BA (MR J_NoTurn (hr.mono wE) (Ab Ag Af) (h2 (OL hk)) trivial)
  ·exact OM hk
theorem Ww (Fn:Av K "__init__" "Meaner.__init__" KR f fd)  (jz:Am P w K mg base 4 "check_making" (AA Js)) (ji:Am P w K mg base 3 "check_fraction" (AA Hu)):AC P w K mg base AO 5 f fd ["self","many","scale","top","bottom"] (AR K (NC CK4)):=by
 refine Bu (k:=4) Fn Tk (λds O R h=>?_) (λcdv A outer s H E ds O R hr h=>?_)
 ·obtain ⟨_,_,_,_,_,rfl,_⟩:=h; rfl
 ·obtain ⟨q,m,s,t,b,rfl,hq,hm,hs,hb,hR⟩:=h
  refine Ac (A5 (Ad.ev (AF jz (hr.mono wE) (Ab (Aa 1) (Ab (Aa 2) Af)) ⟨_,_,rfl,by assumption,by assumption,rfl⟩) ?_))
  refine Ac (A5 (Ad.ev (AF ji (hr.mono wE) (Ab (Aa 3) (Ab (Aa 4) Af)) ⟨_,_,rfl,by assumption,rfl⟩) ?_))
  refine Ac (A8 (Aa 1) (Aa 0) hq T.ft.cls T.fv wE ?_)
  refine Ac (A8 (Aa 2) (Aa 0) (Bh hq) T.ft.cls T.fw (by show 1<1000; decide) ?_)
  rw [List.set_set]
  refine Ac (A8 (Aa 3) (Aa 0) (Bh hq) T.ft.cls T.fz (by show 2<1000; decide) ?_)
  rw [List.set_set]
  refine Ac (A8 (Aa 4) (Aa 0) (Bh hq) T.ft.cls T.la (by show 3<1000; decide) ?_)
  rw [List.set_set]
  refine Ac (A8 (An (A9 (Ab Ag Af)) (Aa 1) (Ed hm.1 wF (by simp) (by rw [sizeLine_eq]; show 1*m.toNat<=_; omega))) (Aa 0) (Bh hq) T.ft.cls T.lb (by show 4<1000; decide) ?_)
  rw [List.set_set]
  refine Ac (A8 Ag (Aa 0) (Bh hq) T.ft.cls T.lc (by show 5<1000; decide) ?_)
  rw [List.set_set]
  exact Aw (hR _)
theorem WG (Fn:Av K "__init__" "Book.__init__" K2 f fd)  (jt:Am P w K mg base 3 "check_scale" (AA Jq)) (ji:Am P w K mg base 3 "check_fraction" (AA Hu)):AC P w K mg base AO 5 f fd ["self","scale","top","bottom"] (AR K (ND CK0)):=by
 refine Bu (k:=4) Fn Tu (λds O R h=>?_) (λcdv A outer s H E ds O R hr h=>?_)
 ·obtain ⟨_,_,_,_,rfl,_⟩:=h; rfl
 ·obtain ⟨q,sc,t,b,rfl,hq,hs,hb,hR⟩:=h
  have set_app:∀ {O Y:Ae} {q:Nat} {m n:Option MO},O[q]?=some m->(O++Y).set q n=O.set q n++Y:=λh=>by rw [List.set_append_left _ _ (List.getElem?_eq_some_iff.mp h).1]
  refine Ac (A5 (Ad.ev (AF jt (hr.mono wE) (Ab (Aa 1) Af) ⟨_,rfl,by assumption,rfl⟩) ?_))
  refine Ac (A5 (Ad.ev (AF ji (hr.mono wE) (Ab (Aa 2) (Ab (Aa 3) Af)) ⟨_,_,rfl,by assumption,rfl⟩) ?_))
  refine Ac (A8 (Aa 1) (Aa 0) hq T.lf.cls T.lh wE ?_)
  refine Ac (A8 (Aa 2) (Aa 0) (Bh hq) T.lf.cls T.li (by show 1<1000; decide) ?_)
  rw [List.set_set]
  refine Ac (A8 (Aa 3) (Aa 0) (Bh hq) T.lf.cls T.lj (by show 2<1000; decide) ?_)
  rw [List.set_set]
  have q3:=Bh (y:=some (.ins CK0 (AX "bottom" (.int b) (AX "top" (.int t) (AX "scale" (.int sc) []))))) hq
  refine Ac (Jb (YH ⟨(Aa 0),BV q3,?_⟩) T.lf.cls T.ll (by show 3<1000; decide))
  rw [List.length_set,set_app q3,List.set_set]
  have q4:∀ z,(O.set q (some z)++[some (MO.dct [] [])])[q]?=some (some z):=λz=>BV (Bh hq)
  refine Ac (A8 Ag (Aa 0) (q4 _) T.lf.cls T.lm (by show 4<1000; decide) ?_)
  rw [set_app (Bh hq),List.set_set]
  refine Ac (A8 Ag (Aa 0) (q4 _) T.lf.cls T.ln (by show 5<1000; decide) ?_)
  rw [set_app (Bh hq),List.set_set]
  exact Aw (hR _)
theorem Wa (Fn:Av K "are_alike" "are_alike" Kv f fd) (hm:mg "are_alike" = some (.ref f)) (hb:Binds K fd ["hands"] []):Am P w K mg base 1 "are_alike" (JL ⟨CK2,CK14,CK11,CK10,CK12,CK1⟩ CK4 CK0):=by
 refine A4 (k:=0) Fn S0 hm hb (λds O R h=>?_) (λcdv A outer s H E ds O R hr h=>?_)
 ·obtain ⟨_,rfl,_⟩:=h; rfl
 ·obtain ⟨d,rfl,hk⟩:=h
  rcases hk with ⟨h1 | ⟨x,rfl,hx⟩ | rfl,hR⟩ | ⟨ts,rfl,hT,hl,ha,hR⟩ | ⟨hs,x0,rfl,hQ,h0,hl,hR⟩
  ·exact Ac (AG (BJ.t (B4 (k:=true) (l:=false) (AH.cast (Bw (Ba (AT T.vt (Ab (Aa 0) (Ab (Ct T.vk) Af)) (DV h1.1)))) (by rw [h1.2]; rfl)) (λhbb=>by cases hbb))) (λ_=>Ac (Ay (Ad.ev Bo hR))) (λhk=>by cases hk))
  ·exact Ac (AG (BJ.t (B4 (k:=true) (l:=false) (Bw (Ba (YE (C:=⟨CK2,CK14,CK11,CK10,CK12,CK1⟩) T.vt (Aa 0) hx T.vk T.xo T.xw T.bn T.dh T.dy T.xu T.bj T.dg T.dw T.er))) (λhbb=>by cases hbb))) (λ_=>Ac (Ay (Ad.ev Bo hR))) (λhk=>by cases hk))
  ·exact Ac (AG (AH.cast (k':=true) (BJ.t (B4 (Bw (Ba (AT T.vt (Ab (Aa 0) (Ab (Ct T.vk) Af)) (DV rfl)))) (λhbb=>(CT (AJ (AT T.vh (Ab (Aa 0) Af) (Cd (by first | exact Or.inr rfl | exact Or.inl (Or.inl rfl) | exact Or.inl (Or.inr (Or.inl rfl)) | exact Or.inl (Or.inr (Or.inr ⟨_,rfl,by first | assumption | rfl⟩))))) Ag AV))))) rfl) (λ_=>Ac (Ay (Ad.ev Bo hR))) (λhk=>by cases hk))
  ·have hz:ts.length<=sizeLine:=by rw [sizeLine_eq]; omega
   have ea:(ts.map Dx).all id=false:=by rw [List.all_map]; exact ha
   refine Ac (AG (AH.cast (k':=false) (BJ.t (B4 (Bw (Ba (AT T.vt (Ab (Aa 0) (Ab (Ct T.vk) Af)) (DV rfl)))) (λhbb=>(CT (AJ (AT T.vh (Ab (Aa 0) Af) (Cd (by first | exact Or.inr rfl | exact Or.inl (Or.inl rfl) | exact Or.inl (Or.inr (Or.inl rfl)) | exact Or.inl (Or.inr (Or.inr ⟨_,rfl,by first | assumption | rfl⟩))))) Ag AV))))) (by show (false||decide _)=false; rw [List.length_map,decide_eq_false wF]; rfl)) (λhk=>by cases hk) (λ_=>Aw ?_))
   exact Ac (AG (AH.cast (k':=true) (Bw (Ba (AT T.vx (Ab (Cv (λt:Th=>.bl (Dx t)) ["hand"] [] [] (CJ (Aa 0) wB) hz (by exact λq hq s H fp=>⟨[some _],rfl,(A2 0 (show List.Nodup (["hand"]:List Str) by decide +kernel)),⟨_,rfl,(Iu (C:=⟨CK2,CK14,CK11,CK10,CK12,CK1⟩) (CM:=CK4) (CB:=CK0) T.vt (Aa 0) (hT q hq) T.xo T.xw T.bn T.dh T.xp T.xt T.bh T.df T.du T.dy T.eo T.ft T.le T.lf T.lp)⟩⟩)) Af) (IG (bs:=ts.map Dx) (Or.inl (Or.inl (by rw [List.map_map]; rfl))))))) (by rw [ea]; rfl)) (λ_=>Ac (Ay (Ad.ev Bo hR))) (λhk=>by cases hk))
  ·have hl1:=(List.getElem?_eq_some_iff.mp h0).1
   have hz:hs.length<=sizeLine:=by rw [sizeLine_eq]; omega
   refine Ac (AG (AH.cast (k':=false) (BJ.t (B4 (Bw (Ba (AT T.vt (Ab (Aa 0) (Ab (Ct T.vk) Af)) (DV rfl)))) (λhbb=>(CT (AJ (AT T.vh (Ab (Aa 0) Af) (Cd (by first | exact Or.inr rfl | exact Or.inl (Or.inl rfl) | exact Or.inl (Or.inr (Or.inl rfl)) | exact Or.inl (Or.inr (Or.inr ⟨_,rfl,by first | assumption | rfl⟩))))) Ag AV))))) (by show (false||decide _)=false; rw [List.length_map,decide_eq_false wF]; rfl)) (λhk=>by cases hk) (λ_=>Aw ?_))
   have ea:(hs.map λ_=>true).all id=true:=by rw [List.all_map]; exact List.all_eq_true.mpr λ_ _=>rfl
   refine Ac (AG (AH.cast (k':=false) (Bw (Ba (AT T.vx (Ab (Cv (λ_:Hq=>.bl true) ["hand"] [] [] (CJ (Aa 0) wB) hz (by exact λq hq s H fp=>⟨[some _],rfl,(A2 0 (show List.Nodup (["hand"]:List Str) by decide +kernel)),⟨_,rfl,(Iu (C:=⟨CK2,CK14,CK11,CK10,CK12,CK1⟩) (CM:=CK4) (CB:=CK0) T.vt (Aa 0) (t:=.h q) (hQ q hq) T.xo T.xw T.bn T.dh T.xp T.xt T.bh T.df T.du T.dy T.eo T.ft T.le T.lf T.lp)⟩⟩)) Af) (IG (bs:=hs.map λ_=>true) (Or.inl (Or.inl (by rw [List.map_map]; rfl))))))) (by rw [ea]; rfl)) (λhk=>by cases hk) (λ_=>Aw ?_))
   have hx0:=hQ x0 (List.mem_of_getElem? h0)
   have hat:Bf (hs.map λx=>D.ptr x.q) 0=some (.ptr x0.q):=Fq (j:=0) (by rw [List.getElem?_map,h0]; rfl)
   obtain ⟨n0,ok0⟩:=hx0.2
   refine Ac (Ay (Ad.ev (AT T.vx (Ab (Cv (λx:Hq=>.bl (decide (((x.m:Nat):Int)=(x0.m:Nat))&&decide (x.s=x0.s))) ["hand"] ["hands"] [0] (CJ (Aa 0) wB) hz (by exact λq hq s H fp=>⟨[some _],rfl,(A2 0 (show List.Nodup (["hand","hands"]:List Str) by decide +kernel)),⟨_,rfl,(Ck (BG (GO T.xo.cls T.xw.cls T.bn.cls T.dh.cls T.xq T.xy T.bq T.dj T.dy.cls T.ee (Aa 0) (hQ q hq).1 (hQ q hq).2.choose_spec) (GO T.xo.cls T.xw.cls T.bn.cls T.dh.cls T.xq T.xy T.bq T.dj T.dy.cls T.ee (CI (Aa 1) Ag (hat)) hx0.1 ok0) AV) (λhbb=>(Cu (BG (FX T.xo.cls T.xw.cls T.bn.cls T.dh.cls T.xr T.xz T.br T.dl T.dy.cls T.ef (Aa 0) (hQ q hq).1 (hQ q hq).2.choose_spec) (FX T.xo.cls T.xw.cls T.bn.cls T.dh.cls T.xr T.xz T.br T.dl T.dy.cls T.ef (CI (Aa 1) Ag (hat)) hx0.1 ok0) AV))))⟩⟩)) Af) (IG (bs:=hs.map λx:Hq=>decide (((x.m:Nat):Int)=(x0.m:Nat))&&decide (x.s=x0.s)) (Or.inl (Or.inl (by rw [List.map_map]; rfl))))) ?_))
   rw [List.all_map]
   exact hR
theorem VU (Fn:Av K "is_head" "is_head" Ke f fd) (hm:mg "is_head" = some (.ref f)) (hb:Binds K fd ["hands","head"] []):Am P w K mg base 1 "is_head" (NK ⟨CK2,CK14,CK11,CK10,CK12,CK1⟩ CK4 CK0):=by
 refine A4 (k:=0) Fn SK hm hb (λds O R h=>?_) (λcdv A outer s H E ds O R hr h=>?_)
 ·obtain ⟨_,_,_,_,rfl,_⟩:=h; rfl
 ·obtain ⟨m,s,pv,t,rfl,hP,hl,ht,hR⟩:=h
  obtain ⟨x0,h0⟩:∃ x,pv[0]?=some x:=⟨_,List.getElem?_eq_getElem wF⟩
  have hx0:=hP x0 (List.mem_of_getElem? h0)
  have hat:Bf (pv.map λx=>D.ptr x.1) 0=some (.ptr x0.1):=Fq (j:=0) (by rw [List.getElem?_map,h0]; rfl)
  obtain ⟨n0,ok0⟩:=hx0.2
  cases hb:Dx t with
  | false=>
   rw [OG _ hb] at hR
   exact Ac (Ay (Ad.ev (Ck (k:=false) (l:=false) (Ad.cast (Iu (C:=⟨CK2,CK14,CK11,CK10,CK12,CK1⟩) (CM:=CK4) (CB:=CK0) T.vt (Aa 1) (t:=t) ht T.xo T.xw T.bn T.dh T.xp T.xt T.bh T.df T.du T.dy T.eo T.ft T.le T.lf T.lp) (congrArg D.bl hb)) (λhbb=>by cases hbb)) hR))
  | true=>
   cases t with
   | d d=>cases hb
   | o q c fs=>cases hb
   | h x=>
    obtain ⟨n1,ok1⟩:=ht.2
    refine Ac (Ay (Ad.ev (Ck (Iu (C:=⟨CK2,CK14,CK11,CK10,CK12,CK1⟩) (CM:=CK4) (CB:=CK0) T.vt (Aa 1) (t:=.h x) ht T.xo T.xw T.bn T.dh T.xp T.xt T.bh T.df T.du T.dy T.eo T.ft T.le T.lf T.lp) (λhbb=>(Ck (BG (GO T.xo.cls T.xw.cls T.bn.cls T.dh.cls T.xq T.xy T.bq T.dj T.dy.cls T.ee (Aa 1) ht.1 ok1) (AT T.vh (Ab (Aa 0) Af) (Cd (by first | exact Or.inr rfl | exact Or.inl (Or.inl rfl) | exact Or.inl (Or.inr (Or.inl rfl)) | exact Or.inl (Or.inr (Or.inr ⟨_,rfl,by first | assumption | rfl⟩))))) AV) (λhbb=>(Cu (BG (FX T.xo.cls T.xw.cls T.bn.cls T.dh.cls T.xr T.xz T.br T.dl T.dy.cls T.ef (Aa 1) ht.1 ok1) (FX T.xo.cls T.xw.cls T.bn.cls T.dh.cls T.xr T.xz T.br T.dl T.dy.cls T.ef (CI (Aa 0) Ag (hat)) hx0.1 ok0) AV)))))) ?_))
    rw [List.length_map]
    exact hR
theorem V0 (Fn:Av K "check_tier" "check_tier" Kk f fd) (hm:mg "check_tier" = some (.ref f)) (hb:Binds K fd ["hands","head"] []) (ku:Am P w K mg base 1 "are_alike" (JL ⟨CK2,CK14,CK11,CK10,CK12,CK1⟩ CK4 CK0)) (kx:Am P w K mg base 1 "is_head" (NK ⟨CK2,CK14,CK11,CK10,CK12,CK1⟩ CK4 CK0)):D3 P w K mg base 3 "check_tier" (Jo ⟨CK2,CK14,CK11,CK10,CK12,CK1⟩ CK4 CK0 CK7):=by
 refine ⟨f,fd,_,FP (k:=2) Fn SR (λds O R RX h=>?_) (λcdv A outer s H E ds O R RX hr h=>?_),hm,Fn.kp,hb⟩
 ·rcases h with ⟨_,_,_,_,_,rfl,_⟩ | ⟨_,_,rfl,_⟩ <;> rfl
 ·rcases h with ⟨m,s,pv,hp,hd,rfl,hP,hD,hm,hs,hl,hR⟩ | ⟨d,d2,rfl,hN | ⟨m,s,pv,t,rfl,rfl,hP,hl,ht,hb⟩,hX⟩
  ·obtain ⟨x0,h0⟩:∃ x,pv[0]?=some x:=⟨_,List.getElem?_eq_getElem wF⟩
   have hd0:=hD (hp,hd) (List.mem_singleton.mpr rfl)
   have eh:Ij pv.length s (.h ⟨hp,pv.length,s,hd⟩)=true:=by show (decide _&&decide _)=true; rw [decide_eq_true rfl,decide_eq_true rfl]; rfl
   exact BA (D4 (AH.cast (k':=false) (BJ.t (B4 (Bw (Ba (Ev.evp (BU ku (hr.mono wE) (Ab (Aa 0) Af) ⟨_,rfl,.inr (.inr ⟨pv.map (Ce m s),Ce m s x0,by rw [List.map_map]; rfl,HH hP,by rw [List.getElem?_map,h0]; rfl,by rw [List.length_map]; omega,rfl,rfl⟩)⟩)))) (λhbb=>(CT (Bw (Ba (Ev.evp (BU kx (hr.mono wE) (Ab (Aa 0) (Ab (Aa 1) Af)) ⟨m,s,pv,.h ⟨hp,pv.length,s,hd⟩,rfl,hP,⟨hl.1,by omega⟩,hd0,rfl,rfl⟩)))))))) (by rw [N8,eh]; rfl)) (λhk=>by cases hk) (λ_=>Dr (Dr hR)))
  ·refine BA (D4 (BJ.t (B4 (k:=true) (l:=false) (AH.cast (Bw (Ba (Ev.evp (BU ku (hr.mono wE) (Ab (Aa 0) Af) (Ep.sp (R:=λd O'=>d=.bl false/\O'=O) hN ⟨rfl,rfl⟩))))) rfl) (λhbb=>by cases hbb))) (λ_=>?_) (λhk=>by cases hk))
   exact BA (MS T.ml T.mj (Ab A7 Af) hX trivial)
  ·obtain ⟨x0,h0⟩:∃ x,pv[0]?=some x:=⟨_,List.getElem?_eq_getElem wF⟩
   refine BA (D4 (AH.cast (k':=true) (BJ.t (B4 (Bw (Ba (Ev.evp (BU ku (hr.mono wE) (Ab (Aa 0) Af) ⟨_,rfl,.inr (.inr ⟨pv.map (Ce m s),Ce m s x0,by rw [List.map_map]; rfl,HH hP,by rw [List.getElem?_map,h0]; rfl,by rw [List.length_map]; omega,rfl,rfl⟩)⟩)))) (λhbb=>(CT (Bw (Ba (Ev.evp (BU kx (hr.mono wE) (Ab (Aa 0) (Ab (Aa 1) Af)) ⟨m,s,pv,t,rfl,hP,hl,ht,rfl,rfl⟩)))))))) (by rw [N8,hb]; rfl)) (λ_=>?_) (λhk=>by cases hk))
   exact BA (MS T.ml T.mj (Ab A7 Af) hX trivial)
theorem Wm (Fn:Av K "__init__" "Tier.__init__" KH f fd) (ky:D3 P w K mg base 3 "check_tier" (Jo ⟨CK2,CK14,CK11,CK10,CK12,CK1⟩ CK4 CK0 CK7)) (jf:EL P w K mg base "Hand" 5 "__init__" (D6 (λC=>C=CK2\/C=CK14\/C=CK11\/C=CK10\/C=CK12\/C=CK1))) (kz:AI P w K mg base CK2 7 "anew" (JJ CK2)) (gc:AI P w K mg base CK14 9 "anew" (EX CK14 CK11 false)) (gf:AI P w K mg base CK11 9 "anew" (EX CK14 CK11 true)) (gh:AI P w K mg base CK10 8 "anew" (JI CK10)) (gj:AI P w K mg base CK1 8 "anew" (JK CK1)):AC P w K mg base (Cp P w) 10 f fd ["self","hands","head"] (C5 K (Gm ⟨CK2,CK14,CK11,CK10,CK12,CK1⟩ CK4 CK0 CK7)):=by
 refine FP (k:=9) Fn S8 (λds O R RX h=>?_) (λcdv A outer s H E ds O R RX hr h=>?_)
 ·rcases h with ⟨_,_,_,_,_,_,_,rfl,_⟩ | ⟨_,_,_,rfl,_⟩ <;> rfl
 ·rcases h with ⟨q,m,s,pv,hp,hd,O0,rfl,rfl,rfl,hP,hD,hm,hs,hl,hR⟩ | ⟨q,d,d2,rfl,hN,hX⟩
  ·have hz:pv.length<=sizeLine:=by rw [sizeLine_eq]; omega
   have hmI:(1:Int)<=(m:Nat)/\((m:Nat):Int)<=24:=⟨by omega,by omega⟩
   refine BA (Dd (FY ky (hr.mono wE) (Ab (Aa 1) (Ab (Aa 2) Af)) (.inl ⟨m,s,pv,hp,hd,rfl,hP.app,hD.app,hm,hs,hl,?_⟩)))
   refine Exs.x_ ?_
   obtain ⟨x0,h0⟩:∃ x,pv[0]?=some x:=⟨_,List.getElem?_eq_getElem wF⟩
   have hx0:=hP.app (Y:=[some (MO.ins CK12 [])]) x0 (List.mem_of_getElem? h0)
   have hat:Bf (pv.map λx=>D.ptr x.1) 0=some (.ptr x0.1):=Fq (j:=0) (by rw [List.getElem?_map,h0]; rfl)
   obtain ⟨n0,ok0⟩:=hx0.2
   refine Ac (A5 (GM jf (hr.mono wE) (Ab (Aa 0) (Ab (GO T.xo.cls T.xw.cls T.bn.cls T.dh.cls T.xq T.xy T.bq T.dj T.dy.cls T.ee (CI (Aa 1) Ag (hat)) hx0.1 ok0) (Ab (FX T.xo.cls T.xw.cls T.bn.cls T.dh.cls T.xr T.xz T.br T.dl T.dy.cls T.ef (CI (Aa 1) Ag (hat)) hx0.1 ok0) Af))) ⟨O0.length,(m:Nat),s,CK12,rfl,.inr (.inr (.inr (.inr (.inl rfl)))),AU,hmI,hs,?_⟩))
   rw [BD]
   have sub:∀ Z,BB ⟨CK2,CK14,CK11,CK10,CK12,CK1⟩ (O0++[some (MO.ins CK12 (Bl (m:Nat) s))]++Z) m s pv:=λZ=>hP.app.app
   have gd:∀ Z,BB ⟨CK2,CK14,CK11,CK10,CK12,CK1⟩ (O0++[some (MO.ins CK12 (Bl (m:Nat) s))]++Z) pv.length s [(hp,hd)]:=λZ=>hD.app.app
   refine Ac (Jb (q:=O0.length) (C:=CK12) (fs:=Bl (m:Nat) s) (YN T.vk (Cc (YJ (λi=>.ptr (O0.length+1+i)) (λi=>O0++[some (MO.ins CK12 (Bl (m:Nat) s))]++(pv.take i).map λx=>some (Cs.o ⟨CK2,CK14,CK11,CK10,CK12,CK1⟩ (m:Nat) s (C0 m x.2))) (by rw [List.take_zero,List.map_nil,List.append_nil]) ["hand"] [] [] (CJ (Aa 1) wB) hz ?turn (Bd.as Af ⟨_,Db (Or.inl (Or.inl rfl)),(Aa 0),Lz,?_⟩)))) T.eu.cls T.fj (by show 2<1000; decide))
   case turn=>
    intro i x hx s2 H2 fp
    have hi:=(List.getElem?_eq_some_iff.mp hx).1
    obtain ⟨n1,ok1⟩:=(hP x (List.mem_of_getElem? hx)).2
    refine ⟨[some (.ptr x.1)],rfl,A2 0 (show List.Nodup (["hand"]:List Str) by decide +kernel),PP kz gc gf gh (hr.mono wE) (hr.mono wE) (hr.mono wE) gj (hr.mono wE) (Aa 0) (sub _ x (List.mem_of_getElem? hx)).1 ok1 hm hs ⟨?_,?_⟩⟩
    ·show D.ptr _=D.ptr _
     congr 1
     rw [List.length_append,List.length_append,List.length_map,List.length_take]
     show O0.length+1+_=_
     omega
    ·show _=O0++_++List.map _ (pv.take (i+1))
     rw [List.take_succ,hx,List.map_append,<- List.append_assoc]
     rfl
   rw [Ly,Uo,List.take_of_length_le (Nat.le_refl _)]
   generalize hZ:(pv.map λx=>some (Cs.o ⟨CK2,CK14,CK11,CK10,CK12,CK1⟩ (m:Nat) s (C0 m x.2)))=Z
   have hZl:Z.length=pv.length:=by rw [<- hZ,List.length_map]
   have hd0:=hD (hp,hd) (List.mem_singleton.mpr rfl)
   obtain ⟨n2,ok2⟩:=hd0.2
   have hq2:∀ (y:Option MO) (Y:Ae),(O0++[y]++Y)[hp]?=some (some (Cs.o ⟨CK2,CK14,CK11,CK10,CK12,CK1⟩ (pv.length:Nat) s hd)):=λy Y=>BV (BV hd0.1)
   refine Ac (Jb (q:=O0.length) (C:=CK12) (fs:=Gg (m:Nat) s (.tup ((List.range pv.length).map λi=>.ptr (O0.length+1+i)))) (PP kz gc gf gh (hr.mono wE) (hr.mono wE) (hr.mono wE) gj (hr.mono wE) (Aa 2) (hq2 _ _) ok2 hl hs ⟨(Aa 0),?_,?_⟩) T.eu.cls T.fk (by show 3<1000; decide))
   ·exact BV Lz
   rw [List.append_assoc (O0++_) Z,Ly,Um,show (O0++[some (MO.ins CK12 (Gg (m:Nat) s (.tup ((List.range pv.length).map λi=>.ptr (O0.length+1+i)))))]++Z).length=O0.length+1+pv.length by rw [List.length_append,List.length_append,hZl]; rfl]
   refine Ac (A8 (An (A9 (Ab Ag Af)) (AT T.vh (Ab (Aa 1) Af) (Cd (by first | exact Or.inr rfl | exact Or.inl (Or.inl rfl) | exact Or.inl (Or.inr (Or.inl rfl)) | exact Or.inl (Or.inr (Or.inr ⟨_,rfl,by first | assumption | rfl⟩))))) (Ed (by rw [List.length_map]; omega) (by rw [List.length_map]; omega) (by simp) (by rw [sizeLine_eq,List.length_map,Int.toNat_natCast]; show 1*_<=_; omega))) (Aa 0) Lz T.eu.cls T.fm (by show 4<1000; decide) ?_)
   rw [Ly,List.length_map,Int.toNat_natCast,Hd,Us]
   refine Aw ?_
   have e:Ff ⟨CK2,CK14,CK11,CK10,CK12,CK1⟩ m s O0.length (pv.map (·.2)) hd=[some (MO.ins CK12 (BZ (m:Nat) s O0.length pv.length (List.replicate pv.length 0)))]++(Z++[some (Cs.o ⟨CK2,CK14,CK11,CK10,CK12,CK1⟩ (pv.length:Nat) s (C0 pv.length hd))]):=by
    unfold Ff
    rw [List.length_map,List.map_map,<- hZ]
    rfl
   rw [e,<- List.append_assoc] at hR
   exact hR
  ·exact BA (Dd (FY ky (hr.mono wE) (Ab (Aa 1) (Ab (Aa 2) Af)) (.inr ⟨d,d2,rfl,hN,hX⟩)))
theorem Wk (Fn:Av K "hand_charges" "Tier.hand_charges" KD f fd)  : AC P w K mg base AO 1 f fd ["self"] (AR K (NP ⟨CK2,CK14,CK11,CK10,CK12,CK1⟩)):=by
 refine Bu (k:=0) Fn S6 (λds O R h=>?_) (λcdv A outer s H E ds O R hr h=>?_)
 ·obtain ⟨_,_,_,_,_,_,rfl,_⟩:=h; rfl
 ·obtain ⟨q,m,s,hs,hd,ch,rfl,hT,hR⟩:=h
  exact Ac (Ay (Ad.ev (As (Aa 0) hT.o T.eu.cls T.fm (Nd _ _ _ _ _)) hR))
theorem Wl (Fn:Av K "ask" "Tier.ask" KG f fd)  (kh:AI P w K mg base CK2 6 "say" (CC CK2 CK14 CK11 CK10)) (jk:AI P w K mg base CK14 6 "say" (CC CK2 CK14 CK11 CK10)) (jl:AI P w K mg base CK11 6 "say" (CC CK2 CK14 CK11 CK10)) (ki:AI P w K mg base CK10 6 "say" (CC CK2 CK14 CK11 CK10)) (kj:AI P w K mg base CK1 5 "say" (Hn CK1)):AC P w K mg base AO 7 f fd ["self","said"] (AR K (JH ⟨CK2,CK14,CK11,CK10,CK12,CK1⟩)):=by
 refine Bu (k:=6) Fn S7 (λds O R h=>?_) (λcdv A outer s H E ds O R hr h=>?_)
 ·obtain ⟨_,_,_,_,_,_,_,_,rfl,_⟩:=h; rfl
 ·obtain ⟨q0,n,m,s,hs,hd,ch,said,rfl,hT,hk,hm,hsd,hR⟩:=h
  have hz:(List.range hs.length).length<=sizeLine:=by rw [sizeLine_eq,List.length_range]; have:=hk.l2; omega
  have hv:∀ i∈List.range hs.length,O[q0+1+i]?=some (some (Cs.o ⟨CK2,CK14,CK11,CK10,CK12,CK1⟩ (m:Nat) s (hs.getD i .h)))/\BW n m s (hs.getD i .h):=λi hi=>by
   have hi:=List.mem_range.mp hi
   have e:hs[i]?=some (hs.getD i .h):=by rw [List.getD_eq_getElem?_getD,List.getElem?_eq_getElem hi]; rfl
   exact ⟨hT.h i _ e,hk.h _ (List.mem_of_getElem? e)⟩
  refine Ac (Ay (Ad.ev (Cj T.vk (Ab (Cv (λi:Nat=>.int (D8 m said (hs.getD i .h))) ["hand"] ["said"] [1] (CJ (As (Aa 0) hT.o T.eu.cls T.fj (Nc _ _ _ _ _)) wB) hz (by exact λq hq s H fp=>⟨[some _],rfl,(A2 0 (show List.Nodup (["hand","said"]:List Str) by decide +kernel)),⟨_,rfl,(PB kh jk jl ki (hr.mono wE) kj (hr.mono wE) (Aa 0) (hv q hq).1 (hv q hq).2 hm hsd (Ab (Aa 1) Af))⟩⟩)) Af) (Db (by first | exact Or.inr rfl | exact Or.inl (Or.inl rfl) | exact Or.inl (Or.inr (Or.inl rfl)) | exact Or.inl (Or.inr (Or.inr ⟨_,rfl,by first | assumption | rfl⟩))))) ?_))
  have e:((List.range hs.length).map λi:Nat=>D.int (D8 m said (hs.getD i .h)))=(BN m said hs).map D.int:=by
   unfold BN
   rw [List.map_map]
   refine List.ext_getElem? λi=>?_
   rw [List.getElem?_map,List.getElem?_map]
   by_cases hi:i<hs.length
   ·rw [List.getElem?_range hi,List.getElem?_eq_getElem hi]
    show some (D.int (D8 m said (hs.getD i .h)))=some (D.int (D8 m said hs[i]))
    rw [List.getD_eq_getElem?_getD,List.getElem?_eq_getElem hi]
    rfl
   ·rw [List.getElem?_eq_none (by rw [List.length_range]; omega),List.getElem?_eq_none wF]
    rfl
  rw [e]
  exact hR
theorem Wi (Fn:Av K "say" "Tier.say" KB f fd) (gk:D3 P w K mg base 4 "check_said" (JD CK8)) (kl:AI P w K mg base CK12 7 "ask" (JH ⟨CK2,CK14,CK11,CK10,CK12,CK1⟩)) (kh:AI P w K mg base CK2 6 "say" (CC CK2 CK14 CK11 CK10)) (jk:AI P w K mg base CK14 6 "say" (CC CK2 CK14 CK11 CK10)) (jl:AI P w K mg base CK11 6 "say" (CC CK2 CK14 CK11 CK10)) (ki:AI P w K mg base CK10 6 "say" (CC CK2 CK14 CK11 CK10)) (kj:AI P w K mg base CK1 5 "say" (Hn CK1)):AC P w K mg base (Cp P w) 9 f fd ["self","said"] (C5 K (Gi ⟨CK2,CK14,CK11,CK10,CK12,CK1⟩ CK8)):=by
 refine FP (k:=8) Fn S5 (λds O R RX h=>?_) (λcdv A outer s H E ds O R RX hr h=>?_)
 ·rcases h with ⟨_,_,_,_,_,_,_,_,rfl,_⟩ | ⟨_,_,_,_,_,_,_,rfl,_⟩ <;> rfl
 ·rcases h with ⟨q,n,m,s,hs,hd,ch,said,rfl,hT,hk,hm,h0,hsd,hR⟩ | ⟨q,m,s,hs,hd,ch,x,rfl,hT,hS,hb,hX⟩
  ·refine BA (Dd (FY gk (hr.mono wE) (Ab (As (Aa 0) hT.o T.eu.cls T.fh (FA _ _ _ _ _)) (Ab (As (Aa 0) hT.o T.eu.cls T.fi (Gf _ _ _ _ _)) (Ab (Aa 1) Af))) ⟨(m:Nat),s,.t (said.map BQ),by rw [FB],Hw hsd,λ_=>?_,λz=>absurd ((HC hsd).symm.trans z) wE⟩))
   refine Exs.x_ ?_
   have hak:=Mn hk.h hk.l2 hsd h0
   refine Ac (Ay (Ad.ev (PB kh jk jl ki (hr.mono wE) kj (hr.mono wE) (As (Aa 0) hT.o T.eu.cls T.fk (Nb _ _ _ _ _)) hT.d hk.d ⟨hk.l1,hk.l2⟩ hak (Ab (Ad.cast (Ev.evp (CG kl (hr.mono wE) (Aa 0) hT.o (DJ _ _ _ _ _ wD) (Ab (Aa 1) Af) ⟨q,n,m,s,hs,hd,ch,said,rfl,hT,hk,hm,hsd,rfl,rfl⟩)) (congrArg D.tup (Qy _).symm)) Af)) hR))
  ·exact BA (Dd (FY gk (hr.mono wE) (Ab (As (Aa 0) hT.o T.eu.cls T.fh (FA _ _ _ _ _)) (Ab (As (Aa 0) hT.o T.eu.cls T.fi (Gf _ _ _ _ _)) (Ab (Aa 1) Af))) ⟨(m:Nat),s,x,rfl,hS,λz=>absurd (hb.symm.trans z) wE,λ_=>hX⟩))
theorem Wj (Fn:Av K "hear" "Tier.hear" KC f fd) (gl:D3 P w K mg base 5 "check_turn" (JC CK8)) (jb:Am P w K mg base 1 "charge" (AA FF)) (kl:AI P w K mg base CK12 7 "ask" (JH ⟨CK2,CK14,CK11,CK10,CK12,CK1⟩)) (gm:AI P w K mg base CK2 6 "hear" (Jz CK2)) (gp:AI P w K mg base CK14 8 "hear" (EV CK14 CK11 false)) (gq:AI P w K mg base CK11 8 "hear" (EV CK14 CK11 true)) (gr:AI P w K mg base CK10 6 "hear" (Jy CK10)) (gu:AI P w K mg base CK1 6 "hear" (JA CK1)):AC P w K mg base (Cp P w) 10 f fd ["self","said","so"] (C5 K (Ht ⟨CK2,CK14,CK11,CK10,CK12,CK1⟩ CK8)):=by
 refine FP (k:=9) Fn JO (λds O R RX h=>?_) (λcdv A outer s H E ds O R RX hr h=>?_)
 ·rcases h with ⟨_,_,_,_,_,_,_,_,_,rfl,_⟩ | ⟨_,_,_,_,_,_,_,_,rfl,_⟩ <;> rfl
 ·rcases h with ⟨q0,n,m,s,so,hs,hd,ch,said,rfl,hT,hk,hn,hm,hsd,hso,hR⟩ | ⟨q,m,s,hs,hd,ch,x,y,rfl,hT,hS,hb,hX⟩
  ·have h0:0<=s:=by omega
   have hak:=Mn hk.h hk.l2 hsd h0
   refine BA (Dd (FY gl (hr.mono wE) (Ab (As (Aa 0) hT.o T.eu.cls T.fh (FA _ _ _ _ _)) (Ab (As (Aa 0) hT.o T.eu.cls T.fi (Gf _ _ _ _ _)) (Ab (Aa 1) (Ab (Aa 2) Af)))) ⟨(m:Nat),s,.t (said.map BQ),.i so,by rw [FB]; rfl,Hw hsd,λ_=>?_,λz=>absurd ((show (Bi (m:Nat) s (.t (said.map BQ))&&Bt s (.i so))=true by rw [HC hsd,Ll hso]; rfl).symm.trans z) wE⟩))
   refine Exs.x_ ?_
   refine Ac (AL 3 (Ad.ev (Ev.evp (CG kl (hr.mono wE) (Aa 0) hT.o (DJ _ _ _ _ _ wD) (Ab (Aa 1) Af) ⟨q0,n,m,s,hs,hd,ch,said,rfl,hT,hk,hm,hsd,rfl,rfl⟩)) ?_) JO.nd)
   refine Ac (A5 (PK gm gp gq gr (hr.mono wE) (hr.mono wE) (hr.mono wE) gu (hr.mono wE) (As (Aa 0) hT.o T.eu.cls T.fk (Nb _ _ _ _ _)) hT.d hk.d hn ⟨hk.l1,hk.l2⟩ hak hso (Ab (Ad.cast (Aa 3) (congrArg D.tup (Qy _).symm)) (Ab (Aa 2) Af)) ?_))
   have b1:Ew q0 hs.length O (O.set (q0+1+hs.length) (some (Cs.o ⟨CK2,CK14,CK11,CK10,CK12,CK1⟩ (hs.length:Nat) s (Cr (Cw (BN m said hs)) so hd)))):=(Ew.refl _ _ _).set wF (Nat.le_refl _)
   have i1:(O.set (q0+1+hs.length) (some (Cs.o ⟨CK2,CK14,CK11,CK10,CK12,CK1⟩ (hs.length:Nat) s (Cr (Cw (BN m said hs)) so hd))))[q0]?=some (some (.ins CK12 (BZ (m:Nat) s q0 hs.length ch))):=by rw [List.getElem?_set_ne wF]; exact hT.o
   have i2:(O.set (q0+1+hs.length) (some (Cs.o ⟨CK2,CK14,CK11,CK10,CK12,CK1⟩ (hs.length:Nat) s (Cr (Cw (BN m said hs)) so hd))))[q0+1+hs.length]?=some (some (Cs.o ⟨CK2,CK14,CK11,CK10,CK12,CK1⟩ (hs.length:Nat) s (Cr (Cw (BN m said hs)) so hd))):=Bh hT.d
   have i3:∀ j v,hs[j]?=some v->(O.set (q0+1+hs.length) (some (Cs.o ⟨CK2,CK14,CK11,CK10,CK12,CK1⟩ (hs.length:Nat) s (Cr (Cw (BN m said hs)) so hd))))[q0+1+j]?=some (some (Cs.o ⟨CK2,CK14,CK11,CK10,CK12,CK1⟩ (m:Nat) s v)):=λj v hv=>by
    have:=(List.getElem?_eq_some_iff.mp hv).1
    rw [List.getElem?_set_ne wF]; exact hT.h j v hv
   have hd':Dy CK2 CK14 CK11 CK10 CK1 (hs.length:Nat) s (Cr (Cw (BN m said hs)) so hd)=Cs.o ⟨CK2,CK14,CK11,CK10,CK12,CK1⟩ (hs.length:Nat) s (Cr (Cw (BN m said hs)) so hd):=rfl
   rw [hd']
   generalize O.set (q0+1+hs.length) (some (Cs.o ⟨CK2,CK14,CK11,CK10,CK12,CK1⟩ (hs.length:Nat) s (Cr (Cw (BN m said hs)) so hd)))=O1 at b1 i1 i2 i3
   have hasl:(BN m said hs).length=hs.length:=List.length_map ..
   refine Ac (Fz (hp:=PassesOwn.leaving) (CJ (As (Aa 0) i1 T.eu.cls T.fj (Nc _ _ _ _ _)) wB) (λi ρ O'=>(∃ v:Option D,ρ=[some (.ptr q0),some (.tup (said.map od)),some (.int so),some (.tup ((BN m said hs).map D.int)),v])/\Ew q0 hs.length O O'/\O'[q0]?=some (some (.ins CK12 (BZ (m:Nat) s q0 hs.length ch)))/\O'[q0+1+hs.length]?=some (some (Cs.o ⟨CK2,CK14,CK11,CK10,CK12,CK1⟩ (hs.length:Nat) s (Cr (Cw (BN m said hs)) so hd)))/\∀ j v,hs[j]?=some v->O'[q0+1+j]?=some (some (Cs.o ⟨CK2,CK14,CK11,CK10,CK12,CK1⟩ (m:Nat) s (if j<i then Cr said so v else v)))) ⟨⟨_,rfl⟩,b1,i1,i2,λj v hv=>by rw [if_neg (Nat.not_lt_zero _)]; exact i3 j v hv⟩ ?_ ?_)
   ·clear i1 i2 i3 b1
    rintro i z ρ O' hz ⟨⟨v4,rfl⟩,bk,j1,j2,j3⟩
    rw [List.getElem?_map] at hz
    obtain ⟨i',hi',rfl⟩:=Option.map_eq_some_iff.mp hz
    have hil:i<hs.length:=by have:=(List.getElem?_eq_some_iff.mp hi').1; rw [List.length_range] at this; exact this
    rw [List.getElem?_range hil] at hi'
    cases hi'
    obtain ⟨v,hv⟩:∃ v,hs[i]?=some v:=⟨_,List.getElem?_eq_getElem hil⟩
    have jv:=j3 i v hv
    rw [if_neg (Nat.lt_irrefl _)] at jv
    refine ⟨_,A2 4 JO.nd,?_⟩
    refine Ac (A5 (PK gm gp gq gr (hr.mono wE) (hr.mono wE) (hr.mono wE) gu (hr.mono wE) (Aa 4) jv (hk.h v (List.mem_of_getElem? hv)) hn hm hsd hso (Ab (Aa 1) (Ab (Aa 2) Af)) ?_))
    refine Aw ⟨⟨_,rfl⟩,bk.set wF wF,by rw [List.getElem?_set_ne wF]; exact j1,by rw [List.getElem?_set_ne wF]; exact j2,λj w hw=>?_⟩
    by_cases hj:j=i
    ·subst hj
     rw [hv] at hw
     cases hw
     rw [if_pos (Nat.lt_succ_self _)]
     exact Bh jv
    ·rw [List.getElem?_set_ne wF,j3 j w hw]
     by_cases hji:j<i
     ·rw [if_pos hji,if_pos wF]
     ·rw [if_neg hji,if_neg wF]
   ·clear i1 i2 i3 b1
    rintro ρ O' ⟨⟨v4,rfl⟩,bk,j1,j2,j3⟩
    rw [List.length_map,List.length_range] at j3
    have hzl:(ch.zip (BN m said hs)).length<=63:=by rw [List.length_zip,hasl]; have:=hk.l2; omega
    refine Ac (A8 (Cj T.vk (Ab (Cv (λx:Int×Int=>.int (x.1+ab (x.2-so))) ["charged","saying"] ["so"] [2] (GR (GJ (As (Aa 0) j1 T.eu.cls T.fm (Nd _ _ _ _ _)) (Aa 3) wB wB T.vo)) (by rw [sizeLine_eq]; omega) (by exact λq hq s H fp=>⟨[some _,some _],rfl,(EB (B7 (A2 0 (show List.Nodup (["charged","saying","so"]:List Str) by decide +kernel)) (B7 (A2 1 (show List.Nodup (["charged","saying","so"]:List Str) by decide +kernel)) EA))),⟨_,rfl,(An (Aa 0) (AF jb (hr.mono wE) (Ab (Aa 1) (Ab (Aa 2) Af)) ⟨some q.2,so,rfl,rfl⟩) Bq)⟩⟩)) Af) (Db (by first | exact Or.inr rfl | exact Or.inl (Or.inl rfl) | exact Or.inl (Or.inr (Or.inl rfl)) | exact Or.inl (Or.inr (Or.inr ⟨_,rfl,by first | assumption | rfl⟩))))) (Aa 0) j1 T.eu.cls T.fm (by show 5<1000; decide) ?_)
    have e1:((ch.zip (BN m said hs)).map λx:Int×Int=>D.int (x.1+ab (x.2-so)))=(GA m said so hs ch).map D.int:=by
     unfold GA
     rw [List.map_map]
     rfl
    rw [e1,Rx]
    refine Aw (hR _ (bk.set (Nat.le_refl _) wF) ⟨?_,λi v hv=>?_,?_⟩)
    ·rw [List.length_map]; exact Bh j1
    ·rw [List.getElem?_map] at hv
     obtain ⟨w,hw,rfl⟩:=Option.map_eq_some_iff.mp hv
     rw [List.getElem?_set_ne wF,j3 i w hw,if_pos (List.getElem?_eq_some_iff.mp hw).1]
    ·rw [List.length_map,List.getElem?_set_ne wF]; exact j2
  ·exact BA (Dd (FY gl (hr.mono wE) (Ab (As (Aa 0) hT.o T.eu.cls T.fh (FA _ _ _ _ _)) (Ab (As (Aa 0) hT.o T.eu.cls T.fi (Gf _ _ _ _ _)) (Ab (Aa 1) (Ab (Aa 2) Af)))) ⟨(m:Nat),s,x,y,rfl,hS,λz=>absurd (hb.symm.trans z) wE,λ_=>hX⟩))
theorem VN (Fn:Av K "_law_cell_at" "_law_cell_at" J7 f fd) (hm:mg "_law_cell_at" = some (.ref f)) (hb:Binds K fd ["_law_script","_law_k"] []):Am P w K mg base 1 "_law_cell_at" (AA JF):=by
 refine A4 (k:=0) Fn SE hm hb (λds O R h=>?_) (λcdv A outer s H E ds O R hr h=>?_)
 ·obtain ⟨_,⟨_,_,rfl,_⟩,_⟩:=h; rfl
 ·obtain ⟨d,⟨ns,k,rfl,hk0,rfl⟩,hR⟩:=h
  refine Ac (AG (AJ (Aa 1) (AT T.vh (Ab (Aa 0) Af) (Cd (by first | exact Or.inr rfl | exact Or.inl (Or.inl rfl) | exact Or.inl (Or.inr (Or.inl rfl)) | exact Or.inl (Or.inr (Or.inr ⟨_,rfl,by first | assumption | rfl⟩))))) Dm) (λhk=>?_) (λhk=>?_))
  ·have hk:=of_decide_eq_true hk
   rw [List.length_map] at hk
   have hi:k.toNat<ns.length:=by omega
   have hz:Bf (ns.map D.int) k=some (.int ns[k.toNat]):=Z0 hk0 (List.getElem?_eq_getElem hi)
   refine Ac (Ay (Ad.ev (Dz (Aa 0) (by first | exact Or.inl rfl | exact Or.inr (Or.inl rfl) | exact Or.inr (Or.inr ⟨_,rfl,by first | assumption | rfl⟩)) (Aa 1) hz) ?_))
   unfold EH at hR
   rw [List.getElem?_eq_getElem hi] at hR
   exact hR
  ·have hk:=of_decide_eq_false hk
   rw [List.length_map] at hk
   refine Aw ?_
   refine Ac (Ay (Ad.ev Ag ?_))
   unfold EH at hR
   rw [List.getElem?_eq_none wF] at hR
   exact hR
theorem VH (Fn:Av K "_law_next" "_law_next" J2 f fd) (hm:mg "_law_next" = some (.ref f)) (hb:Binds K fd ["_law_x"] []):Am P w K mg base 1 "_law_next" (AA Hr):=by
 refine A4 (k:=0) Fn SD hm hb (λds O R h=>?_) (λcdv A outer s H E ds O R hr h=>?_)
 ·obtain ⟨_,⟨_,rfl,_⟩,_⟩:=h; rfl
 ·obtain ⟨d,⟨x,rfl,hx,rfl⟩,hR⟩:=h
  have m1:IntMulOk x x:=Ef (m:=40) (n:=40) hx.1 wF hx.1 wF
  have m2:IntMulOk 48271 x:=Ef (m:=20) (n:=40) wE wE hx.1 wF
  exact Ac (Ay (Ad.ev (An (An (An (An (Aa 0) (Aa 0) (B8 m1)) (An Ag (Aa 0) (B8 m2)) Bq) Ag Bq) Ag (BE wC)) hR))
theorem VF (Fn:Av K "_law_seed" "_law_seed" J0 f fd) (hm:mg "_law_seed" = some (.ref f)) (hb:Binds K fd ["_law_script","_law_k"] []) (kv:Am P w K mg base 1 "_law_cell_at" (AA JF)) (jg:Am P w K mg base 1 "_law_next" (AA Hr)):Am P w K mg base 2 "_law_seed" (AA Ny):=by
 refine A4 (k:=1) Fn N2 hm hb (λds O R h=>?_) (λcdv A outer s H E ds O R hr h=>?_)
 ·obtain ⟨_,⟨_,_,rfl,_⟩,_⟩:=h; rfl
 ·obtain ⟨d,⟨ns,k,rfl,hk,rfl⟩,hR⟩:=h
  have m1:IntMulOk 69621 k:=Ef (m:=20) (n:=40) wE wE hk.1 wF
  have m2:IntMulOk (69621*k) k:=Ef (m:=40) (n:=40) wF wF hk.1 wF
  refine Ac (AL 2 (Ad.ev (An (An (An (An (AF kv (hr.mono wE) (Ab (Aa 0) (Ab (Aa 1) Af)) ⟨_,_,rfl,hk.1,rfl⟩) Ag (BE wC)) (An (An Ag (Aa 1) (B8 m1)) (Aa 1) (B8 m2)) Bq) Ag Bq) Ag (BE wC)) ?_) N2.nd)
  unfold Gp at hR
  generalize EH ns k=c at hR
  have h1:0<=(c%2147483647+69621*k*k+5)%2147483647/\(c%2147483647+69621*k*k+5)%2147483647<3000000000:=by omega
  have h2:0<=DP ((c%2147483647+69621*k*k+5)%2147483647)/\DP ((c%2147483647+69621*k*k+5)%2147483647)<3000000000:=by
   have:=Lp ((c%2147483647+69621*k*k+5)%2147483647)
   unfold Lo at this
   omega
  exact Ac (Ay (Ad.ev (AF jg (hr.mono wE) (Ab (AF jg (hr.mono wE) (Ab (Aa 2) Af) ⟨_,rfl,h1,rfl⟩) Af) ⟨_,rfl,h2,rfl⟩) hR))
theorem VM (Fn:Av K "_law_hand" "_law_hand" J6 f fd) (hm:mg "_law_hand" = some (.ref f)) (hb:Binds K fd ["_law_many","_law_scale","_law_x"] []) (je:Cn P w K mg base CK2 5 "Hand" (D6 (λC=>C=CK2\/C=CK14\/C=CK11\/C=CK10\/C=CK12\/C=CK1))) (kc:Cn P w K mg base CK14 6 "Weigher" (Gk CK14 CK11)) (kf:Cn P w K mg base CK11 7 "Shifter" (Jv CK11)) (ka:Cn P w K mg base CK10 6 "Rounder" (Jw CK10)) (kg:Cn P w K mg base CK1 6 "Follower" (Gn CK1)):Am P w K mg base 13 "_law_hand" (JB ⟨CK2,CK14,CK11,CK10,CK12,CK1⟩):=by
 refine A4 (k:=12) Fn HB hm hb (λds O R h=>?_) (λcdv A outer s H E ds O R hr h=>?_)
 ·obtain ⟨_,_,_,rfl,_⟩:=h; rfl
 ·obtain ⟨m,s,x,rfl,hm,hs,hR⟩:=h
  have hmI:(1:Int)<=(m:Nat)/\((m:Nat):Int)<=24:=⟨by omega,by omega⟩
  refine Ac (AL 3 (Ad.ev (An Ag (An (An (Aa 2) Ag (CP ⟨wC,wC⟩)) Ag (BE wC)) Bq) ?_) HB.nd)
  have hb:2<=2+x/8%9/\2+x/8%9<=10:=by omega
  generalize 2+x/8%9=b at hb
  refine Ac (AL 4 (Ad.ev (An (An (Aa 2) Ag (CP ⟨wC,wC⟩)) (Aa 3) (BE wF)) ?_) HB.nd)
  have ht0:=Int.emod_nonneg (x/80) (show b≠0 by omega)
  have ht1:=Int.emod_lt_of_pos (x/80) (show 0<b by omega)
  generalize x/80%b=t at ht0 ht1
  refine Ac (AL 5 (Ad.ev (An (Aa 2) Ag (BE wC)) ?_) HB.nd)
  have hf:Fv s t b:=⟨hs.1,hs.2,ht0,ht1,by omega⟩
  have hV:∀ (sf:Bool) (sh:Int),1<=sh/\sh<=5->Dn sf ⟨(m:Nat),s,t,b,sh,7⟩:=λsf sh h=>⟨hf,hmI.1,hmI.2,λ_=>⟨h.1,by show sh<7; omega,by show (7:Int)<=100; decide⟩⟩
  by_cases h0:x%5=0
  ·refine Ac (AG (AH.cast (k':=true) (AJ (Aa 5) Ag AV) (decide_eq_true h0)) (λ_=>?_) (λhk=>by cases hk))
   refine Ac (Ay (B2 kc (hr.mono wE) (Ab (Aa 0) (Ab (Aa 1) (Ab (Aa 4) (Ab (Aa 3) Af)))) ⟨O.length,false,⟨(m:Nat),s,t,b,1,7⟩,rfl,AU,hV false 1 wE,rfl,?_⟩))
   rw [BD]
   exact hR (.v false ⟨(m:Nat),s,t,b,1,7⟩ (List.replicate m 1) 1) ⟨hV false 1 wE,rfl,rfl,Jf m,List.length_replicate⟩
  refine Ac (AG (AH.cast (k':=false) (AJ (Aa 5) Ag AV) (decide_eq_false h0)) (λhk=>by cases hk) (λ_=>Aw ?_))
  by_cases h1:x%5=1
  ·refine Ac (AG (AH.cast (k':=true) (AJ (Aa 5) Ag AV) (decide_eq_true h1)) (λ_=>?_) (λhk=>by cases hk))
   have hps:Ft (m:Nat) ((List.range m).map λk:Nat=>x/(0+(k:Int)+3)%4):=⟨by rw [List.length_map,List.length_range],λp hp=>by
    obtain ⟨k,_,rfl⟩:=List.mem_map.mp hp
    have:(4:Int)<=10 ^ (60:Int).toNat-1:=by decide +kernel
    omega⟩
   refine Ac (Ay (B2 kg (hr.mono wE) (Ab (Aa 0) (Ab (Aa 1) (Ab (Ad.cast (Cj T.vk (Ab (Cv (λk:Nat=>.int (x/(0+(k:Int)+3)%4)) ["_law_k"] ["_law_x"] [2] (IA (Aa 0) T.vq wC wC) (by rw [sizeLine_eq,List.length_range,Int.toNat_natCast]; omega) (by exact λq hq s H fp=>⟨[some _],rfl,(A2 0 (show List.Nodup (["_law_k","_law_x"]:List Str) by decide +kernel)),⟨_,rfl,(An (An (Aa 1) (An (Aa 0) Ag Bq) (CP ⟨by have:=List.mem_range.mp hq; omega,by have:=List.mem_range.mp hq; omega⟩)) Ag (BE wC))⟩⟩)) Af) (Db (by first | exact Or.inr rfl | exact Or.inl (Or.inl rfl) | exact Or.inl (Or.inr (Or.inl rfl)) | exact Or.inl (Or.inr (Or.inr ⟨_,rfl,by first | assumption | rfl⟩))))) (show D.tup _=Lc (some ((List.range m).map λk:Nat=>x/(0+(k:Int)+3)%4)) by rw [Int.toNat_natCast]; show _=D.tup _; rw [List.map_map]; rfl)) Af))) ⟨O.length,(m:Nat),s,some _,rfl,AU,hmI,hs,hps,rfl,?_⟩))
   rw [BD]
   exact hR (.f _ _) ⟨hps,by show ((List.range m).map _).length=m; rw [List.length_map,List.length_range]⟩
  refine Ac (AG (AH.cast (k':=false) (AJ (Aa 5) Ag AV) (decide_eq_false h1)) (λhk=>by cases hk) (λ_=>Aw ?_))
  by_cases h2:x%5=2
  ·refine Ac (AG (AH.cast (k':=true) (AJ (Aa 5) Ag AV) (decide_eq_true h2)) (λ_=>?_) (λhk=>by cases hk))
   refine Ac (Ay (B2 ka (hr.mono wE) (Ab (Aa 0) (Ab (Aa 1) Af)) ⟨O.length,(m:Nat),s,rfl,AU,hmI,hs,rfl,?_⟩))
   rw [BD]
   exact hR (.r (List.replicate m true) 0) List.length_replicate
  refine Ac (AG (AH.cast (k':=false) (AJ (Aa 5) Ag AV) (decide_eq_false h2)) (λhk=>by cases hk) (λ_=>Aw ?_))
  by_cases h3:x%5=3
  ·refine Ac (AG (AH.cast (k':=true) (AJ (Aa 5) Ag AV) (decide_eq_true h3)) (λ_=>?_) (λhk=>by cases hk))
   have hsh:1<=1+x/1000%5/\1+x/1000%5<=5:=by omega
   refine Ac (Ay (B2 kf (hr.mono wE) (Ab (Aa 0) (Ab (Aa 1) (Ab (Aa 4) (Ab (Aa 3) (Ab (An Ag (An (An (Aa 2) Ag (CP ⟨wC,wC⟩)) Ag (BE wC)) Bq) (Ab Ag Af)))))) ⟨O.length,⟨(m:Nat),s,t,b,1+x/1000%5,7⟩,rfl,AU,(hV true _ hsh).so,rfl,?_⟩))
   rw [BD]
   exact hR (.v true ⟨(m:Nat),s,t,b,1+x/1000%5,7⟩ (List.replicate m 1) 1) ⟨hV true _ hsh,rfl,rfl,Jf m,List.length_replicate⟩
  refine Ac (AG (AH.cast (k':=false) (AJ (Aa 5) Ag AV) (decide_eq_false h3)) (λhk=>by cases hk) (λ_=>Aw ?_))
  refine Ac (Ay (B2 je (hr.mono wE) (Ab (Aa 0) (Ab (Aa 1) Af)) ⟨O.length,(m:Nat),s,CK2,rfl,.inl rfl,AU,hmI,hs,rfl,?_⟩))
  rw [BD]
  exact hR .h trivial
theorem VL (Fn:Av K "_law_hands" "_law_hands" J5 f fd) (hm:mg "_law_hands" = some (.ref f)) (hb:Binds K fd ["_law_many","_law_scale","_law_x"] []) (jg:Am P w K mg base 1 "_law_next" (AA Hr)) (kn:Am P w K mg base 13 "_law_hand" (JB ⟨CK2,CK14,CK11,CK10,CK12,CK1⟩)):Am P w K mg base 14 "_law_hands" (NL ⟨CK2,CK14,CK11,CK10,CK12,CK1⟩):=by
 refine A4 (k:=13) Fn HA hm hb (λds O R h=>?_) (λcdv A outer s H E ds O R hr h=>?_)
 ·obtain ⟨_,_,_,rfl,_⟩:=h; rfl
 ·obtain ⟨m,s,x,rfl,hx,hm,hs,hR⟩:=h
  obtain ⟨n,hn,hn1,hn2⟩:=Ss x
  refine Ac (AL 3 (YC Af ?_) HA.nd)
  refine Ac (Fz (IA (Dz (Da (Ab Ag (Ab Ag (Ab Ag (Ab Ag Af))))) (by first | exact Or.inl rfl | exact Or.inr (Or.inl rfl) | exact Or.inr (Or.inr ⟨_,rfl,by first | assumption | rfl⟩)) (An (Aa 2) Ag (BE wC)) hn) T.vq wF wF) (λi ρ O'=>∃ (pv:List (Nat×Hv)) (y:Int) (v4:Option D),ρ=[some (.int (m:Nat)),some (.int s),some (.int y),some (.ptr O.length),v4]/\(∃ Y,O'=O++some (MO.lst (pv.map λz=>D.ptr z.1))::Y)/\QC ⟨CK2,CK14,CK11,CK10,CK12,CK1⟩ O' m s pv/\pv.length=i/\Lo y) ⟨[],x,_,rfl,⟨[],rfl⟩,(λz hz=>absurd hz List.not_mem_nil),rfl,hx⟩ ?_ ?_)
  ·rintro i z ρ O' hz ⟨pv,y,v4,rfl,⟨Y,rfl⟩,hP,hpl,hy⟩
   obtain ⟨hi,rfl⟩:=Om hz
   have hi:i<n:=by omega
   refine ⟨_,A2 4 HA.nd,?_⟩
   have hy':0<=y+(0+((i:Nat):Int))/\y+(0+((i:Nat):Int))<3000000000:=by have:=hy.1; have:=hy.2; omega
   refine Ac (AL 2 (Ad.ev (AF jg (hr.mono wE) (Ab (An (Aa 2) (Aa 4) Bq) Af) ⟨_,rfl,hy',rfl⟩) ?_) HA.nd)
   have hlo:=Lp (y+(0+((i:Nat):Int)))
   generalize DP (y+(0+((i:Nat):Int)))=w at hlo
   refine Ac (Q4 (Aa 3) (BU kn (hr.mono wE) (Ab (Aa 0) (Ab (Aa 1) (Ab (Aa 2) Af))) ⟨m,s,w,rfl,hm,hs,λv hv=>⟨BV AU,?_⟩⟩) AU (by rw [sizeLine_eq,List.length_map]; omega))
   have hq:∀ (l:List D) (q:Nat),q≠O.length->((O++some (MO.lst (pv.map λz=>D.ptr z.1))::Y++[some (Cs.o ⟨CK2,CK14,CK11,CK10,CK12,CK1⟩ (m:Nat) s v)]).set O.length (some (MO.lst l)))[q]?=(O++some (MO.lst (pv.map λz=>D.ptr z.1))::Y++[some (Cs.o ⟨CK2,CK14,CK11,CK10,CK12,CK1⟩ (m:Nat) s v)])[q]?:=λl q h=>List.getElem?_set_ne (Ne.symm h)
   have hLq:(O++some (MO.lst (pv.map λz=>D.ptr z.1))::Y)[O.length]?=some (some (MO.lst (pv.map λz=>D.ptr z.1))):=AU
   refine Aw ⟨pv++[((O++some (MO.lst (pv.map λz=>D.ptr z.1))::Y).length,v)],w,_,rfl,⟨Y++[some (Cs.o ⟨CK2,CK14,CK11,CK10,CK12,CK1⟩ (m:Nat) s v)],?_⟩,λz hz=>?_,by rw [List.length_append,hpl]; rfl,hlo⟩
   ·rw [List.append_assoc,List.cons_append,BD,List.map_append]; rfl
   ·rcases List.mem_append.mp hz with h | h
    ·have hz1:=hP z h
     have hne:z.1≠O.length:=λe=>by
      rw [e,hLq] at hz1
      have:=Option.some.inj (Option.some.inj hz1.1)
      revert this
      cases z.2 <;> intro h <;> cases h
     rw [hq _ _ hne]
     exact ⟨BV hz1.1,hz1.2⟩
    ·rw [List.mem_singleton.mp h]
     rw [hq _ _ (by rw [List.length_append]; show O.length+(_+1)≠_; omega)]
     exact ⟨AU,hv⟩
  ·rintro ρ O' ⟨pv,y,v4,rfl,⟨Y,rfl⟩,hP,hpl,hy⟩
   rw [FL,Int.toNat_natCast] at hpl
   have q0:(O++some (MO.lst (pv.map λz=>D.ptr z.1))::Y)[O.length]?=some (some (MO.lst (pv.map λz=>D.ptr z.1))):=AU
   refine Ac (Ay (Ad.ev (Cj T.vk (Ab (Aa 3) Af) (Db (by first | exact Or.inr rfl | exact Or.inl (Or.inl rfl) | exact Or.inl (Or.inr (Or.inl rfl)) | exact Or.inl (Or.inr (Or.inr ⟨_,rfl,by first | assumption | rfl⟩))))) ?_))
   exact hR _ pv ⟨_,rfl⟩ hP ⟨by omega,by omega⟩
theorem VD (Fn:Av K "_law_which" "_law_which" JY f fd) (hm:mg "_law_which" = some (.ref f)) (hb:Binds K fd ["_law_error"] []):Fx P w K mg base 1 "_law_which" (Gh CK8 CK7):=by
 refine okH (k:=0) Fn Gq hm hb (λds O R h=>?_) (λcdv A outer s H ds O R hr h=>?_)
 ·obtain ⟨_,_,_,rfl,_⟩:=h; rfl
 ·obtain ⟨q,C,fs,rfl,hq,hk⟩:=h
  rcases hk with ⟨rfl,hR⟩ | ⟨rfl,hR⟩
  ·refine Ac (AL 1 (Ad.ev (Da (Ab (Dl T.vt (Aa 0) hq T.lv T.ls T.lz) (Ab (Dl T.vt (Aa 0) hq T.lv T.ng T.ma) (Ab (Dl T.vt (Aa 0) hq T.lv T.mj T.md) Af)))) ?_) Gq.nd)
   refine Ac (AL 1 (Ad.ev (An (Aa 1) (Da (Ab (Dl T.vt (Aa 0) hq T.lv T.nh T.mf) (Ab (Dl T.vt (Aa 0) hq T.lv T.ni T.mh) (Ab (Dl T.vt (Aa 0) hq T.lv T.nj T.mi) Af)))) (OJ (Nat.le_of_ble_eq_true rfl))) ?_) Gq.nd)
   refine Ac (AG (k:=false||(!true)) (BJ.t (B4 (AH.cast (AJ (PM (bs:=[true,false,false,false,false,false]) (Aa 1) (Or.inl rfl) Bo) Ag EF) rfl) (λ_=>CT (Bw (Ba (PF T.vt (Aa 0) hq T.lv T.xi T.ly)))))) (λhk=>by cases hk) (λ_=>Aw ?_))
   exact Ac (Ay (Ad.ev (Dz (Da (Ab A7 (Ab A7 (Ab A7 (Ab A7 (Ab A7 (Ab A7 Af))))))) (Or.inl rfl) (PJ (bs:=[true,false,false,false,false,false]) (Aa 1) (Or.inl rfl) Bo wE) rfl) hR))
  ·refine Ac (AL 1 (Ad.ev (Da (Ab (Dl T.vt (Aa 0) hq T.mm T.ls T.mr) (Ab (Dl T.vt (Aa 0) hq T.mm T.ng T.ms) (Ab (Dl T.vt (Aa 0) hq T.mm T.mj T.mw) Af)))) ?_) Gq.nd)
   refine Ac (AL 1 (Ad.ev (An (Aa 1) (Da (Ab (Dl T.vt (Aa 0) hq T.mm T.nh T.mx) (Ab (Dl T.vt (Aa 0) hq T.mm T.ni T.mz) (Ab (Dl T.vt (Aa 0) hq T.mm T.nj T.nc) Af)))) (OJ (Nat.le_of_ble_eq_true rfl))) ?_) Gq.nd)
   refine Ac (AG (k:=false||(!true)) (BJ.t (B4 (AH.cast (AJ (PM (bs:=[false,false,true,false,false,false]) (Aa 1) (Or.inl rfl) Bo) Ag EF) rfl) (λ_=>CT (Bw (Ba (PF T.vt (Aa 0) hq T.mm T.xi T.mq)))))) (λhk=>by cases hk) (λ_=>Aw ?_))
   exact Ac (Ay (Ad.ev (Dz (Da (Ab A7 (Ab A7 (Ab A7 (Ab A7 (Ab A7 (Ab A7 Af))))))) (Or.inl rfl) (PJ (bs:=[false,false,true,false,false,false]) (Aa 1) (Or.inl rfl) Bo wE) rfl) hR))
theorem VI (Fn:Av K "_law_made" "_law_made" J3 f fd) (hm:mg "_law_made" = some (.ref f)) (hb:Binds K fd ["_law_hands_here","_law_head"] []) (jr:F4 P w K mg base CK12 10 "Tier" (Gm ⟨CK2,CK14,CK11,CK10,CK12,CK1⟩ CK4 CK0 CK7)) (jn:Fx P w K mg base 1 "_law_which" (Gh CK8 CK7)):Am P w K mg base 13 "_law_made" (NF ⟨CK2,CK14,CK11,CK10,CK12,CK1⟩ CK4 CK0):=by
 refine A4 (k:=12) Fn Gs hm hb (λds O R h=>?_) (λcdv A outer s H E ds O R hr h=>?_)
 ·obtain ⟨_,_,_,rfl,_⟩:=h; rfl
 ·obtain ⟨d,d2,b,rfl,hV,hR⟩:=h
  refine Ja ?_
  refine Ac (AL 2 (Ad.ev A7 ?_) Gs.nd)
  rcases hV with ⟨rfl,m,s,pv,hp,hd,rfl,rfl,hP,hD,hm,hs,hl⟩ | ⟨rfl,hN⟩
  ·refine Ac (Fy 3 Gs.nd T.lq (RX:=λ_ _ _ _=>False) (λpn E=>?_) (λv C fs ρ' O' hx=>hx.elim))
   refine BA (Dd (PQ jr (hr.mono wE) (Ab (Aa 0) (Ab (Aa 1) Af)) (.inl ⟨O.length,m,s,pv,hp,hd,O,rfl,rfl,rfl,hP,hD,hm,hs,hl,rfl,?_⟩)))
   refine Dr ?_
   exact Ac (Ay (Ad.ev (Aa 2) ⟨⟨_,rfl⟩,rfl,hR⟩))
  ·refine Ac (Fy 3 Gs.nd T.lq (RX:=λC fs ρ O'=>C=CK7/\fs=[]/\ρ=[some d,some d2,some (.str "none"),none]/\∃ Y,O'=O++Y) (λpn E=>?_) (λv C fs ρ' O' hx=>?_))
   ·exact BA (Dd (PQ jr (hr.mono wE) (Ab (Aa 0) (Ab (Aa 1) Af)) (.inr ⟨O.length,d,d2,rfl,hN.app,rfl,rfl,rfl,⟨_,rfl⟩⟩)))
   ·obtain ⟨rfl,rfl,rfl,⟨Y,rfl⟩⟩:=hx
    refine ⟨T.mn,?_⟩
    refine Ac (AL 2 (L6 jn (hr.mono wE) (Ab (Aa 3) Af) ⟨_,_,_,rfl,AU,.inr ⟨rfl,?_⟩⟩) Gs.nd)
    refine Aw ?_
    exact Ac (Ay (Ad.ev (Aa 2) ⟨⟨_,List.append_assoc ..⟩,rfl,hR⟩))
theorem VG (Fn:Av K "_law_odd" "_law_odd" J1 f fd) (hm:mg "_law_odd" = some (.ref f)) (hb:Binds K fd ["_law_hands_here","_law_head","_law_x"] []) (je:Cn P w K mg base CK2 5 "Hand" (D6 (λC=>C=CK2\/C=CK14\/C=CK11\/C=CK10\/C=CK12\/C=CK1))) (gv:Cn P w K mg base CK4 5 "Meaner" (NC CK4)) (gw:Cn P w K mg base CK0 5 "Book" (ND CK0)):Am P w K mg base 9 "_law_odd" (NB ⟨CK2,CK14,CK11,CK10,CK12,CK1⟩ CK4 CK0):=by
 refine A4 (k:=8) Fn DM hm hb (λds O R h=>?_) (λcdv A outer s H E ds O R hr h=>?_)
 ·obtain ⟨_,_,_,_,_,_,rfl,_⟩:=h; rfl
 ·obtain ⟨m,s,x,pv,hp,hd,rfl,hP,hD,hm,hs,hl,hR⟩:=h
  have hmI:(1:Int)<=(m:Nat)/\((m:Nat):Int)<=24:=⟨by omega,by omega⟩
  obtain ⟨x0,h0⟩:∃ x,pv[0]?=some x:=⟨_,List.getElem?_eq_getElem wF⟩
  have hx0:=hP x0 (List.mem_of_getElem? h0)
  have hat:Bf (pv.map λx=>D.ptr x.1) 0=some (.ptr x0.1):=Fq (j:=0) (by rw [List.getElem?_map,h0]; rfl)
  obtain ⟨n0,ok0⟩:=hx0.2
  refine Ac (AL 3 (Ad.ev (GO T.xo.cls T.xw.cls T.bn.cls T.dh.cls T.xq T.xy T.bq T.dj T.dy.cls T.ee (CI (Aa 0) Ag (hat)) hx0.1 ok0) ?_) DM.nd)
  refine Ac (AL 4 (Ad.ev (FX T.xo.cls T.xw.cls T.bn.cls T.dh.cls T.xr T.xz T.br T.dl T.dy.cls T.ef (CI (Aa 0) Ag (hat)) hx0.1 ok0) ?_) DM.nd)
  refine Ac (AL 5 (Ad.ev (An (An (Aa 2) Ag (CP ⟨wC,wC⟩)) (AT T.vh (Ab (Aa 0) Af) (Cd (by first | exact Or.inr rfl | exact Or.inl (Or.inl rfl) | exact Or.inl (Or.inr (Or.inl rfl)) | exact Or.inl (Or.inr (Or.inr ⟨_,rfl,by first | assumption | rfl⟩))))) (BE (by rw [List.length_map]; omega))) ?_) DM.nd)
  have hK:∃ k:Nat,x/16%(((pv.map λx=>D.ptr x.1).length:Nat):Int)=(k:Nat)/\k<pv.length:=by
   rw [List.length_map]
   have h1:0<=x/16%((pv.length:Nat):Int):=Int.emod_nonneg _ wF
   have h2:x/16%((pv.length:Nat):Int)<(pv.length:Nat):=Int.emod_lt_of_pos _ wF
   exact ⟨(x/16%((pv.length:Nat):Int)).toNat,by omega,by omega⟩
  obtain ⟨k,ek,hk⟩:=hK
  rw [ek]
  refine Ac (AL 6 (Ad.ev (An (Aa 2) Ag (BE wC)) ?_) DM.nd)
  have hw:0<=x%16/\x%16<16:=by omega
  generalize x%16=w at hw
  refine Ac (AL 7 (Ad.ev C9 ?_) DM.nd)
  have hup0:∃ Y,O=O++Y:=⟨[],(List.append_nil _).symm⟩
  have enil:∀ (P:D->Prop) {a:D},P a->P a:=λP a h=>h
  by_cases h4:w<4
  ·have hw4:0<=w/\w<4:=⟨hw.1,h4⟩
   have hmo:=Vu (w:=w) hm
   have hso:=Vc (w:=w) hs
   refine Ac (AG (AH.cast (k':=true) (AJ (Aa 6) Ag Dm) (decide_eq_true wF)) (λ_=>?_) (λhk=>by cases hk))
   refine Ac (AL 8 (Ad.ev (Dz (Da (Ab (An (Aa 3) Ag Bq) (Ab (An (An (Aa 3) Ag Fe) (An Ag (Cj T.vv (Ab (BG (Aa 3) Ag AV) Af) Mi) (B8 (by first | assumption | exact C4.ok (Or.inl ⟨by omega,by omega⟩) | exact C4.ok (Or.inr ⟨by omega,by omega⟩)))) Bq) (Ab (Aa 3) (Ab (Aa 3) Af))))) (by first | exact Or.inl rfl | exact Or.inr (Or.inl rfl) | exact Or.inr (Or.inr ⟨_,rfl,by first | assumption | rfl⟩)) (Aa 6) (Vt hm.1 hw4)) ?_) DM.nd)
   refine Ac (AL 7 (B2 je (hr.mono wE) (Ab (Aa 8) (Ab (Dz (Da (Ab (Aa 4) (Ab (Aa 4) (Ab (An (An (Aa 4) Ag (BE wC)) Ag Bq) (Ab (Aa 4) Af))))) (by first | exact Or.inl rfl | exact Or.inr (Or.inl rfl) | exact Or.inr (Or.inr ⟨_,rfl,by first | assumption | rfl⟩)) (Aa 6) (Vb hw4)) Af)) ⟨O.length,(Dj m w:Nat),Di s w,CK2,rfl,.inl rfl,AU,⟨by omega,by omega⟩,hso,rfl,?_⟩) DM.nd)
   rw [BD]
   refine Aw ?_
   refine Ac (AG (AH.cast (k':=false) (AJ (Aa 6) (A9 (Ab Ag (Ab Ag (Ab Ag Af)))) (L9 (ns:=[4,5,6]) (Or.inr rfl))) (decide_eq_false (by simp only [List.mem_cons,List.not_mem_nil,or_false]; omega))) (λhk=>by cases hk) (λ_=>Aw ?_))
   refine Ac (AG (AH.cast (k':=true) (AJ (Aa 6) Ag Dm) (decide_eq_true wF)) (λ_=>?_) (λhk=>by cases hk))
   refine Ac (Ay (Ad.ev (A9 (Ab (An (An (Ir (Aa 0) Iy (Iw (Aa 5))) (A9 (Ab (Aa 7) Af)) (GD (show _<=_ by rw [List.length_map,sizeLine_eq]; have:=FZ pv none (some ((k:Nat):Int)); show _+1<=_; omega))) (Ir (Aa 0) (Iw (An (Aa 5) Ag Bq)) Iy) (GD (show _<=_ by rw [List.length_append,List.length_map,List.length_map,sizeLine_eq]; have:=FZ pv none (some ((k:Nat):Int)); have:=FZ pv (some (((k:Nat):Int)+1)) none; show _+1+_<=_; omega))) (Ab (Aa 1) (Ab (GL (BG (Aa 6) Ag AV) (λhbb=>(Cu (Ck (BG (AT T.vh (Ab (Aa 0) Af) (Cd (by first | exact Or.inr rfl | exact Or.inl (Or.inl rfl) | exact Or.inl (Or.inr (Or.inl rfl)) | exact Or.inl (Or.inr (Or.inr ⟨_,rfl,by first | assumption | rfl⟩))))) Ag AV) (λhbb=>(Ck (BG (Aa 6) Ag Dm) (λhbb=>(Cu (BG (Aa 6) Ag EF))))))))) Af)))) ?_))
   rw [show ((k:Nat):Int)+1=((k+1:Nat):Int) by omega,P9,Qa,List.length_map]
   have hV:=Uu (CM:=CK4) (CB:=CK0) (q:=O.length) (m':=Dj m w) (s':=Di s w) (hP.app (Y:=[some (MO.ins CK2 (Bl (Dj m w:Nat) (Di s w)))])) hD.app ⟨AU,0,trivial⟩ hk hl.2 ⟨hm.1,by omega⟩ hmo hs
   rw [<- WL hm.1 hs hw4] at hV
   exact hR _ _ _ _ ⟨_,rfl⟩ hV
  refine Ac (AG (AH.cast (k':=false) (AJ (Aa 6) Ag Dm) (decide_eq_false wF)) (λhk=>by cases hk) (λ_=>Aw ?_))
  by_cases h7:w<7
  ·refine Ac (AG (AH.cast (k':=true) (AJ (Aa 6) (A9 (Ab Ag (Ab Ag (Ab Ag Af)))) (L9 (ns:=[4,5,6]) (Or.inr rfl))) (decide_eq_true (by simp only [List.mem_cons,List.not_mem_nil,or_false]; omega))) (λ_=>?_) (λhk=>by cases hk))
   refine Ac (AL 7 (YD (Ra:=λda O1=>∃ f1 f2 qm qb,da=.lst [.int 7,.non,.str "hand",.ptr qm,.ptr qb]/\O1[qm]?=some (some (.ins CK4 f1))/\O1[qb]?=some (some (.ins CK0 f2))/\∃ Y,O1=O++Y) (PD (Cc (Ad.ev Ag (Cc (Ad.ev C9 (Cc (Ad.ev A7 (Cc (B2 gv (hr.mono wE) (Ab (Aa 3) (Ab (Aa 4) (Ab Ag (Ab Ag Af)))) ⟨O.length,(m:Nat),s,1,2,rfl,AU,hmI,hs,by decide,λf1=>⟨rfl,by
   rw [BD]
   refine Cc (B2 gw (hr.mono wE) (Ab (Aa 4) (Ab Ag (Ab Ag Af))) ⟨(O++[some (MO.ins CK4 f1)]).length,s,1,2,rfl,AU,hs,by decide,λf2=>⟨rfl,?_⟩⟩)
   rw [BD]
   refine Bd.as Af ?_
   have g1:(O++[some (MO.ins CK4 f1)]++[some (MO.ins CK0 f2)]++[some (MO.dct [] [])])[O.length]?=some (some (.ins CK4 f1)):=BV (BV AU)
   have g2:(O++[some (MO.ins CK4 f1)]++[some (MO.ins CK0 f2)]++[some (MO.dct [] [])])[(O++[some (MO.ins CK4 f1)]).length]?=some (some (.ins CK0 f2)):=BV AU
   have hup:∃ Y,O++[some (MO.ins CK4 f1)]++[some (MO.ins CK0 f2)]++[some (MO.dct [] [])]=O++Y:=⟨_,by rw [List.append_assoc,List.append_assoc]⟩
   refine ⟨by show 5<=sizeLine; rw [sizeLine_eq]; decide,?_⟩
   exact ⟨f1,f2,_,_,rfl,g1,g2,hup⟩⟩⟩))))))))) (λda O1 hda=>?_)) DM.nd)
   obtain ⟨f1,f2,qm,qb,rfl,g1,g2,Y,rfl⟩:=hda
   obtain ⟨t,t1,t2,t3⟩:=OH (C:=⟨CK2,CK14,CK11,CK10,CK12,CK1⟩) g1 g2 (d1:=.int 7) (d2:=.non) (d3:=.str "hand") rfl rfl rfl (x/256)
   refine ⟨_,_,Ez t,rfl,(An (An (Aa 2) Ag (CP ⟨wC,wC⟩)) Ag (BE wC)),t1,?_⟩
   refine Aw ?_
   refine Ac (AG (AH.cast (k':=true) (AJ (Aa 6) Ag Dm) (decide_eq_true wF)) (λ_=>?_) (λhk=>by cases hk))
   refine Ac (Ay (Ad.ev (A9 (Ab (An (An (Ir (Aa 0) Iy (Iw (Aa 5))) (A9 (Ab (Aa 7) Af)) (GD (show _<=_ by rw [List.length_map,sizeLine_eq]; have:=FZ pv none (some ((k:Nat):Int)); show _+1<=_; omega))) (Ir (Aa 0) (Iw (An (Aa 5) Ag Bq)) Iy) (GD (show _<=_ by rw [List.length_append,List.length_map,List.length_map,sizeLine_eq]; have:=FZ pv none (some ((k:Nat):Int)); have:=FZ pv (some (((k:Nat):Int)+1)) none; show _+1+_<=_; omega))) (Ab (Aa 1) (Ab (GL (BG (Aa 6) Ag AV) (λhbb=>(Cu (Ck (BG (AT T.vh (Ab (Aa 0) Af) (Cd (by first | exact Or.inr rfl | exact Or.inl (Or.inl rfl) | exact Or.inl (Or.inr (Or.inl rfl)) | exact Or.inl (Or.inr (Or.inr ⟨_,rfl,by first | assumption | rfl⟩))))) Ag AV) (λhbb=>(Ck (BG (Aa 6) Ag Dm) (λhbb=>(Cu (BG (Aa 6) Ag EF))))))))) Af)))) ?_))
   rw [show ((k:Nat):Int)+1=((k+1:Nat):Int) by omega,P9,Qa,List.length_map,decide_eq_false (show ¬ w=3 by omega),decide_eq_false (show ¬ w<3 by omega),Bool.false_or,Bool.false_and,Bool.and_false]
   exact hR _ _ _ _ ⟨_,rfl⟩ (.inr ⟨rfl,.inl (Uv hP.app t3 t2 hk hl.2)⟩)
  refine Ac (AG (AH.cast (k':=false) (AJ (Aa 6) (A9 (Ab Ag (Ab Ag (Ab Ag Af)))) (L9 (ns:=[4,5,6]) (Or.inr rfl))) (decide_eq_false (by simp only [List.mem_cons,List.not_mem_nil,or_false]; omega))) (λhk=>by cases hk) (λ_=>Aw ?_))
  refine Ac (AG (AH.cast (k':=false) (AJ (Aa 6) Ag Dm) (decide_eq_false wF)) (λhk=>by cases hk) (λ_=>Aw ?_))
  by_cases e7:w=7
  ·refine Ac (AG (AH.cast (k':=true) (AJ (Aa 6) Ag AV) (decide_eq_true wF)) (λ_=>?_) (λhk=>by cases hk))
   exact Ac (Ay (Ad.ev (A9 (Ab (A9 Af) (Ab (Aa 1) (Ab Bo Af)))) (hR _ _ _ _ hup0 (.inr ⟨rfl,.inl (.inl (.inr (.inr rfl)))⟩))))
  refine Ac (AG (AH.cast (k':=false) (AJ (Aa 6) Ag AV) (decide_eq_false wF)) (λhk=>by cases hk) (λ_=>Aw ?_))
  by_cases e8:w=8
  ·refine Ac (AG (AH.cast (k':=true) (AJ (Aa 6) Ag AV) (decide_eq_true wF)) (λ_=>?_) (λhk=>by cases hk))
   exact Ac (Ay (Ad.ev (A9 (Ab (Cj T.vm (Ab (Aa 0) Af) (Qi (by first | exact Or.inr rfl | exact Or.inl (Or.inl rfl) | exact Or.inl (Or.inr (Or.inl rfl)) | exact Or.inl (Or.inr (Or.inr ⟨_,rfl,by first | assumption | rfl⟩))))) (Ab (Aa 1) (Ab Bo Af)))) (hR _ _ _ _ hup0 (.inr ⟨rfl,.inl (.inl (.inl ⟨rfl,rfl⟩))⟩))))
  refine Ac (AG (AH.cast (k':=false) (AJ (Aa 6) Ag AV) (decide_eq_false wF)) (λhk=>by cases hk) (λ_=>Aw ?_))
  have hd0:=hD (hp,hd) (List.mem_singleton.mpr rfl)
  by_cases e9:w=9
  ·refine Ac (AG (AH.cast (k':=true) (AJ (Aa 6) Ag AV) (decide_eq_true wF)) (λ_=>?_) (λhk=>by cases hk))
   refine Ac (Ay (GK (Cc (YR (Aa 0) (GK (Cc (B2 je (hr.mono wE) (Ab (Aa 3) (Ab (Aa 4) Af)) ⟨O.length,(m:Nat),s,CK2,rfl,.inl rfl,AU,hmI,hs,rfl,?_⟩)))))))
   rw [BD]
   refine Bd.as Af ⟨by show 1<=sizeLine; rw [sizeLine_eq]; decide,_,GD (show _<=_ by rw [List.length_map,sizeLine_eq]; show _+1<=_; omega),Bd.as (Ab (Aa 1) (Ab Bo Af)) ⟨by show 3<=sizeLine; rw [sizeLine_eq]; decide,?_⟩⟩
   refine hR _ _ _ _ ⟨_,rfl⟩ (.inr ⟨rfl,.inr ⟨m,s,pv++[(O.length,.h)],.h ⟨hp,pv.length,s,hd⟩,by rw [List.map_append]; rfl,rfl,λz hz=>?_,by rw [List.length_append]; show 1<=_+1/\_+1<=25; omega,Dc.app hd0,?_⟩⟩)
   ·rcases List.mem_append.mp hz with hz | hz
    ·exact hP.app z hz
    ·rw [List.mem_singleton.mp hz]; exact ⟨AU,0,trivial⟩
   ·rw [List.length_append]
    show (decide (((pv.length:Nat):Int)=((pv.length+1:Nat):Int))&&_)=false
    rw [decide_eq_false wF]; rfl
  refine Ac (AG (AH.cast (k':=false) (AJ (Aa 6) Ag AV) (decide_eq_false wF)) (λhk=>by cases hk) (λ_=>Aw ?_))
  by_cases e10:w=10
  ·refine Ac (AG (AH.cast (k':=true) (AJ (Aa 6) Ag AV) (decide_eq_true wF)) (λ_=>?_) (λhk=>by cases hk))
   exact Ac (Ay (Ad.ev (A9 (Ab (CI (Aa 0) Ag (hat)) (Ab (Aa 1) (Ab Bo Af)))) (hR _ _ _ _ hup0 (.inr ⟨rfl,.inl (.inl (.inr (.inl ⟨⟨x0.1,m,s,x0.2⟩,rfl,hx0⟩)))⟩))))
  refine Ac (AG (AH.cast (k':=false) (AJ (Aa 6) Ag AV) (decide_eq_false wF)) (λhk=>by cases hk) (λ_=>Aw ?_))
  by_cases e14:w<14
  ·refine Ac (AG (AH.cast (k':=true) (AJ (Aa 6) Ag Dm) (decide_eq_true wF)) (λ_=>?_) (λhk=>by cases hk))
   refine Ac (AL 9 (PD (Cc (Ad.ev C9 (Cc (Ad.ev Ag (Cc (Ad.ev (Aa 0) (Cc (B2 gv (hr.mono wE) (Ab (AT T.vh (Ab (Aa 0) Af) (Cd (by first | exact Or.inr rfl | exact Or.inl (Or.inl rfl) | exact Or.inl (Or.inr (Or.inl rfl)) | exact Or.inl (Or.inr (Or.inr ⟨_,rfl,by first | assumption | rfl⟩))))) (Ab (Aa 4) (Ab Ag (Ab Ag Af)))) ⟨O.length,(pv.length:Nat),s,1,2,by rw [List.length_map],AU,⟨by omega,by omega⟩,hs,by decide,λf1=>⟨rfl,by
   rw [BD]
   refine Cc (B2 gw (hr.mono wE) (Ab (Aa 4) (Ab Ag (Ab Ag Af))) ⟨(O++[some (MO.ins CK4 f1)]).length,s,1,2,rfl,AU,hs,by decide,λf2=>⟨rfl,?_⟩⟩)
   rw [BD]
   refine Bd.as Af ?_
   have g1:(O++[some (MO.ins CK4 f1)]++[some (MO.ins CK0 f2)]++[some (MO.dct [] [])])[O.length]?=some (some (.ins CK4 f1)):=BV (BV AU)
   have g2:(O++[some (MO.ins CK4 f1)]++[some (MO.ins CK0 f2)]++[some (MO.dct [] [])])[(O++[some (MO.ins CK4 f1)]).length]?=some (some (.ins CK0 f2)):=BV AU
   have hup:∃ Y,O++[some (MO.ins CK4 f1)]++[some (MO.ins CK0 f2)]++[some (MO.dct [] [])]=O++Y:=⟨_,by rw [List.append_assoc,List.append_assoc]⟩
   refine ⟨by show 5<=sizeLine; rw [sizeLine_eq]; decide,?_⟩
   exact (by
    obtain ⟨t,t1,t2,t3⟩:=OH (C:=⟨CK2,CK14,CK11,CK10,CK12,CK1⟩) g1 g2 (d1:=.non) (d2:=.int 3) (d3:=.tup (pv.map λx=>D.ptr x.1)) rfl rfl rfl (x/256)
    obtain ⟨Y,hY⟩:=hup
    refine Ac (Ay (Ad.ev (A9 (Ab (Aa 0) (Ab (Dz (Aa 9) (by first | exact Or.inl rfl | exact Or.inr (Or.inl rfl) | exact Or.inr (Or.inr ⟨_,rfl,by first | assumption | rfl⟩)) (An (An (Aa 2) Ag (CP ⟨wC,wC⟩)) Ag (BE wC)) t1) (Ab Bo Af)))) ?_))
    exact hR _ _ _ _ ⟨Y,hY⟩ (.inr ⟨rfl,.inr ⟨m,s,pv,t,rfl,rfl,hP.app.app.app,⟨hl.1,by omega⟩,t3,OG _ t2⟩⟩))⟩⟩))))))))) DM.nd)
  refine Ac (AG (AH.cast (k':=false) (AJ (Aa 6) Ag Dm) (decide_eq_false wF)) (λhk=>by cases hk) (λ_=>Aw ?_))
  by_cases e15:w=14
  ·refine Ac (AG (AH.cast (k':=true) (AJ (Aa 6) Ag AV) (decide_eq_true wF)) (λ_=>?_) (λhk=>by cases hk))
   refine Ac (Ay (GK (Cc (Ad.ev (Aa 0) (Cc (B2 je (hr.mono wE) (Ab (AT T.vh (Ab (Aa 0) Af) (Cd (by first | exact Or.inr rfl | exact Or.inl (Or.inl rfl) | exact Or.inl (Or.inr (Or.inl rfl)) | exact Or.inl (Or.inr (Or.inr ⟨_,rfl,by first | assumption | rfl⟩))))) (Ab (An (An (Aa 4) Ag (BE wC)) Ag Bq) Af)) ⟨O.length,(pv.length:Nat),s%10+1,CK2,by rw [List.length_map],.inl rfl,AU,⟨by omega,by omega⟩,⟨by omega,by omega⟩,rfl,?_⟩))))))
   rw [BD]
   refine Bd.as (Ab Bo Af) ⟨by show 3<=sizeLine; rw [sizeLine_eq]; decide,?_⟩
   refine hR _ _ _ _ ⟨_,rfl⟩ (.inr ⟨rfl,.inr ⟨m,s,pv,.h ⟨O.length,pv.length,s%10+1,.h⟩,rfl,rfl,hP.app,⟨hl.1,by omega⟩,⟨AU,0,trivial⟩,?_⟩⟩)
   show (_&&decide (s%10+1=s))=false
   rw [decide_eq_false (show ¬ s%10+1=s by omega),Bool.and_false]
  refine Ac (AG (AH.cast (k':=false) (AJ (Aa 6) Ag AV) (decide_eq_false wF)) (λhk=>by cases hk) (λ_=>Aw ?_))
  refine Ac (Ay (GK (Cc (YQ (Ra:=λda O1=>da=.tup [.ptr O.length]/\O1=O++[some (MO.ins CK2 (Bl (m:Nat) s))]) (GK (Cc (B2 je (hr.mono wE) (Ab (Aa 3) (Ab (Aa 4) Af)) ⟨O.length,(m:Nat),s,CK2,rfl,.inl rfl,AU,hmI,hs,rfl,?_⟩))) (λda O1 hda=>?_)))))
  ·rw [BD]
   exact Bd.as Af ⟨by show 1<=sizeLine; rw [sizeLine_eq]; decide,rfl,rfl⟩
  obtain ⟨rfl,rfl⟩:=hda
  refine ⟨.int 25,_,Ag,Ed wE wE (by simp) (by rw [sizeLine_eq]; show 25<=_; decide),Cc (B2 je (hr.mono wE) (Ab Ag (Ab (Aa 4) Af)) ⟨(O++[some (MO.ins CK2 (Bl (m:Nat) s))]).length,24,s,CK2,rfl,.inl rfl,AU,by decide,hs,rfl,?_⟩)⟩
  rw [BD]
  refine Bd.as (Ab Bo Af) ⟨by show 3<=sizeLine; rw [sizeLine_eq]; decide,?_⟩
  refine hR _ _ _ _ ⟨_,List.append_assoc ..⟩ (.inr ⟨rfl,.inr ⟨m,s,List.replicate 25 (O.length,Hv.h),.h ⟨(O++[some (MO.ins CK2 (Bl (m:Nat) s))]).length,24,s,.h⟩,rfl,rfl,λz hz=>?_,by rw [List.length_replicate]; decide,⟨AU,0,trivial⟩,rfl⟩⟩)
  rw [List.eq_of_mem_replicate hz]
  exact ⟨BV AU,0,trivial⟩
theorem VO (Fn:Av K "_law_asked" "_law_asked" J8 f fd) (hm:mg "_law_asked" = some (.ref f)) (hb:Binds K fd ["_law_tier","_law_said","_law_so","_law_hears"] []) (jp:EM P w K mg base CK12 9 "say" (Gi ⟨CK2,CK14,CK11,CK10,CK12,CK1⟩ CK8)) (jn:Fx P w K mg base 1 "_law_which" (Gh CK8 CK7)):Am P w K mg base 13 "_law_asked" (NQ ⟨CK2,CK14,CK11,CK10,CK12,CK1⟩):=by
 refine A4 (k:=12) Fn Fb hm hb (λds O R h=>?_) (λcdv A outer s H E ds O R hr h=>?_)
 ·obtain ⟨_,_,_,_,_,_,_,_,_,rfl,_⟩:=h; rfl
 ·obtain ⟨q,n,m,s,hs,hd,ch,x,y,rfl,hT,hk,hm,h0,hS,hR⟩:=h
  refine Ja ?_
  refine Ac (AL 4 (Ad.ev A7 ?_) Fb.nd)
  refine Ac (AL 5 (Ad.ev Ag ?_) Fb.nd)
  cases hb:Bi (m:Nat) s x with
  | true=>
   rw [hb] at hR
   obtain ⟨said,rfl,hsd⟩:=Oc wF hb
   refine Ac (Fy 6 Fb.nd T.lq (RX:=λ_ _ _ _=>False) (λpn E=>?_) (λv C fs ρ' O' hx=>hx.elim))
   refine BA (D4 (Ba (Aa 3)) (λhk=>by cases hk) (λ_=>?_))
   refine BA (Dd (Iv jp (hr.mono wE) (Aa 0) hT.o (DJ _ _ _ _ _ wD) (Ab (Aa 1) Af) (.inl ⟨q,n,m,s,hs,hd,ch,said,by rw [FB],hT,hk,hm,h0,hsd,?_⟩)))
   refine Dr (Dr ?_)
   refine Ac (Ay (Ad.ev (A9 (Ab (Aa 4) (Ab (Ck (BG (Aa 5) Ag AV) (λhbb=>(Cu (GN (AT T.vt (Ab (Aa 5) (Ab (Ct T.vw) Af)) (GU rfl)))))) Af))) ?_))
   exact ⟨⟨[],(List.append_nil _).symm⟩,rfl,hR⟩
  | false=>
   rw [hb] at hR
   refine Ac (Fy 6 Fb.nd T.lq (RX:=λC fs ρ O'=>C=CK8/\fs=[(("number" : Str),D.int 0)]/\ρ=[some (.ptr q),some (sv x),some y,some (.bl false),some (.str "none"),some (.int 0),none]/\O'=O) (λpn E=>?_) (λv C fs ρ' O' hx=>?_))
   ·refine BA (D4 (Ba (Aa 3)) (λhk=>by cases hk) (λ_=>?_))
    exact BA (Dd (Iv jp (hr.mono wE) (Aa 0) hT.o (DJ _ _ _ _ _ wD) (Ab (Aa 1) Af) (.inr ⟨q,m,s,hs,hd,ch,x,rfl,hT,hS,hb,⟨rfl,rfl,rfl,rfl⟩⟩)))
   ·obtain ⟨rfl,rfl,rfl,rfl⟩:=hx
    refine ⟨T.lx,?_⟩
    refine Ac (AL 4 (L6 jn (hr.mono wE) (Ab (Aa 6) Af) ⟨_,_,_,rfl,AU,.inl ⟨rfl,?_⟩⟩) Fb.nd)
    refine Ac (AL 5 (Ad.ev (PL (Aa 6) AU T.lv T.lw rfl) ?_) Fb.nd)
    refine Aw ?_
    refine Ac (Ay (Ad.ev (A9 (Ab (Aa 4) (Ab (Ck (BG (Aa 5) Ag AV) (λhbb=>(Cu (GN (AT T.vt (Ab (Aa 5) (Ab (Ct T.vw) Af)) (GU rfl)))))) Af))) ?_))
    exact ⟨⟨_,rfl⟩,rfl,hR⟩
theorem VP (Fn:Av K "_law_asked" "_law_asked" J9 f fd) (hm:mg "_law_asked" = some (.ref f)) (hb:Binds K fd ["_law_tier","_law_said","_law_so","_law_hears"] []) (gx:EM P w K mg base CK12 10 "hear" (Ht ⟨CK2,CK14,CK11,CK10,CK12,CK1⟩ CK8)) (jn:Fx P w K mg base 1 "_law_which" (Gh CK8 CK7)):Am P w K mg base 14 "_law_asked" (NR ⟨CK2,CK14,CK11,CK10,CK12,CK1⟩):=by
 refine A4 (k:=13) Fn Fc hm hb (λds O R h=>?_) (λcdv A outer s H E ds O R hr h=>?_)
 ·obtain ⟨_,_,_,_,_,_,_,_,_,rfl,_⟩:=h; rfl
 ·obtain ⟨q,n,m,s,hs,hd,ch,x,y,rfl,hT,hk,hn,hm,h0,hS,h1,h2⟩:=h
  refine Ac (AL 4 (Ad.ev A7 ?_) Fc.nd)
  refine Ac (AL 5 (Ad.ev Ag ?_) Fc.nd)
  cases hb:(Bi (m:Nat) s x&&Bt s y) with
  | true=>
   have hb2:=hb
   rw [Bool.and_eq_true] at hb2
   obtain ⟨said,rfl,hsd⟩:=Oc wF hb2.1
   obtain ⟨so,rfl,hso⟩:=Vs hb2.2
   refine Ac (Fy 6 Fc.nd T.lq (RX:=λ_ _ _ _=>False) (λpn E=>?_) (λv C fs ρ' O' hx=>hx.elim))
   refine BA (D4 (Ba (Aa 3)) (λ_=>?_) (λhk=>by cases hk))
   refine BA (Dd (Iv gx (hr.mono wE) (Aa 0) hT.o (DJ _ _ _ _ _ wD) (Ab (Aa 1) (Ab (Aa 2) Af)) (.inl ⟨q,n,m,s,so,hs,hd,ch,said,by rw [FB]; rfl,hT,hk,hn,hm,hsd,hso,λO' hB hT'=>?_⟩)))
   refine Dr (Dr ?_)
   refine Ac (Ay (Ad.ev (A9 (Ab (Aa 4) (Ab (Ck (BG (Aa 5) Ag AV) (λhbb=>(Cu (GN (AT T.vt (Ab (Aa 5) (Ab (Ct T.vw) Af)) (GU rfl)))))) Af))) ?_))
   exact h1 hb _ _ _ _ (λj hj=>hB.o j (.inl hj)) hT' (hk.hear hsd hso h0)
  | false=>
   refine Ac (Fy 6 Fc.nd T.lq (RX:=λC fs ρ O'=>C=CK8/\fs=[(("number" : Str),D.int 0)]/\ρ=[some (.ptr q),some (sv x),some (ov y),some (.bl true),some (.str "none"),some (.int 0),none]/\O'=O) (λpn E=>?_) (λv C fs ρ' O' hx=>?_))
   ·refine BA (D4 (Ba (Aa 3)) (λ_=>?_) (λhk=>by cases hk))
    exact BA (Dd (Iv gx (hr.mono wE) (Aa 0) hT.o (DJ _ _ _ _ _ wD) (Ab (Aa 1) (Ab (Aa 2) Af)) (.inr ⟨q,m,s,hs,hd,ch,x,y,rfl,hT,hS,hb,⟨rfl,rfl,rfl,rfl⟩⟩)))
   ·obtain ⟨rfl,rfl,rfl,rfl⟩:=hx
    refine ⟨T.lx,?_⟩
    refine Ac (AL 4 (L6 jn (hr.mono wE) (Ab (Aa 6) Af) ⟨_,_,_,rfl,AU,.inl ⟨rfl,?_⟩⟩) Fc.nd)
    refine Ac (AL 5 (Ad.ev (PL (Aa 6) AU T.lv T.lw rfl) ?_) Fc.nd)
    refine Aw ?_
    refine Ac (Ay (Ad.ev (A9 (Ab (Aa 4) (Ab (Ck (BG (Aa 5) Ag AV) (λhbb=>(Cu (GN (AT T.vt (Ab (Aa 5) (Ab (Ct T.vw) Af)) (GU rfl)))))) Af))) ?_))
    exact h2 hb _
theorem VE (Fn:Av K "_law_turn" "_law_turn" JZ f fd) (hm:mg "_law_turn" = some (.ref f)) (hb:Binds K fd ["_law_many","_law_scale","_law_x"] []):Am P w K mg base 1 "_law_turn" Nu:=by
 refine A4 (k:=0) Fn Gr hm hb (λds O R h=>?_) (λcdv A outer s H E ds O R hr h=>?_)
 ·obtain ⟨_,_,_,rfl,_⟩:=h; rfl
 ·obtain ⟨m,s,x,rfl,hm,hs,hR⟩:=h
  have hs1:=hs.1
  refine Ac (QZ 3 (λk:Nat=>if decide (x/(0+(k:Nat)+3)%5=0)=true then D.non else .int (x/(0+(k:Nat)+2)%(s+1))) ["_law_k"] ["_law_x","_law_scale"] [2,1] (IA (Aa 0) T.vq wC wC) (by rw [sizeLine_eq,List.length_range]; omega) (by exact λq hq s H fp=>⟨[some _],rfl,(A2 0 (show List.Nodup (["_law_k","_law_x","_law_scale"]:List Str) by decide +kernel)),⟨_,rfl,(PH (AJ (An (An (Aa 1) (An (Aa 0) Ag Bq) (CP ⟨by have:=List.mem_range.mp hq; omega,by have:=List.mem_range.mp hq; omega⟩)) Ag (BE wC)) Ag AV) (λhbb=>C9) (λhbb=>(An (An (Aa 1) (An (Aa 0) Ag Bq) (CP ⟨by have:=List.mem_range.mp hq; omega,by have:=List.mem_range.mp hq; omega⟩)) (An (Aa 2) Ag Bq) (BE wF))))⟩⟩) ?_ Gr.nd)
  have eL:((List.range ((m:Nat):Int).toNat).map λk:Nat=>if decide (x/(0+(k:Nat)+3)%5=0)=true then D.non else .int (x/(0+(k:Nat)+2)%(s+1)))=((List.range m).map (hO x s)).map ov:=by
   rw [List.map_map,Int.toNat_natCast]
   exact List.map_congr_left λk _=>X5 x s k
  rw [eL]
  have hL:((List.range m).map (hO x s)).length=m:=by rw [List.length_map,List.length_range]
  have hLs:=X4 (x:=x) (m:=m) hs1
  generalize (List.range m).map (hO x s)=L at hL hLs
  refine Ac (AL 4 (Ad.ev (An (An (Aa 2) Ag (CP ⟨wC,wC⟩)) (An (Aa 1) Ag Bq) (BE wF)) ?_) Gr.nd)
  refine Ac (AL 5 (Ad.ev (An (Aa 2) Ag (BE wC)) ?_) Gr.nd)
  have hy0:Bt s (.i (x/5%(s+1)))=true:=Ll ⟨Int.emod_nonneg _ wF,by have:=Int.emod_lt_of_pos (x/5) (show 0<s+1 by omega); omega⟩
  generalize x/5%(s+1)=y0 at hy0
  generalize x%9=w
  refine Hf (λρ O'=>∃ (L:List Ov) (y:Ov),ρ=[some (.int (m:Nat)),some (.int s),some (.int x),some (.ptr O.length),some (ov y),some (.int w)]/\O'=O++[some (.lst (L.map ov))]/\L.length=m/\Bi (m:Nat) s (.t L)=!decide (w<3)/\Bt s y=true) (AG (AJ (Aa 5) Ag Dm) (λhk=>?_) (λhk=>Aw ⟨L,.i y0,rfl,rfl,hL,by rw [hLs,hk]; rfl,hy0⟩)) ?_
  ·have q0:(O++[some (MO.lst (L.map ov))])[O.length]?=some (some (.lst (L.map ov))):=AU
   have hK:∃ k:Nat,x/12%((m:Nat):Int)=(k:Nat)/\k<L.length:=by
    have h1:0<=x/12%((m:Nat):Int):=Int.emod_nonneg _ wF
    have h2:x/12%((m:Nat):Int)<(m:Nat):=Int.emod_lt_of_pos _ wF
    exact ⟨(x/12%((m:Nat):Int)).toNat,by omega,by omega⟩
   obtain ⟨k,ek,hkl⟩:=hK
   have hw4:x/300%4=0\/x/300%4=1\/x/300%4=2\/x/300%4=3:=by omega
   refine Ac (Q3 (j:=k) (Dz (Da (Ab (PC Ag) (Ab (An (Aa 1) Ag Bq) (Ab Bo (Ab A7 Af))))) (by first | exact Or.inl rfl | exact Or.inr (Or.inl rfl) | exact Or.inr (Or.inr ⟨_,rfl,by first | assumption | rfl⟩)) (An (An (Aa 2) Ag (CP ⟨wC,wC⟩)) Ag (BE wC)) (WP hw4)) (Aa 3) AU (An (An (Aa 2) Ag (CP ⟨wC,wC⟩)) (Aa 0) (BE wF)) (by rw [ek]; exact XB (by rw [List.length_map]; exact hkl)) ?_)
   rw [BD]
   exact Aw ⟨L.set k (HN s (x/300%4)),.i y0,rfl,by rw [List.map_set],by rw [List.length_set]; exact hL,by rw [hk,TF (List.mem_set hkl _) (WO hw4 hs1).1]; rfl,hy0⟩
  rintro ρ O1 ⟨L,y,rfl,rfl,hL,hLs,hy⟩
  refine Hf (λρ O'=>∃ (L:List Ov) (y:Ov),ρ=[some (.int (m:Nat)),some (.int s),some (.int x),some (.ptr O.length),some (ov y),some (.int w)]/\O'=O++[some (.lst (L.map ov))]/\L.length=m/\Bi (m:Nat) s (.t L)=!decide (w<3)/\Bt s y=!decide (w=3)) (AG (AJ (Aa 5) Ag AV) (λhk=>?_) (λhk=>Aw ⟨L,y,rfl,rfl,hL,hLs,by rw [hy,hk]; rfl⟩)) ?_
  ·refine Ac (AL 4 (Ad.ev (Dz (Da (Ab (PC Ag) (Ab (An (Aa 1) Ag Bq) (Ab Bo (Ab C9 (Ab A7 Af)))))) (by first | exact Or.inl rfl | exact Or.inr (Or.inl rfl) | exact Or.inr (Or.inr ⟨_,rfl,by first | assumption | rfl⟩)) (An (An (Aa 2) Ag (CP ⟨wC,wC⟩)) Ag (BE wC)) (WN s (x/12))) ?_) Gr.nd)
   exact Aw ⟨L,GC s (x/12),rfl,rfl,hL,hLs,by rw [hk,WM]; rfl⟩
  rintro ρ O1 ⟨L,y,rfl,rfl,hL,hLs,hy⟩
  refine Hf (λρ O'=>∃ (L:List Ov) (y:Ov),ρ=[some (.int (m:Nat)),some (.int s),some (.int x),some (.ptr O.length),some (ov y),some (.int w)]/\O'=O++[some (.lst (L.map ov))]/\(1<=L.length/\L.length<=25)/\(w≠4->L.length=m)/\Bi (m:Nat) s (.t L)=!(decide (w<3)||decide (w=4))/\Bt s y=!decide (w=3)) (AG (AJ (Aa 5) Ag AV) (λhk=>?_) (λhk=>Aw ⟨L,y,rfl,rfl,by omega,λ_=>by omega,by rw [hLs,hk,Bool.or_false],hy⟩)) ?_
  ·refine Ac (Q5 (Aa 3) AU Ag (by rw [sizeLine_eq,List.length_map]; omega) ?_)
   rw [BD]
   have hk4:=of_decide_eq_true hk
   exact Aw ⟨L++[.i 0],y,rfl,by rw [List.map_append]; rfl,by rw [List.length_append]; show 1<=L.length+1/\L.length+1<=25; omega,λz=>by omega,by rw [hk,Bool.or_true,JQ (by rw [List.length_append]; show ¬ (((L.length+1:Nat)):Int)=(m:Nat); omega)]; rfl,hy⟩
  rintro ρ O1 ⟨L,y,rfl,rfl,hL,hL4,hLs,hy⟩
  refine Hf (λρ O'=>∃ (L:List Ov) (y:Ov),ρ=[some (.int (m:Nat)),some (.int s),some (.int x),some (.ptr O.length),some (ov y),some (.int w)]/\O'=O++[some (.lst (L.map ov))]/\L.length<=25/\Bi (m:Nat) s (.t L)=!DW w/\Bt s y=!decide (w=3)) (AG (AJ (Aa 5) Ag AV) (λhk=>?_) (λhk=>Aw ⟨L,y,rfl,rfl,by omega,by rw [hLs]; unfold DW; rw [hk,Bool.or_false],hy⟩)) ?_
  ·refine Ac (Q2 (Aa 3) AU (λz=>by have:=congrArg List.length z; rw [List.length_map] at this; have:L.length=0:=this; omega) ?_)
   rw [BD]
   have hk5:=of_decide_eq_true hk
   have hLm:=hL4 wF
   exact Aw ⟨L.dropLast,y,rfl,by rw [List.map_dropLast],by rw [List.length_dropLast]; omega,by unfold DW; rw [hk,Bool.or_true,Bool.or_true,JQ (by rw [List.length_dropLast]; omega)]; rfl,hy⟩
  rintro ρ O1 ⟨L,y,rfl,rfl,hL,hLs,hy⟩
  have q0:(O++[some (MO.lst (L.map ov))])[O.length]?=some (some (.lst (L.map ov))):=AU
  refine Ac (Ay (Ad.ev (A9 (Ab (Cj T.vk (Ab (Aa 3) Af) (Db (by first | exact Or.inr rfl | exact Or.inl (Or.inl rfl) | exact Or.inl (Or.inr (Or.inl rfl)) | exact Or.inl (Or.inr (Or.inr ⟨_,rfl,by first | assumption | rfl⟩))))) (Ab (Aa 4) (Ab (Aa 5) Af)))) ?_))
  exact hR _ L y w ⟨_,rfl⟩ hL hLs hy
theorem VJ (Fn:Av K "_law_heard" "_law_heard" J4 f fd) (hm:mg "_law_heard" = some (.ref f)) (hb:Binds K fd ["_law_tier","_law_x"] []) (zw:Am P w K mg base 1 "_law_turn" Nu) (zx:Am P w K mg base 13 "_law_asked" (NQ ⟨CK2,CK14,CK11,CK10,CK12,CK1⟩)) (gy:Am P w K mg base 14 "_law_asked" (NR ⟨CK2,CK14,CK11,CK10,CK12,CK1⟩)) (jp:EM P w K mg base CK12 9 "say" (Gi ⟨CK2,CK14,CK11,CK10,CK12,CK1⟩ CK8)) (gz:AI P w K mg base CK12 1 "hand_charges" (NP ⟨CK2,CK14,CK11,CK10,CK12,CK1⟩)):Am P w K mg base 16 "_law_heard" (NJ ⟨CK2,CK14,CK11,CK10,CK12,CK1⟩):=by
 refine A4 (k:=15) Fn Fa hm hb (λds O R h=>?_) (λcdv A outer s H E ds O R hr h=>?_)
 ·obtain ⟨_,_,_,_,_,_,_,_,rfl,_⟩:=h; rfl
 ·obtain ⟨q,n,m,s,x,hs,hd,ch,rfl,hT,hk,hn,hm,hsc,hR⟩:=h
  have hs1:=hsc.1
  have h0:0<=s:=by omega
  have hz:=QR (m:=m) (s:=s) hm.2 hs1
  refine Ac (Jc (BU zw (hr.mono wE) (Ab (As (Aa 0) hT.o T.eu.cls T.fh (FA _ _ _ _ _)) (Ab (As (Aa 0) hT.o T.eu.cls T.fi (Gf _ _ _ _ _)) (Ab (Aa 1) Af))) ⟨m,s,x,rfl,hm,hsc,λO1 L y w hup hL hLs hy=>⟨_,EB (B7 (A2 2 Fa.nd) (B7 (A2 3 Fa.nd) (B7 (A2 4 Fa.nd) EA))),?_⟩⟩))
  obtain ⟨Y0,rfl⟩:=hup
  have hT1:BO ⟨CK2,CK14,CK11,CK10,CK12,CK1⟩ (O++Y0) q m s hs hd ch:=hT.app
  have hql:=(List.getElem?_eq_some_iff.mp hT.o).1
  have kp1:D1 q O (O++Y0):=λj hj=>List.getElem?_append_left wF
  generalize O++Y0=O1 at hT1 kp1
  refine Ac (AL 5 (Ad.ev (Ad.cast (d':=.tup ((List.replicate m (some (0:Int))).map od)) (An (A9 (Ab Ag Af)) (As (Aa 0) hT1.o T.eu.cls T.fh (FA _ _ _ _ _)) (Ed wF wF (by simp) (by rw [sizeLine_eq,Int.toNat_natCast]; show 1*_<=_; omega))) (congrArg D.tup (QS m))) ?_) Fa.nd)
  refine Ac (AL 6 (Ad.ev (A9 (Ab (Ev.evp (DT gz (hr.mono wE) (Aa 0) hT1.o (DJ _ _ _ _ _ wD) ⟨q,m,s,hs,hd,ch,rfl,hT1,rfl,rfl⟩)) (Ab (Ev.evp (CG jp.ok (hr.mono wE) (Aa 0) hT1.o (DJ _ _ _ _ _ wD) (Ab (Aa 5) Af) (.inl ⟨q,n,m,s,hs,hd,ch,_,rfl,hT1,hk,hm,h0,hz,rfl,rfl⟩))) Af))) ?_) Fa.nd)
  refine Ac (AL 7 (Ad.ev (Ad.cast (d':=.bl (DW w)) (GL (BG (Aa 4) Ag Dm) (λhbb=>(GL (BG (Aa 4) Ag AV) (λhbb=>(Cu (BG (Aa 4) Ag AV)))))) rfl) ?_) Fa.nd)
  have hS:DZ (.t L):=show L.length<=100 by omega
  refine Ac (AG (AH.cast (k:=!CU (Cf (Bi (m:Nat) s (.t L))) (Cf (!DW w))) (k':=false) (AJ (Ev.evp (BU zx (hr.mono wE) (Ab (Aa 0) (Ab (Aa 2) (Ab Ag (Ab Bo Af)))) ⟨q,n,m,s,hs,hd,ch,.t L,_,rfl,hT1,hk,hm,h0,hS,rfl,rfl⟩)) (A9 (Ab (Dz (Da (Ab A7 (Ab A7 Af))) (by first | exact Or.inl rfl | exact Or.inr (Or.inl rfl) | exact Or.inr (Or.inr ⟨_,rfl,by first | assumption | rfl⟩)) (Cj T.vv (Ab (Aa 7) Af) Mi) (Zc (DW w))) (Ab Bo Af))) (Qe hr (Or.inl rfl) (Or.inl rfl) (FK _) (FK _) (Nat.le_trans (Nat.min_le_left _ _) (K5 _)))) (by rw [hLs,K4]; rfl)) (λhk=>by cases hk) (λ_=>Aw ?_))
  have hbb:(Bi (m:Nat) s (.t L)&&Bt s y)=!(DW w||decide (w=3)):=by rw [hLs,hy]; cases DW w <;> cases decide (w=3) <;> rfl
  cases hB:(DW w||decide (w=3)) with
  | true=>
   rw [hB] at hbb
   refine Ac (AG (AH.cast (k':=true) (BJ.t (B4 (Ba (Aa 7)) (λhbb=>(CT (AJ (Aa 4) Ag AV))))) hB) (λ_=>?_) (λhk=>by cases hk))
   refine Ac (MQ (R:=λk O2=>k=false/\∃ Y,O2=O1++Y)
    (YV (Ra:=λd O2=>d=Cf false/\∃ Y,O2=O1++Y) (BU gy (hr.mono wE) (Ab (Aa 0) (Ab (Aa 2) (Ab (Aa 3) (Ab Bo Af)))) ⟨q,n,m,s,hs,hd,ch,.t L,y,rfl,hT1,hk,by omega,hm,h0,hS,(λz=>by rw [hbb] at z; cases z),λ_ Y=>⟨rfl,Y,rfl⟩⟩)
    (λda O2 ⟨ed,hd⟩=>⟨Cf false,false,(A9 (Ab A7 (Ab Bo Af))),by
     subst ed
     have e:(.bl false:D)=.bl (!CU (Cf false) (Cf false)):=by rw [K4]; rfl
     rw [e]
     exact Qe hr (Or.inl rfl) (Or.inl rfl) (FK _) (FK _) (Nat.le_trans (Nat.min_le_left _ _) (K5 _)),rfl,hd⟩)) (λk O2 ⟨ek,hd⟩=>⟨(λz=>by rw [ek] at z; cases z),λ_=>Aw ?_⟩))
   obtain ⟨Y,rfl⟩:=hd
   have hT2:BO ⟨CK2,CK14,CK11,CK10,CK12,CK1⟩ (O1++Y) q m s hs hd ch:=hT1.app
   refine Ac (Ay (Ad.ev (Ad.cast (d':=.bl true) (BG (A9 (Ab (Ev.evp (DT gz (hr.mono wE) (Aa 0) hT2.o (DJ _ _ _ _ _ wD) ⟨q,m,s,hs,hd,ch,rfl,hT2,rfl,rfl⟩)) (Ab (Ev.evp (CG jp.ok (hr.mono wE) (Aa 0) hT2.o (DJ _ _ _ _ _ wD) (Ab (Aa 5) Af) (.inl ⟨q,n,m,s,hs,hd,ch,_,rfl,hT2,hk,hm,h0,hz,rfl,rfl⟩))) Af))) (Aa 6) (Qf hr (Or.inl rfl) (Or.inl rfl) (Ou _ _) (Ou _ _) (Nat.le_trans (Nat.min_le_left _ _) (Zd _ _)))) (by rw [Y1,YZ,PY,decide_eq_true rfl]; rfl)) ?_))
   exact hR _ n hs hd ch (λj hj=>by rw [List.getElem?_append_left (by have:=(List.getElem?_eq_some_iff.mp hT1.o).1; omega)]; exact kp1 j hj) hT2 hk wF
  | false=>
   rw [hB] at hbb
   refine Ac (AG (AH.cast (k':=false) (BJ.t (B4 (Ba (Aa 7)) (λhbb=>(CT (AJ (Aa 4) Ag AV))))) hB) (λhk=>by cases hk) (λ_=>Aw ?_))
   refine Ac (Ay (YL (Ra:=λd O2=>d=Cf true/\∃ hs' hd' ch',D1 q O1 O2/\BO ⟨CK2,CK14,CK11,CK10,CK12,CK1⟩ O2 q m s hs' hd' ch'/\B6 (n+1) m s hs' hd' ch') (BU gy (hr.mono wE) (Ab (Aa 0) (Ab (Aa 2) (Ab (Aa 3) (Ab Bo Af)))) ⟨q,n,m,s,hs,hd,ch,.t L,y,rfl,hT1,hk,by omega,hm,h0,hS,(λ_ O' hs' hd' ch' g1 g2 g3=>⟨rfl,hs',hd',ch',g1,g2,g3⟩),λz=>by rw [hbb] at z; cases z⟩) (λda O2 ⟨ed,hs',hd',ch',g1,g2,g3⟩=>Ad.ev (d:=Cf true) (A9 (Ab A7 (Ab Bo Af))) ⟨.bl true,by
     subst ed
     have e:(.bl true:D)=.bl (CU (Cf true) (Cf true)):=by rw [K4]
     rw [e]
     exact Qf hr (Or.inl rfl) (Or.inl rfl) (FK _) (FK _) (Nat.le_trans (Nat.min_le_left _ _) (K5 _)),hR _ (n+1) hs' hd' ch' (λj hj=>(g1 j hj).trans (kp1 j hj)) g2 g3 (Nat.le_refl _)⟩)))
theorem VC (Fn:Av K "law" "law" FH f fd)  (kv:Am P w K mg base 1 "_law_cell_at" (AA JF)) (jg:Am P w K mg base 1 "_law_next" (AA Hr)) (ko:Am P w K mg base 2 "_law_seed" (AA Ny)) (kn:Am P w K mg base 13 "_law_hand" (JB ⟨CK2,CK14,CK11,CK10,CK12,CK1⟩)) (zy:Am P w K mg base 14 "_law_hands" (NL ⟨CK2,CK14,CK11,CK10,CK12,CK1⟩)) (zz:Am P w K mg base 9 "_law_odd" (NB ⟨CK2,CK14,CK11,CK10,CK12,CK1⟩ CK4 CK0)) (za:Am P w K mg base 13 "_law_made" (NF ⟨CK2,CK14,CK11,CK10,CK12,CK1⟩ CK4 CK0)) (ya:Am P w K mg base 16 "_law_heard" (NJ ⟨CK2,CK14,CK11,CK10,CK12,CK1⟩)) (jr:F4 P w K mg base CK12 10 "Tier" (Gm ⟨CK2,CK14,CK11,CK10,CK12,CK1⟩ CK4 CK0 CK7)):AC P w K mg base AO 19 f fd ["_law_script"] (AR K Gj):=by
 refine Bu (k:=18) Fn Df (λds O R h=>?_) (λcdv A outer s H E ds O R hr h=>?_)
 ·obtain ⟨_,rfl,_⟩:=h; rfl
 ·obtain ⟨ns,rfl,hl,hR⟩:=h
  refine Ja ?_
  refine Ac (AL 1 (Ad.ev (AF ko (hr.mono wE) (Ab (Aa 0) (Ab Ag Af)) ⟨_,_,rfl,by first | assumption | omega,rfl⟩) ?_) Df.nd)
  generalize Gp (EH ns 0) 0=x
  refine Ac (AL 2 (Ad.ev (An Ag (An (Aa 1) Ag (BE wC)) Bq) ?_) Df.nd)
  refine Ac (AL 3 (Ad.ev (An Ag (An (An (Aa 1) Ag (CP ⟨wC,wC⟩)) Ag (BE wC)) Bq) ?_) Df.nd)
  obtain ⟨m,em,hm1,hm6⟩:∃ m:Nat,1+x%6=(m:Nat)/\1<=m/\m<=6:=⟨(1+x%6).toNat,by omega,by omega,by omega⟩
  rw [em]
  have hm:1<=m/\m<=24:=⟨hm1,by omega⟩
  have hs:1<=1+x/6%10/\1+x/6%10<=10:=by omega
  generalize 1+x/6%10=s at hs
  refine Ac (Jc (BU zy (hr.mono wE) (Ab (Aa 2) (Ab (Aa 3) (Ab (AF ko (hr.mono wE) (Ab (Aa 0) (Ab Ag Af)) ⟨_,_,rfl,by first | assumption | omega,rfl⟩) Af))) ⟨m,s,_,rfl,NX _ _,hm,hs,λO1 pv hup hP hpl=>⟨_,A2 4 Df.nd,?_⟩⟩))
  refine Ac (AL 5 (BU kn (hr.mono wE) (Ab (AT T.vh (Ab (Aa 4) Af) (Cd (by first | exact Or.inr rfl | exact Or.inl (Or.inl rfl) | exact Or.inl (Or.inr (Or.inl rfl)) | exact Or.inl (Or.inr (Or.inr ⟨_,rfl,by first | assumption | rfl⟩))))) (Ab (Aa 3) (Ab (AF ko (hr.mono wE) (Ab (Aa 0) (Ab Ag Af)) ⟨_,_,rfl,by first | assumption | omega,rfl⟩) Af))) ⟨pv.length,s,_,by rw [List.length_map],⟨by omega,by omega⟩,hs,λhd hdk=>?_⟩) Df.nd)
  have hP2:BB ⟨CK2,CK14,CK11,CK10,CK12,CK1⟩ (O1++[some (Cs.o ⟨CK2,CK14,CK11,CK10,CK12,CK1⟩ (pv.length:Nat) s hd)]) m s pv:=λz hz=>⟨BV (hP z hz).1,0,(hP z hz).2⟩
  have hD2:BB ⟨CK2,CK14,CK11,CK10,CK12,CK1⟩ (O1++[some (Cs.o ⟨CK2,CK14,CK11,CK10,CK12,CK1⟩ (pv.length:Nat) s hd)]) pv.length s [(O1.length,hd)]:=λz hz=>by rw [List.mem_singleton.mp hz]; exact ⟨AU,0,hdk⟩
  have hup2:=Rj (Z:=[some (Cs.o ⟨CK2,CK14,CK11,CK10,CK12,CK1⟩ (pv.length:Nat) s hd)]) hup
  have hlt:∀ z∈pv,z.1<O1.length:=λz hz=>(List.getElem?_eq_some_iff.mp (hP z hz).1).1
  have hO2l:(O1++[some (Cs.o ⟨CK2,CK14,CK11,CK10,CK12,CK1⟩ (pv.length:Nat) s hd)]).length=O1.length+1:=by rw [List.length_append]; rfl
  generalize O1++[some (Cs.o ⟨CK2,CK14,CK11,CK10,CK12,CK1⟩ (pv.length:Nat) s hd)]=O2 at hP2 hD2 hup2 hO2l
  refine Ac (AL 6 (B2 jr.ok (hr.mono wE) (Ab (Aa 4) (Ab (Aa 5) Af)) (.inl ⟨O2.length,m,s,pv,O1.length,hd,O2,rfl,rfl,rfl,hP2,hD2,hm,hs,⟨hpl.1,by omega⟩,rfl,?_⟩)) Df.nd)
  have hho:∀ v∈pv.map (·.2),BW 0 m s v:=λv hv=>by
   obtain ⟨z,hz,rfl⟩:=List.mem_map.mp hv
   exact (hP z hz).2
  have hpl2:(pv.map (·.2)).length=pv.length:=List.length_map ..
  have hT0:=WY (C:=⟨CK2,CK14,CK11,CK10,CK12,CK1⟩) (O:=O2) (Y:=[]) (m:=m) (s:=s) (hs:=pv.map (·.2)) (hd:=hd)
  rw [List.append_nil] at hT0
  have hK0:B6 0 m s ((pv.map (·.2)).map (C0 m)) (C0 (pv.map (·.2)).length hd) (List.replicate (pv.map (·.2)).length 0):=B6.anew (n:=0) (ch:=List.replicate (pv.map (·.2)).length 0) ⟨hho,by rw [hpl2]; exact hdk,by omega,by omega,List.length_replicate⟩
  have kp0:D1 O2.length O2 (O2++Ff ⟨CK2,CK14,CK11,CK10,CK12,CK1⟩ m s O2.length (pv.map (·.2)) hd):=λj hj=>List.getElem?_append_left hj
  have hOQ:O.length<=O2.length:=by
   obtain ⟨Y,rfl⟩:=hup2
   rw [List.length_append]; omega
  obtain ⟨Q,hQ⟩:∃ Q,Q=O2.length:=⟨_,rfl⟩
  rw [<- hQ] at hT0 kp0 hOQ hO2l ⊢
  have mv:∀ O',D1 Q O2 O'->BB ⟨CK2,CK14,CK11,CK10,CK12,CK1⟩ O' m s pv/\BB ⟨CK2,CK14,CK11,CK10,CK12,CK1⟩ O' pv.length s [(O1.length,hd)]:=λO' hk=>⟨λz hz=>⟨by rw [hk z.1 (by have:=hlt z hz; omega)]; exact (hP2 z hz).1,(hP2 z hz).2⟩,λz hz=>⟨by rw [hk z.1 (by rw [List.mem_singleton.mp hz]; show O1.length<Q; omega)]; exact (hD2 z hz).1,(hD2 z hz).2⟩⟩
  have hE:∃ e:Int,(if 15<(if (7:Int)>(((ns.map D.int).length:Nat):Int) then 7 else (((ns.map D.int).length:Nat):Int)) then 15 else (if (7:Int)>(((ns.map D.int).length:Nat):Int) then 7 else (((ns.map D.int).length:Nat):Int)))=e/\0<=e/\e<=15:=⟨_,rfl,by (repeat' split) <;> omega,by (repeat' split) <;> omega⟩
  obtain ⟨e,hE,he0,he1⟩:=hE
  refine Ac (Fz (xs:=Ea 3 (e-3).toNat) (by rw [<- hE]; exact (Za Ag (AT T.xg (Ab (AT T.xh (Ab (AT T.vh (Ab (Aa 0) Af) (Cd (by first | exact Or.inr rfl | exact Or.inl (Or.inl rfl) | exact Or.inl (Or.inr (Or.inl rfl)) | exact Or.inl (Or.inr (Or.inr ⟨_,rfl,by first | assumption | rfl⟩))))) (Ab Ag Af)) ZS) (Ab Ag Af)) ZR) T.vq wC wC (by rw [hE]; omega) (by rw [hE]; omega))) (λi ρ O'=>(∃ v7 v8 v9 v10 v11:Option D,ρ=[some (.scr (ns.map D.int)),some (.int x),some (.int (m:Nat)),some (.int s),some (.tup (pv.map λz=>D.ptr z.1)),some (.ptr O1.length),some (.ptr Q),v7,v8,v9,v10,v11])/\D1 Q O2 O'/\∃ k hs' hd' ch',BO ⟨CK2,CK14,CK11,CK10,CK12,CK1⟩ O' Q m s hs' hd' ch'/\B6 k m s hs' hd' ch'/\k<=i) ⟨⟨_,_,_,_,_,rfl⟩,kp0,0,_,_,_,hT0,hK0,Nat.le_refl _⟩ ?_ ?_)
  ·rintro i z ρ O' hz ⟨⟨v7,v8,v9,v10,v11,rfl⟩,hkp,k,hs',hd',ch',hT,hTk,hki⟩
   obtain ⟨hi,rfl⟩:=Om hz
   refine ⟨_,A2 7 Df.nd,?_⟩
   refine Ac (AL 8 (Ad.ev (AF ko (hr.mono wE) (Ab (Aa 0) (Ab (Aa 7) Af)) ⟨_,_,rfl,⟨by omega,by omega⟩,rfl⟩) ?_) Df.nd)
   have hy:=NX (EH ns (3+(i:Nat))) (3+(i:Nat))
   generalize Gp (EH ns (3+(i:Nat))) (3+(i:Nat))=y at hy
   have hy':0<=y/\y<3000000000:=by have:=hy.1; have:=hy.2; omega
   obtain ⟨hPi,hDi⟩:=mv O' hkp
   refine Ac (Jc (BU zz (hr.mono wE) (Ab (Aa 4) (Ab (Aa 5) (Ab (Aa 8) Af))) ⟨m,s,y,pv,O1.length,hd,rfl,hPi,hDi,⟨hm1,hm6⟩,hs,hpl,λO3 d d2 b hup3 hV=>⟨_,EB (B7 (A2 9 Df.nd) (B7 (A2 10 Df.nd) (B7 (A2 11 Df.nd) EA))),?_⟩⟩))
   obtain ⟨Y3,rfl⟩:=hup3
   have hT3:BO ⟨CK2,CK14,CK11,CK10,CK12,CK1⟩ (O'++Y3) Q m s hs' hd' ch':=hT.app
   have hkp3:D1 Q O2 (O'++Y3):=λj hj=>by
    rw [List.getElem?_append_left (by have:=(List.getElem?_eq_some_iff.mp hT.o).1; omega)]; exact hkp j hj
   generalize O'++Y3=O3 at hT3 hkp3 hV
   refine Ac (MQ (R:=λkk O4=>kk=false/\D1 Q O3 O4/\∃ k' hs' hd' ch',BO ⟨CK2,CK14,CK11,CK10,CK12,CK1⟩ O4 Q m s hs' hd' ch'/\B6 k' m s hs' hd' ch'/\k'<=i+1)
    (YT (AH.cast (k':=false) (AJ (Ev.evp (BU za (hr.mono wE) (Ab (Aa 9) (Ab (Aa 10) Af)) ⟨d,d2,b,rfl,hV,rfl,rfl⟩)) (Dz (Da (Ab A7 (Ab A7 Af))) (by first | exact Or.inl rfl | exact Or.inr (Or.inl rfl) | exact Or.inr (Or.inr ⟨_,rfl,by first | assumption | rfl⟩)) (Cj T.vv (Ab (Aa 11) Af) Mi) (TN b)) Zv) (by cases b <;> decide +kernel))
     (YU (YX (BU ya (hr.mono wE) (Ab (Aa 6) (Ab (AF jg (hr.mono wE) (Ab (Aa 8) Af) ⟨_,rfl,hy',rfl⟩) Af)) ⟨Q,k,m,s,_,hs',hd',ch',rfl,hT3,hTk,by omega,hm,hs,λO4 k' hs2 hd2 ch2 g1 g2 g3 g4=>⟨true,rfl,rfl,g1,k',hs2,hd2,ch2,g2,g3,by omega⟩⟩))))
    (λkk O4 ⟨ek,g1,g2⟩=>⟨(λz=>by rw [ek] at z; cases z),λ_=>Aw (Aw ⟨⟨_,_,_,_,_,rfl⟩,λj hj=>(g1 j hj).trans (hkp3 j hj),g2⟩)⟩))
  ·rintro ρ O' ⟨⟨v7,v8,v9,v10,v11,rfl⟩,hkp,k,hs',hd',ch',hT,hTk,hki⟩
   obtain ⟨hPi,hDi⟩:=mv O' hkp
   refine Ac (Ay (Ad.ev (Ad.cast (d':=.bl true) (BG (Ev.evp (BU za (hr.mono wE) (Ab (Aa 4) (Ab (Aa 5) Af)) ⟨_,_,true,rfl,.inl ⟨rfl,m,s,pv,O1.length,hd,rfl,rfl,hPi,hDi,hm,hs,⟨hpl.1,by omega⟩⟩,rfl,rfl⟩)) A7 Zy) (congrArg D.bl wD)) ?_))
   exact ⟨Xs hkp hup2 hOQ,rfl,hR⟩
end
theorem O5 {α:Type} {us:List α} (h:us.length=1):∃ x0,us=[x0]:=by
 match us,h with
 | [x0],_=>exact ⟨_,rfl⟩
theorem HY {α:Type} {us:List α} (h:us.length=2):∃ x0 x1,us=[x0,x1]:=by
 match us,h with
 | [x0,x1],_=>exact ⟨_,_,rfl⟩
theorem GG {α:Type} {us:List α} (h:us.length=3):∃ x0 x1 x2,us=[x0,x1,x2]:=by
 match us,h with
 | [x0,x1,x2],_=>exact ⟨_,_,_,rfl⟩
theorem LC {α:Type} {us:List α} (h:us.length=4):∃ x0 x1 x2 x3,us=[x0,x1,x2,x3]:=by
 match us,h with
 | [x0,x1,x2,x3],_=>exact ⟨_,_,_,_,rfl⟩
theorem OZ {α:Type} {us:List α} (h:us.length=5):∃ x0 x1 x2 x3 x4,us=[x0,x1,x2,x3,x4]:=by
 match us,h with
 | [x0,x1,x2,x3,x4],_=>exact ⟨_,_,_,_,_,rfl⟩
theorem Xo {α:Type} {us:List α} (h:us.length=7):∃ x0 x1 x2 x3 x4 x5 x6,us=[x0,x1,x2,x3,x4,x5,x6]:=by
 match us,h with
 | [x0,x1,x2,x3,x4,x5,x6],_=>exact ⟨_,_,_,_,_,_,_,rfl⟩
def FD (K:PySem.W.Frag) (x:Str) (st:Stmt) (f:Addr):Prop:=PySem.W.nsIn K mainGlobals x=some (some (.ref f))/\∃ fd,Av K x x st f fd
def FM (K:PySem.W.Frag) (C:Addr) (x q:Str) (st:Stmt) (f:Addr):Prop:=PySem.W.findIn K (.ref C) x=some (some (.ref f))/\PySem.W.isFn K (.ref f)=true/\∃ fd,Av K x q st f fd
section
variable {K:PySem.W.Frag} {C:Addr} {x q:Str} {st:Stmt} {f:Addr} {oc:Value} {od an:Option Addr} {osl:Array (Option Value)} {kV doc pm cdv ct:Value}
theorem fd_mk (a:PySem.W.nsIn K mainGlobals x=some (some (.ref f))) (l:K.lookup f=some ⟨oc,od,.func (PySem.W.fnOf x x (CY st) (BR st) (Ak st) .none kV doc pm an cdv ct),osl⟩) (c:PySem.W.codeIn K cdv x=true) (k:PySem.W.keepIn K (.ref f)=true):FD K x st f:=⟨a,_,LU l c k⟩
theorem fm_mk (a:PySem.W.findIn K (.ref C) x=some (some (.ref f))) (i:PySem.W.isFn K (.ref f)=true) (l:K.lookup f=some ⟨oc,od,.func (PySem.W.fnOf x q (CY st) (BR st) (Ak st) .none kV doc pm an cdv ct),osl⟩) (c:PySem.W.codeIn K cdv q=true) (k:PySem.W.keepIn K (.ref f)=true):FM K C x q st f:=⟨a,i,_,LU l c k⟩
end
section
variable {P:Program} {w:World} {K:PySem.W.Frag} {mg:Str->Option Value} {base:Heap} {x q:Str} {st:Stmt} {f:Addr} {fd:FuncData} {ps:List Str} {k:Nat} {sp:AE}
theorem AD (E:Av K x q st f fd) (h:∀ (kV doc pm:Value) (an:Option Addr) (cdv ct:Value) (us:List Value),us.length=ps.length->bindArgs (PySem.W.fnOf x q (CY st) (BR st) (Ak st) .none kV doc pm an cdv ct) ⟨us,[]⟩=pure (ps.zip us):=by intro _ _ _ _ _ _ us hl; first | (obtain ⟨_,rfl⟩:=O5 hl; rfl) | (obtain ⟨_,_,rfl⟩:=HY hl; rfl) | (obtain ⟨_,_,_,rfl⟩:=GG hl; rfl) | (obtain ⟨_,_,_,_,rfl⟩:=LC hl; rfl) | (obtain ⟨_,_,_,_,_,rfl⟩:=OZ hl; rfl) | (obtain ⟨_,_,_,_,_,_,_,rfl⟩:=Xo hl; rfl)):L2.Binds K fd ps []:=E.binds h
theorem BF {C:Addr} (W:AC P w K mg base AO k f fd ps (AR K sp)) (a:PySem.W.findIn K (.ref C) x=some (some (.ref f))) (i:PySem.W.isFn K (.ref f)=true) (E:PySem.W.keepIn K (.ref f)=true) (b:L2.Binds K fd ps []) (c:Bn K C):AI P w K mg base C k x sp:=⟨⟨_,_,_,W,⟨a,i,E⟩,b⟩,c⟩
theorem FU {C:Addr} (W:AC P w K mg base AO k f fd ps (AR K sp)) (m:PySem.W.makesIn K C=true) (a:PySem.W.findIn K (.ref C) "__init__" = some (some (.ref f))) (i:PySem.W.isFn K (.ref f)=true) (E:PySem.W.keepIn K (.ref C)=true) (b:L2.Binds K fd ps []) (t:mg x=some (.ref C)):Cn P w K mg base C k x sp:=⟨⟨_,_,_,W,⟨m,a,i,E⟩,b⟩,t⟩
end
def NZ (K:PySem.W.Frag) (x:Str):Prop:=PySem.W.nsIn K mainGlobals x=some none
def CB (K:PySem.W.Frag) (C:Addr):Prop:=PySem.W.plainGet K C Str.empty=true/\PySem.W.hasDictIn K C=true/\PySem.W.plainOver K C=true/\PySem.W.findIn K (.ref C) "__setattr__" = some (some (.builtin "object.__setattr__"))/\PySem.W.findIn K (.ref C) "__class__" = some (some (.builtin "object.__class__"))/\PySem.W.mroIn K C (.type "object")=some true
theorem CB.ty {K:PySem.W.Frag} {C:Addr} (h:CB K C) (gn:PySem.W.specialIn K (.builtin "object.__class__") "__get__" = some (some (.builtin "getset_descriptor.__get__"))) (gt:PySem.W.takesIn K (.builtin "object.__class__")=some true):Br K C:=⟨⟨h.1,h.2.1,h.2.2.1,h.2.2.2.1⟩,h.2.2.2.2.1,gn,gt,h.2.2.2.2.2⟩
theorem all_mk {l:PySem.W.OpenLaw} {w:World} {K:PySem.W.Frag} {h:Heap} {mg:Str->Option Value} {fa:Addr} (X:K.In h) (G:h.Ns mainGlobals mg) (hfa:mg "law" = some (.ref fa)) {f1 f2 f3 f4 f5 f6 f7 f8 f9 f10 f11 f12 f13 f14 f15 f16 f17 f18 f19 f20 f21 f22 f23 f24 f25 f26 f27 f28 f29 f30 f31 f32 f33 f34 f35 f36 f37 f38 f39 f40 f41 f43 f44 f45 f46 f47 f48 f49 f50 f51 f52 f53 f54 f55 f56 f57 f58 f59 f60 f61 f62 f63 f64 f65 f66 f67 f68 f69 f70:Addr} {f0 f42:Addr} {od0 an0 od42 an42:Option Addr} {sl0 sl42:Array (Option Value)} {oc0 kV0 dc0 pm0 cd0 ct0 oc42 kV42 dc42 pm42 cd42 ct42:Value} {CK2 CK14 CK11 CK10 CK1 CK12 CK4 CK0 CK3 CK8 CK7 CK6 CK9 CK5 CK13:Addr} {tk0:Tok} {tk1:Tok} {tk2:Tok} {tk3:Tok} {tk4:Tok} {T42:Addr} {cT42:Value} {dT42:Option Addr} {nT42:Nat} {sT42:Array (Option Value)} {nm_NoTurn qn_NoTurn:Str} {N_NoTurn:Addr} {bs_NoTurn sub_NoTurn:List Value} {sn_NoTurn:List Str} {ab_NoTurn:Bool} {col_NoTurn:Option Bool} {dd_NoTurn:Option Addr} {ka_NoTurn kb_NoTurn kc_NoTurn kd_NoTurn ke_NoTurn:Option Value}
  (aC0:PySem.W.nsIn K mainGlobals "Hand" = some (some (.ref CK2)))
  (aC1:PySem.W.nsIn K mainGlobals "Weigher" = some (some (.ref CK14)))
  (aC2:PySem.W.nsIn K mainGlobals "Shifter" = some (some (.ref CK11)))
  (aC3:PySem.W.nsIn K mainGlobals "Rounder" = some (some (.ref CK10)))
  (aC4:PySem.W.nsIn K mainGlobals "Follower" = some (some (.ref CK1)))
  (aC5:PySem.W.nsIn K mainGlobals "Tier" = some (some (.ref CK12)))
  (aC6:PySem.W.nsIn K mainGlobals "Meaner" = some (some (.ref CK4)))
  (aC7:PySem.W.nsIn K mainGlobals "Book" = some (some (.ref CK0)))
  (aE_HeedError:PySem.W.nsIn K mainGlobals "HeedError" = some (some (.ref CK3)))
  (aE_NoTurn:PySem.W.nsIn K mainGlobals "NoTurn" = some (some (.ref CK8)))
  (aE_NoRule:PySem.W.nsIn K mainGlobals "NoRule" = some (some (.ref CK7)))
  (aE_NoRow:PySem.W.nsIn K mainGlobals "NoRow" = some (some (.ref CK6)))
  (aE_NoWay:PySem.W.nsIn K mainGlobals "NoWay" = some (some (.ref CK9)))
  (aE_NoName:PySem.W.nsIn K mainGlobals "NoName" = some (some (.ref CK5)))
  (aE_Twice:PySem.W.nsIn K mainGlobals "Twice" = some (some (.ref CK13)))
  (a0:PySem.W.findIn K (.ref CK8) "__init__" = some (some (.ref f0)))
  (i0:PySem.W.isFn K (.ref f0)=true)
  (l0:K.lookup f0=some ⟨oc0,od0,.func (PySem.W.fnOf "__init__" "NoTurn.__init__" (CY FI) (BR FI) (Ak FI) .none kV0 dc0 pm0 an0 cd0 ct0),sl0⟩)
  (c0:PySem.W.codeIn K cd0 "NoTurn.__init__" = true)
  (k0:PySem.W.keepIn K (.ref f0)=true)
  (d1:FD K "is_whole" Ka f1)
  (d2:FD K "counted" Kg f2)
  (d3:FD K "middle" JX f3)
  (d4:FD K "check_within" Kh f4)
  (d5:FD K "check_scale" Km f5)
  (d6:FD K "check_making" Kr f6)
  (d7:FD K "check_fraction" Ks f7)
  (d8:FD K "check_share" Kl f8)
  (d9:FD K "is_on_scale" Kd f9)
  (d10:FD K "is_said" Kc f10)
  (d11:FD K "check_said" Ko f11)
  (d12:FD K "power" JV f12)
  (d13:FD K "charge" Kt f13)
  (d14:FD K "is_turn" Kb f14)
  (d15:FD K "check_turn" Kj f15)
  (d16:FD K "awake_in" Ku f16)
  (d17:FD K "middle_awake" JW f17)
  (d18:FD K "times_awake" JR f18)
  (d19:FD K "times_asleep" JS f19)
  (d20:FD K "times" JT f20)
  (d21:FD K "check_push" Kq f21)
  (d22:FD K "push_of" JU f22)
  (d23:FD K "first_least" Kf f23)
  (d24:FM K CK2 "__init__" "Hand.__init__" KY f24)
  (d25:FM K CK2 "heeded" "Hand.heeded" KT f25)
  (d26:FM K CK14 "heeded" "Weigher.heeded" Kx f26)
  (d27:FM K CK10 "heeded" "Rounder.heeded" KM f27)
  (d28:FM K CK2 "say" "Hand.say" KS f28)
  (d29:FM K CK2 "hear" "Hand.hear" KU f29)
  (d30:FM K CK2 "anew" "Hand.anew" KW f30)
  (d31:FM K CK10 "__init__" "Rounder.__init__" KP f31)
  (d32:FM K CK10 "hear" "Rounder.hear" KN f32)
  (d33:FM K CK10 "anew" "Rounder.anew" KO f33)
  (d34:FM K CK14 "__init__" "Weigher.__init__" KA f34)
  (d35:FM K CK11 "__init__" "Shifter.__init__" KL f35)
  (d36:FM K CK14 "weigh" "Weigher.weigh" Kw f36)
  (d37:FM K CK11 "deal" "Shifter.deal" KJ f37)
  (d38:FM K CK14 "hear" "Weigher.hear" Ky f38)
  (d39:FM K CK11 "hear" "Shifter.hear" KI f39)
  (d40:FM K CK14 "anew" "Weigher.anew" Kz f40)
  (d41:FM K CK11 "anew" "Shifter.anew" KK f41)
  (a42:PySem.W.findIn K (.ref CK1) "__init__" = some (some (.ref f42)))
  (i42:PySem.W.isFn K (.ref f42)=true)
  (l42:K.lookup f42=some ⟨oc42,od42,.func (PySem.W.fnOf "__init__" "Follower.__init__" (CY FJ) (BR FJ) (Ak FJ) (.ref T42) kV42 dc42 pm42 an42 cd42 ct42),sl42⟩)
  (t42:K.lookup T42=some ⟨cT42,dT42,.seq #[.none] nT42,sT42⟩)
  (c42:PySem.W.codeIn K cd42 "Follower.__init__" = true)
  (k42:PySem.W.keepIn K (.ref f42)=true)
  (d43:FM K CK1 "say" "Follower.say" KZ f43)
  (d44:FM K CK1 "hear" "Follower.hear" K0 f44)
  (d45:FM K CK1 "anew" "Follower.anew" K1 f45)
  (d46:FD K "check_said" Kn f46)
  (d47:FD K "check_turn" Ki f47)
  (d48:FM K CK4 "__init__" "Meaner.__init__" KR f48)
  (d49:FM K CK0 "__init__" "Book.__init__" K2 f49)
  (d50:FD K "are_alike" Kv f50)
  (d51:FD K "is_head" Ke f51)
  (d52:FD K "check_tier" Kk f52)
  (d53:FM K CK12 "__init__" "Tier.__init__" KH f53)
  (d54:FM K CK12 "hand_charges" "Tier.hand_charges" KD f54)
  (d55:FM K CK12 "ask" "Tier.ask" KG f55)
  (d56:FM K CK12 "say" "Tier.say" KB f56)
  (d57:FM K CK12 "hear" "Tier.hear" KC f57)
  (d58:FD K "_law_cell_at" J7 f58)
  (d59:FD K "_law_next" J2 f59)
  (d60:FD K "_law_seed" J0 f60)
  (d61:FD K "_law_hand" J6 f61)
  (d62:FD K "_law_hands" J5 f62)
  (d63:FD K "_law_which" JY f63)
  (d64:FD K "_law_made" J3 f64)
  (d65:FD K "_law_odd" J1 f65)
  (d66:FD K "_law_asked" J8 f66)
  (d67:FD K "_law_asked" J9 f67)
  (d68:FD K "_law_turn" JZ f68)
  (d69:FD K "_law_heard" J4 f69)
  (d70:FD K "law" FH f70)
  (cb0:CB K CK2)
  (n0_many:Ao K CK2 "many")
  (n0_scale:Ao K CK2 "scale")
  (q0_Hand:PySem.W.kitOne K (.ref CK2) (.ref CK2)=some true)
  (q0_tuple:PySem.W.kitOne K (.ref CK2) (.type "tuple")=some false)
  (mk0:PySem.W.makesIn K CK2=true)
  (kc0:PySem.W.keepIn K (.ref CK2)=true)
  (so0___init__:PySem.W.specialIn K (.ref CK2) "__getattribute__" = some (some (.builtin "type.__getattribute__")))
  (rd0___init__:PySem.W.readsIn K CK2 (.type "type")=true)
  (fc0___init__:PySem.W.findCls K (.ref CK2) (.type "type") "__init__" = some (.val (.ref f24)))
  (cb1:CB K CK14)
  (n1_many:Ao K CK14 "many")
  (n1_scale:Ao K CK14 "scale")
  (n1_top:Ao K CK14 "top")
  (n1_bottom:Ao K CK14 "bottom")
  (n1_tops:Ao K CK14 "tops")
  (n1_under:Ao K CK14 "under")
  (q1_Hand:PySem.W.kitOne K (.ref CK14) (.ref CK2)=some true)
  (q1_tuple:PySem.W.kitOne K (.ref CK14) (.type "tuple")=some false)
  (mk1:PySem.W.makesIn K CK14=true)
  (kc1:PySem.W.keepIn K (.ref CK14)=true)
  (e1_say:PySem.W.findIn K (.ref CK14) "say" = some (some (.ref f28)))
  (so1___init__:PySem.W.specialIn K (.ref CK14) "__getattribute__" = some (some (.builtin "type.__getattribute__")))
  (rd1___init__:PySem.W.readsIn K CK14 (.type "type")=true)
  (fc1___init__:PySem.W.findCls K (.ref CK14) (.type "type") "__init__" = some (.val (.ref f34)))
  (cb2:CB K CK11)
  (n2_many:Ao K CK11 "many")
  (n2_scale:Ao K CK11 "scale")
  (n2_top:Ao K CK11 "top")
  (n2_bottom:Ao K CK11 "bottom")
  (n2_tops:Ao K CK11 "tops")
  (n2_under:Ao K CK11 "under")
  (n2_share:Ao K CK11 "share")
  (n2_parts:Ao K CK11 "parts")
  (q2_Hand:PySem.W.kitOne K (.ref CK11) (.ref CK2)=some true)
  (q2_tuple:PySem.W.kitOne K (.ref CK11) (.type "tuple")=some false)
  (mk2:PySem.W.makesIn K CK11=true)
  (kc2:PySem.W.keepIn K (.ref CK11)=true)
  (e2_heeded:PySem.W.findIn K (.ref CK11) "heeded" = some (some (.ref f26)))
  (e2_say:PySem.W.findIn K (.ref CK11) "say" = some (some (.ref f28)))
  (e2_weigh:PySem.W.findIn K (.ref CK11) "weigh" = some (some (.ref f36)))
  (cb3:CB K CK10)
  (n3_many:Ao K CK10 "many")
  (n3_scale:Ao K CK10 "scale")
  (n3_inside:Ao K CK10 "inside")
  (n3_over:Ao K CK10 "over")
  (q3_Hand:PySem.W.kitOne K (.ref CK10) (.ref CK2)=some true)
  (q3_tuple:PySem.W.kitOne K (.ref CK10) (.type "tuple")=some false)
  (mk3:PySem.W.makesIn K CK10=true)
  (kc3:PySem.W.keepIn K (.ref CK10)=true)
  (e3_say:PySem.W.findIn K (.ref CK10) "say" = some (some (.ref f28)))
  (cb4:CB K CK1)
  (n4_many:Ao K CK1 "many")
  (n4_scale:Ao K CK1 "scale")
  (n4_push:Ao K CK1 "push")
  (n4_reached:Ao K CK1 "reached")
  (q4_Hand:PySem.W.kitOne K (.ref CK1) (.ref CK2)=some true)
  (q4_tuple:PySem.W.kitOne K (.ref CK1) (.type "tuple")=some false)
  (mk4:PySem.W.makesIn K CK1=true)
  (kc4:PySem.W.keepIn K (.ref CK1)=true)
  (cb5:CB K CK12)
  (n5_many:Ao K CK12 "many")
  (n5_scale:Ao K CK12 "scale")
  (n5_hands:Ao K CK12 "hands")
  (n5_head:Ao K CK12 "head")
  (n5_charged:Ao K CK12 "charged")
  (q5_Hand:PySem.W.kitOne K (.ref CK12) (.ref CK2)=some true)
  (mk5:PySem.W.makesIn K CK12=true)
  (kc5:PySem.W.keepIn K (.ref CK12)=true)
  (cb6:CB K CK4)
  (n6_many:Ao K CK4 "many")
  (n6_scale:Ao K CK4 "scale")
  (n6_top:Ao K CK4 "top")
  (n6_bottom:Ao K CK4 "bottom")
  (n6_tops:Ao K CK4 "tops")
  (n6_under:Ao K CK4 "under")
  (q6_Hand:PySem.W.kitOne K (.ref CK4) (.ref CK2)=some false)
  (mk6:PySem.W.makesIn K CK4=true)
  (kc6:PySem.W.keepIn K (.ref CK4)=true)
  (cb7:CB K CK0)
  (n7_scale:Ao K CK0 "scale")
  (n7_top:Ao K CK0 "top")
  (n7_bottom:Ao K CK0 "bottom")
  (n7_tops:Ao K CK0 "tops")
  (n7_under:Ao K CK0 "under")
  (n7_came:Ao K CK0 "came")
  (q7_Hand:PySem.W.kitOne K (.ref CK0) (.ref CK2)=some false)
  (mk7:PySem.W.makesIn K CK0=true)
  (kc7:PySem.W.keepIn K (.ref CK0)=true)
  (Tga_NoTurn:PySem.W.findIn K (.ref CK8) "__getattribute__" = some (some (.builtin "BaseException.__getattribute__")))
  (Thk_NoTurn:PySem.W.findIn K (.ref CK8) "__getattr__" = some none)
  (Tmb_NoTurn:PySem.W.mroIn K CK8 (.type "BaseException")=some true)
  (Tmo_NoTurn:PySem.W.mroIn K CK8 (.type "object")=some true)
  (Tca_NoTurn:PySem.W.findIn K (.ref CK8) "__class__" = some (some (.builtin "object.__class__")))
  (Thd_NoTurn:PySem.W.hasDictIn K CK8=true)
  (Ll_NoTurn:K.lookup CK8=some (excClassObj nm_NoTurn qn_NoTurn CK8 N_NoTurn bs_NoTurn (.ref CK3::CO) true sn_NoTurn sub_NoTurn ab_NoTurn col_NoTurn dd_NoTurn ka_NoTurn kb_NoTurn kc_NoTurn kd_NoTurn ke_NoTurn "ValueError.__new__"))
  (Tsa_NoTurn:PySem.W.findIn K (.ref CK8) "__setattr__" = some (some (.builtin "object.__setattr__")))
  (Tkp_NoTurn:PySem.W.keepIn K (.ref CK8)=true)
  (Tga_NoRule:PySem.W.findIn K (.ref CK7) "__getattribute__" = some (some (.builtin "BaseException.__getattribute__")))
  (Thk_NoRule:PySem.W.findIn K (.ref CK7) "__getattr__" = some none)
  (Tmb_NoRule:PySem.W.mroIn K CK7 (.type "BaseException")=some true)
  (Tmo_NoRule:PySem.W.mroIn K CK7 (.type "object")=some true)
  (Tca_NoRule:PySem.W.findIn K (.ref CK7) "__class__" = some (some (.builtin "object.__class__")))
  (Thd_NoRule:PySem.W.hasDictIn K CK7=true)
  (Ee_HeedError:PySem.W.excIn K CK3 CO "ValueError.__new__" = true)
  (En_NoTurn_number:PySem.W.findIn K (.ref CK8) "number" = some none)
  (Ex_NoTurn_HeedError:PySem.W.exmOne K (.ref CK8) (.ref CK3)=some true)
  (Ei_NoTurn_ValueError:PySem.W.kitOne K (.ref CK8) (.type "ValueError")=some true)
  (Ei_NoTurn_NoTurn:PySem.W.kitOne K (.ref CK8) (.ref CK8)=some true)
  (Ei_NoTurn_NoRow:PySem.W.kitOne K (.ref CK8) (.ref CK6)=some false)
  (Ei_NoTurn_NoRule:PySem.W.kitOne K (.ref CK8) (.ref CK7)=some false)
  (Ei_NoTurn_NoWay:PySem.W.kitOne K (.ref CK8) (.ref CK9)=some false)
  (Ei_NoTurn_NoName:PySem.W.kitOne K (.ref CK8) (.ref CK5)=some false)
  (Ei_NoTurn_Twice:PySem.W.kitOne K (.ref CK8) (.ref CK13)=some false)
  (Ee_NoRule:PySem.W.excIn K CK7 CO "ValueError.__new__" = true)
  (Ex_NoRule_HeedError:PySem.W.exmOne K (.ref CK7) (.ref CK3)=some true)
  (Ei_NoRule_ValueError:PySem.W.kitOne K (.ref CK7) (.type "ValueError")=some true)
  (Ei_NoRule_NoTurn:PySem.W.kitOne K (.ref CK7) (.ref CK8)=some false)
  (Ei_NoRule_NoRow:PySem.W.kitOne K (.ref CK7) (.ref CK6)=some false)
  (Ei_NoRule_NoRule:PySem.W.kitOne K (.ref CK7) (.ref CK7)=some true)
  (Ei_NoRule_NoWay:PySem.W.kitOne K (.ref CK7) (.ref CK9)=some false)
  (Ei_NoRule_NoName:PySem.W.kitOne K (.ref CK7) (.ref CK5)=some false)
  (Ei_NoRule_Twice:PySem.W.kitOne K (.ref CK7) (.ref CK13)=some false)
  (gn:PySem.W.specialIn K (.builtin "object.__class__") "__get__" = some (some (.builtin "getset_descriptor.__get__")))
  (gt:PySem.W.takesIn K (.builtin "object.__class__")=some true)
  (z0:NZ K "len")
  (z1:NZ K "tuple")
  (z2:NZ K "list")
  (z3:NZ K "sum")
  (z4:NZ K "zip")
  (z5:NZ K "sorted")
  (z6:NZ K "range")
  (z7:NZ K "isinstance")
  (z8:NZ K "int")
  (z9:NZ K "bool")
  (z10:NZ K "all")
  (z11:NZ K "any")
  (z12:NZ K "enumerate")
  (z13:NZ K "abs")
  (z14:NZ K "min")
  (z15:NZ K "max")
  (z16:NZ K "ValueError")
  (y0:PySem.W.nsIn K mainGlobals "MOST_ADVISERS" = some (some (.int 24 tk0)))
  (y1:PySem.W.nsIn K mainGlobals "MOST_SCALE" = some (some (.int 10 tk1)))
  (y2:PySem.W.nsIn K mainGlobals "MOST_BOTTOM" = some (some (.int 100 tk2)))
  (y3:PySem.W.nsIn K mainGlobals "MOST_PARTS" = some (some (.int 100 tk3)))
  (y4:PySem.W.nsIn K mainGlobals "MOST_FIGURES" = some (some (.int 60 tk4))) :
  ∃ fd:FuncData,(∀ (s:Shared) (v:Value),BindsTo s fd ⟨[v],[]⟩ [("_law_script",v)])/\∀ base:Heap,K.In base->base.Ns mainGlobals mg->AC l.prog w K mg base AO 19 fa fd ["_law_script"] (AR K Gj):=by
 obtain ⟨a70,_,E70⟩:=d70
 have e:=hfa.symm.trans (PySem.W.mg_of X G a70)
 cases e
 have T:Txt K mg CK2 CK14 CK11 CK10 CK1 CK12 CK4 CK0 CK3 CK8 CK7 CK6 CK9 CK5 CK13:=⟨PySem.W.mg_none_of X G z0,PySem.W.mg_none_of X G z1,PySem.W.mg_none_of X G z2,PySem.W.mg_none_of X G z3,PySem.W.mg_none_of X G z4,PySem.W.mg_none_of X G z5,PySem.W.mg_none_of X G z6,PySem.W.mg_none_of X G z7,PySem.W.mg_none_of X G z8,PySem.W.mg_none_of X G z9,PySem.W.mg_none_of X G z10,PySem.W.mg_none_of X G z11,PySem.W.mg_none_of X G z12,PySem.W.mg_none_of X G z13,PySem.W.mg_none_of X G z14,PySem.W.mg_none_of X G z15,PySem.W.mg_none_of X G z16,⟨_,PySem.W.mg_of X G y0⟩,⟨_,PySem.W.mg_of X G y1⟩,⟨_,PySem.W.mg_of X G y2⟩,⟨_,PySem.W.mg_of X G y3⟩,⟨_,PySem.W.mg_of X G y4⟩,cb0.ty gn gt,PySem.W.mg_of X G aC0,n0_many,n0_scale,q0_Hand,q0_tuple,cb1.ty gn gt,PySem.W.mg_of X G aC1,n1_many,n1_scale,n1_top,n1_bottom,n1_tops,n1_under,q1_Hand,q1_tuple,cb2.ty gn gt,PySem.W.mg_of X G aC2,n2_many,n2_scale,n2_top,n2_bottom,n2_tops,n2_under,n2_share,n2_parts,q2_Hand,q2_tuple,cb3.ty gn gt,PySem.W.mg_of X G aC3,n3_many,n3_scale,n3_inside,n3_over,q3_Hand,q3_tuple,cb4.ty gn gt,PySem.W.mg_of X G aC4,n4_many,n4_scale,n4_push,n4_reached,q4_Hand,q4_tuple,cb5.ty gn gt,PySem.W.mg_of X G aC5,n5_many,n5_scale,n5_hands,n5_head,n5_charged,q5_Hand,cb6.ty gn gt,PySem.W.mg_of X G aC6,n6_many,n6_scale,n6_top,n6_bottom,n6_tops,n6_under,q6_Hand,cb7.ty gn gt,PySem.W.mg_of X G aC7,n7_scale,n7_top,n7_bottom,n7_tops,n7_under,n7_came,q7_Hand,PySem.W.mg_of X G aE_HeedError,Ee_HeedError,PySem.W.mg_of X G aE_NoTurn,⟨Tga_NoTurn,Thk_NoTurn,Tmb_NoTurn,Tmo_NoTurn,Tca_NoTurn,gn,gt,Thd_NoTurn⟩,En_NoTurn_number,Ex_NoTurn_HeedError,Ei_NoTurn_ValueError,Ei_NoTurn_NoTurn,Ei_NoTurn_NoRow,Ei_NoTurn_NoRule,Ei_NoTurn_NoWay,Ei_NoTurn_NoName,Ei_NoTurn_Twice,PySem.W.mg_of X G aE_NoRule,Ee_NoRule,⟨Tga_NoRule,Thk_NoRule,Tmb_NoRule,Tmo_NoRule,Tca_NoRule,gn,gt,Thd_NoRule⟩,Ex_NoRule_HeedError,Ei_NoRule_ValueError,Ei_NoRule_NoTurn,Ei_NoRule_NoRow,Ei_NoRule_NoRule,Ei_NoRule_NoWay,Ei_NoRule_NoName,Ei_NoRule_Twice,PySem.W.mg_of X G aE_NoRow,PySem.W.mg_of X G aE_NoWay,PySem.W.mg_of X G aE_NoName,PySem.W.mg_of X G aE_Twice⟩
 have E0:=LU (st:=FI) l0 c0 k0
 have b0:=E0.binds (ps:=["self","number"]) λ_ _ _ _ _ _ us hl=>by obtain ⟨_,_,rfl⟩:=HY hl; rfl
 obtain ⟨a1,_,E1⟩:=d1
 obtain ⟨a2,_,E2⟩:=d2
 obtain ⟨a3,_,E3⟩:=d3
 obtain ⟨a4,_,E4⟩:=d4
 obtain ⟨a5,_,E5⟩:=d5
 obtain ⟨a6,_,E6⟩:=d6
 obtain ⟨a7,_,E7⟩:=d7
 obtain ⟨a8,_,E8⟩:=d8
 obtain ⟨a9,_,E9⟩:=d9
 obtain ⟨a10,_,E10⟩:=d10
 obtain ⟨a11,_,E11⟩:=d11
 obtain ⟨a12,_,E12⟩:=d12
 obtain ⟨a13,_,E13⟩:=d13
 obtain ⟨a14,_,E14⟩:=d14
 obtain ⟨a15,_,E15⟩:=d15
 obtain ⟨a16,_,E16⟩:=d16
 obtain ⟨a17,_,E17⟩:=d17
 obtain ⟨a18,_,E18⟩:=d18
 obtain ⟨a19,_,E19⟩:=d19
 obtain ⟨a20,_,E20⟩:=d20
 obtain ⟨a21,_,E21⟩:=d21
 obtain ⟨a22,_,E22⟩:=d22
 obtain ⟨a23,_,E23⟩:=d23
 obtain ⟨a24,i24,_,E24⟩:=d24
 have b24:=E24.binds (ps:=["self","many","scale"]) λ_ _ _ _ _ _ us hl=>by obtain ⟨_,_,_,rfl⟩:=GG hl; rfl
 obtain ⟨a25,i25,_,E25⟩:=d25
 obtain ⟨a26,i26,_,E26⟩:=d26
 obtain ⟨a27,i27,_,E27⟩:=d27
 obtain ⟨a28,i28,_,E28⟩:=d28
 obtain ⟨a29,i29,_,E29⟩:=d29
 obtain ⟨a30,i30,_,E30⟩:=d30
 obtain ⟨a31,i31,_,E31⟩:=d31
 obtain ⟨a32,i32,_,E32⟩:=d32
 obtain ⟨a33,i33,_,E33⟩:=d33
 obtain ⟨a34,i34,_,E34⟩:=d34
 have b34:=E34.binds (ps:=["self","many","scale","top","bottom"]) λ_ _ _ _ _ _ us hl=>by obtain ⟨_,_,_,_,_,rfl⟩:=OZ hl; rfl
 obtain ⟨a35,i35,_,E35⟩:=d35
 obtain ⟨a36,i36,_,E36⟩:=d36
 obtain ⟨a37,i37,_,E37⟩:=d37
 obtain ⟨a38,i38,_,E38⟩:=d38
 obtain ⟨a39,i39,_,E39⟩:=d39
 obtain ⟨a40,i40,_,E40⟩:=d40
 obtain ⟨a41,i41,_,E41⟩:=d41
 have E42:=Yg (st:=FJ) (dv:=[.none]) l42 t42 c42 k42
 have b42:=E42.binds (rest:=[]) (ps:=["self","many","scale","push"]) λ_ _ _ _ _ _ _ us hl=>by rw [List.append_nil] at hl; obtain ⟨_,_,_,_,rfl⟩:=LC hl; exact ⟨_,rfl,rfl⟩
 obtain ⟨a43,i43,_,E43⟩:=d43
 obtain ⟨a44,i44,_,E44⟩:=d44
 obtain ⟨a45,i45,_,E45⟩:=d45
 obtain ⟨a46,_,E46⟩:=d46
 have b46:=E46.binds (ps:=["many","scale","said"]) λ_ _ _ _ _ _ us hl=>by obtain ⟨_,_,_,rfl⟩:=GG hl; rfl
 obtain ⟨a47,_,E47⟩:=d47
 have b47:=E47.binds (ps:=["many","scale","said","so"]) λ_ _ _ _ _ _ us hl=>by obtain ⟨_,_,_,_,rfl⟩:=LC hl; rfl
 obtain ⟨a48,i48,_,E48⟩:=d48
 obtain ⟨a49,i49,_,E49⟩:=d49
 obtain ⟨a50,_,E50⟩:=d50
 obtain ⟨a51,_,E51⟩:=d51
 obtain ⟨a52,_,E52⟩:=d52
 have b52:=E52.binds (ps:=["hands","head"]) λ_ _ _ _ _ _ us hl=>by obtain ⟨_,_,rfl⟩:=HY hl; rfl
 obtain ⟨a53,i53,_,E53⟩:=d53
 have b53:=E53.binds (ps:=["self","hands","head"]) λ_ _ _ _ _ _ us hl=>by obtain ⟨_,_,_,rfl⟩:=GG hl; rfl
 obtain ⟨a54,i54,_,E54⟩:=d54
 obtain ⟨a55,i55,_,E55⟩:=d55
 obtain ⟨a56,i56,_,E56⟩:=d56
 have b56:=E56.binds (ps:=["self","said"]) λ_ _ _ _ _ _ us hl=>by obtain ⟨_,_,rfl⟩:=HY hl; rfl
 obtain ⟨a57,i57,_,E57⟩:=d57
 have b57:=E57.binds (ps:=["self","said","so"]) λ_ _ _ _ _ _ us hl=>by obtain ⟨_,_,_,rfl⟩:=GG hl; rfl
 obtain ⟨a58,_,E58⟩:=d58
 obtain ⟨a59,_,E59⟩:=d59
 obtain ⟨a60,_,E60⟩:=d60
 obtain ⟨a61,_,E61⟩:=d61
 obtain ⟨a62,_,E62⟩:=d62
 obtain ⟨a63,_,E63⟩:=d63
 have b63:=E63.binds (ps:=["_law_error"]) λ_ _ _ _ _ _ us hl=>by obtain ⟨_,rfl⟩:=O5 hl; rfl
 obtain ⟨a64,_,E64⟩:=d64
 obtain ⟨a65,_,E65⟩:=d65
 obtain ⟨a66,_,E66⟩:=d66
 obtain ⟨a67,_,E67⟩:=d67
 obtain ⟨a68,_,E68⟩:=d68
 obtain ⟨a69,_,E69⟩:=d69
 obtain ⟨_,_,kV,dc,pm,an,cd,ct,_,rfl,_,_⟩:=E70.ex
 refine ⟨PySem.W.fnOf "law" "law" (CY FH) (BR FH) (Ak FH) .none kV dc pm an cd ct,λs v=>.of_eq rfl,λbase _ _=>?_⟩
 have Z_NoTurn:F7 K CK8 f0 "number" :=⟨⟨_,_,_,_,_,_,_,_,_,_,_,_,_,_,_,Ll_NoTurn,λh X=>Rz X Ee_HeedError⟩,a0,beq_iff_eq.mp i0,Tsa_NoTurn,En_NoTurn_number,Tkp_NoTurn⟩
 have yf:AC l.prog w K mg base AO 1 f0 _ ["self","number"] (Go CK8 "number"):=Wv T E0 Z_NoTurn
 have jq:=VQ (P:=l.prog) (w:=w) (base:=base) T E1 (PySem.W.mg_of X G a1) (AD E1)
 have zc:=VW (P:=l.prog) (w:=w) (base:=base) T E2 (PySem.W.mg_of X G a2) (AD E2)
 have zd:=VB T E3 (PySem.W.mg_of X G a3) (AD E3) zc
 have ja:=VX T E4 (PySem.W.mg_of X G a4) (AD E4) jq
 have jt:=V2 T E5 (PySem.W.mg_of X G a5) (AD E5) ja
 have jz:=V6 T E6 (PySem.W.mg_of X G a6) (AD E6) ja jt
 have ji:=V7 T E7 (PySem.W.mg_of X G a7) (AD E7) ja
 have zm:=V1 T E8 (PySem.W.mg_of X G a8) (AD E8) ja
 have ju:=VT T E9 (PySem.W.mg_of X G a9) (AD E9) jq
 have jh:=VS T E10 (PySem.W.mg_of X G a10) (AD E10) ju
 have jo:=V4 T E11 (PySem.W.mg_of X G a11) (AD E11) jh
 have jd:=Vz (P:=l.prog) (w:=w) (base:=base) T E12 (PySem.W.mg_of X G a12) (AD E12)
 have jb:=V8 (P:=l.prog) (w:=w) (base:=base) T E13 (PySem.W.mg_of X G a13) (AD E13)
 have jw:=VR T E14 (PySem.W.mg_of X G a14) (AD E14) jh ju
 have jc:=VZ T E15 (PySem.W.mg_of X G a15) (AD E15) jw
 have jx:=V9 (P:=l.prog) (w:=w) (base:=base) T E16 (PySem.W.mg_of X G a16) (AD E16)
 have kt:=VA T E17 (PySem.W.mg_of X G a17) (AD E17) zd jx
 have ze:=Vv T E18 (PySem.W.mg_of X G a18) (AD E18) jd
 have jy:=Vw T E19 (PySem.W.mg_of X G a19) (AD E19) jd
 have zo:=Vx T E20 (PySem.W.mg_of X G a20) (AD E20) jb jy ze
 have zg:=V5 T E21 (PySem.W.mg_of X G a21) (AD E21) ja jd
 have zt:=Vy T E22 (PySem.W.mg_of X G a22) (AD E22) zg
 have zu:=VV (P:=l.prog) (w:=w) (base:=base) T E23 (PySem.W.mg_of X G a23) (AD E23)
 have yb:=WB T E24 jz
 have yg:=Wy (P:=l.prog) (w:=w) (base:=base) T E25
 have yc:=Wc (P:=l.prog) (w:=w) (base:=base) T E26
 have yh:=Wr (P:=l.prog) (w:=w) (base:=base) T E27
 have zh:=BF yg a25 i25 E25.kp (AD E25) T.xo.cls
 have zi:=BF yc a26 i26 E26.kp (AD E26) T.xw.cls
 have zj:=BF yc e2_heeded i26 E26.kp (AD E26) T.bn.cls
 have zk:=BF yh a27 i27 E27.kp (AD E27) T.dh.cls
 have zb:=Wx T E28 jo kt zh zi zj zk
 have yi:=Wz T E29 jc
 have je:=FU yb mk0 a24 i24 kc0 (AD E24) T.xp
 have yj:=WA T E30 je
 have jf:EL l.prog w K mg base "Hand" 5 "__init__" (D6 (λC=>C=CK2\/C=CK14\/C=CK11\/C=CK10\/C=CK12\/C=CK1)):=⟨_,_,_,_,_,T.xp,so0___init__,rd0___init__,fc0___init__,rfl,yb,E24.kp,b24⟩
 have yk:=Wu T E31 jf
 have yl:=Ws T E32 jc jb
 have ka:=FU yk mk3 a31 i31 kc3 (AD E31) T.di
 have ym:=Wt T E33 ka
 have yd:=Wh T E34 ji jf
 have zn:EL l.prog w K mg base "Weigher" 6 "__init__" (Gk CK14 CK11):=⟨_,_,_,_,_,T.xx,so1___init__,rd1___init__,fc1___init__,rfl,yd,E34.kp,b34⟩
 have yn:=Wq T E35 zm zn
 have jk:=BF zb e1_say i28 E28.kp (AD E28) T.xw.cls
 have jl:=BF zb e2_say i28 E28.kp (AD E28) T.bn.cls
 have ye:=Wb T E36 jb jk jl zo jy
 have yo:=Wo (P:=l.prog) (w:=w) (base:=base) T E37
 have zp:=BF ye a36 i36 E36.kp (AD E36) T.xw.cls
 have yp:=Wf T E38 jc zp
 have zq:=BF ye e2_weigh i36 E36.kp (AD E36) T.bn.cls
 have zr:=BF yo a37 i37 E37.kp (AD E37) T.bn.cls
 have yq:=Wn T E39 jc zq zr
 have kc:=FU yd mk1 a34 i34 kc1 (AD E34) T.xx
 have yr:=Wg T E40 kc
 have kf:=FU yn mk2 a35 i35 kc2 (AD E35) T.bo
 have yt:=Wp T E41 kf
 have yu:AC l.prog w K mg base AO 6 f42 _ ["self","many","scale","push"] (AR K (Gn CK1)):=WF T E42 zt jf
 have yv:=WC T E43 jo jx zu
 have yw:=WD T E44 jc jb
 have kg:Cn l.prog w K mg base CK1 6 "Follower" (Gn CK1):=⟨⟨_,_,_,yu,⟨mk4,a42,i42,kc4⟩,b42⟩,T.dz⟩
 have yx:=WE T E45 kg
 have J_NoTurn:IU l.prog w K mg base CK8 1 "NoTurn" "number" :=⟨⟨_,_,_,yf,Z_NoTurn,b0⟩,T.lv,T.ls⟩
 have gk:D3 l.prog w K mg base 4 "check_said" (JD CK8):=V3 T E46 (PySem.W.mg_of X G a46) b46 jh J_NoTurn
 have gl:D3 l.prog w K mg base 5 "check_turn" (JC CK8):=VY T E47 (PySem.W.mg_of X G a47) b47 jw J_NoTurn
 have yy:=Ww T E48 jz ji
 have yz:=WG T E49 jt ji
 have ku:=Wa (P:=l.prog) (w:=w) (base:=base) T E50 (PySem.W.mg_of X G a50) (AD E50)
 have kx:=VU (P:=l.prog) (w:=w) (base:=base) T E51 (PySem.W.mg_of X G a51) (AD E51)
 have ky:D3 l.prog w K mg base 3 "check_tier" (Jo ⟨CK2,CK14,CK11,CK10,CK12,CK1⟩ CK4 CK0 CK7):=V0 T E52 (PySem.W.mg_of X G a52) b52 ku kx
 have kz:=BF yj a30 i30 E30.kp (AD E30) T.xo.cls
 have gc:=BF yr a40 i40 E40.kp (AD E40) T.xw.cls
 have gf:=BF yt a41 i41 E41.kp (AD E41) T.bn.cls
 have gh:=BF ym a33 i33 E33.kp (AD E33) T.dh.cls
 have gj:=BF yx a45 i45 E45.kp (AD E45) T.dy.cls
 have vc:AC l.prog w K mg base (Cp l.prog w) 10 f53 _ ["self","hands","head"] (C5 K (Gm ⟨CK2,CK14,CK11,CK10,CK12,CK1⟩ CK4 CK0 CK7)):=Wm T E53 ky jf kz gc gf gh gj
 have vd:=Wk (P:=l.prog) (w:=w) (base:=base) T E54
 have kh:=BF zb a28 i28 E28.kp (AD E28) T.xo.cls
 have ki:=BF zb e3_say i28 E28.kp (AD E28) T.dh.cls
 have kj:=BF yv a43 i43 E43.kp (AD E43) T.dy.cls
 have ve:=Wl T E55 kh jk jl ki kj
 have kl:=BF ve a55 i55 E55.kp (AD E55) T.eu.cls
 have vf:AC l.prog w K mg base (Cp l.prog w) 9 f56 _ ["self","said"] (C5 K (Gi ⟨CK2,CK14,CK11,CK10,CK12,CK1⟩ CK8)):=Wi T E56 gk kl kh jk jl ki kj
 have gm:=BF yi a29 i29 E29.kp (AD E29) T.xo.cls
 have gp:=BF yp a38 i38 E38.kp (AD E38) T.xw.cls
 have gq:=BF yq a39 i39 E39.kp (AD E39) T.bn.cls
 have gr:=BF yl a32 i32 E32.kp (AD E32) T.dh.cls
 have gu:=BF yw a44 i44 E44.kp (AD E44) T.dy.cls
 have vg:AC l.prog w K mg base (Cp l.prog w) 10 f57 _ ["self","said","so"] (C5 K (Ht ⟨CK2,CK14,CK11,CK10,CK12,CK1⟩ CK8)):=Wj T E57 gl jb kl gm gp gq gr gu
 have kv:=VN (P:=l.prog) (w:=w) (base:=base) T E58 (PySem.W.mg_of X G a58) (AD E58)
 have jg:=VH (P:=l.prog) (w:=w) (base:=base) T E59 (PySem.W.mg_of X G a59) (AD E59)
 have ko:=VF T E60 (PySem.W.mg_of X G a60) (AD E60) kv jg
 have kn:=VM T E61 (PySem.W.mg_of X G a61) (AD E61) je kc kf ka kg
 have zy:=VL T E62 (PySem.W.mg_of X G a62) (AD E62) jg kn
 have jn:Fx l.prog w K mg base 1 "_law_which" (Gh CK8 CK7):=VD T E63 (PySem.W.mg_of X G a63) b63
 have jr:F4 l.prog w K mg base CK12 10 "Tier" (Gm ⟨CK2,CK14,CK11,CK10,CK12,CK1⟩ CK4 CK0 CK7):=⟨⟨_,_,_,vc,⟨mk5,a53,i53,kc5⟩,b53⟩,T.fg⟩
 have za:=VI T E64 (PySem.W.mg_of X G a64) (AD E64) jr jn
 have gv:=FU yy mk6 a48 i48 kc6 (AD E48) T.fu
 have gw:=FU yz mk7 a49 i49 kc7 (AD E49) T.lg
 have zz:=VG T E65 (PySem.W.mg_of X G a65) (AD E65) je gv gw
 have jp:EM l.prog w K mg base CK12 9 "say" (Gi ⟨CK2,CK14,CK11,CK10,CK12,CK1⟩ CK8):=⟨⟨_,_,_,vf,⟨a56,i56,E56.kp⟩,b56⟩,T.eu.cls⟩
 have zx:=VO T E66 (PySem.W.mg_of X G a66) (AD E66) jp jn
 have gx:EM l.prog w K mg base CK12 10 "hear" (Ht ⟨CK2,CK14,CK11,CK10,CK12,CK1⟩ CK8):=⟨⟨_,_,_,vg,⟨a57,i57,E57.kp⟩,b57⟩,T.eu.cls⟩
 have gy:=VP T E67 (PySem.W.mg_of X G a67) (AD E67) gx jn
 have zw:=VE (P:=l.prog) (w:=w) (base:=base) T E68 (PySem.W.mg_of X G a68) (AD E68)
 have gz:=BF vd a54 i54 E54.kp (AD E54) T.eu.cls
 have ya:=VJ T E69 (PySem.W.mg_of X G a69) (AD E69) zw zx gy jp gz
 exact VC T E70 kv jg ko kn zy zz za ya jr
theorem walk {l:PySem.W.OpenLaw} {q:Program} {loose:List Str} {XP:(Str->Option Value)->Heap->Prop} {YP:World->Heap->Prop} {d:DefRec} {K:Params->PySem.W.Frag} (hn:l.most=some 63) (hdf:d.params.defaults=[])
  (hY:∀ (w:World) (h:Heap),YP w h->(K w.params).In h)
  (F:∀ (w:World) (mg:Str->Option Value) (fa:Addr) (h:Heap),(K w.params).In h->h.Ns mainGlobals mg->mg d.name=some (.ref fa)->
   ∃ fd:FuncData,(∀ (s:Shared) (u:Value),BindsTo s fd ⟨[u],[]⟩ [("_law_script",u)])/\∀ base:Heap,(K w.params).In base->base.Ns mainGlobals mg->AC l.prog w (K w.params) mg base AO 19 fa fd ["_law_script"] (AR (K w.params) Gj)) :
  PySem.W.WalkO q loose XP YP l.row.toRowW d [] (λf vs=>PySem.call f vs):=
 L2.walk_of (n:=63) (k:=19) (x := "_law_script") (CX:=λ_=>AO) (sp:=λw=>AR (K w.params) Gj) hn wE hdf ⟨rfl,by decide,by decide⟩ hY F (λ_ _ a ns hl _ hS=>Xp hl hS) λ_ _ _ _ _ z=>z
end My
open PySem PySem.W PyProof.Rows
theorem My.walkZ {q:Program} {loose:List Str} {XP:(Str->Option Value)->Heap->Prop} {K:Params->PySem.W.Frag} {as:List Addr} {n t:Nat} {r:RowW} {d:DefRec} {kwd:List (Str×Expr)} {run:Value->List Value->Sem Value} (e:∀ P,as=(K P).map (·.1))
  (h:WalkO q loose XP (λw h=>(K w.params).In h) r d kwd run):WalkX q loose XP (X.obsZ as) (X.valZ K n t) r d kwd run:=λw s₀ s₁ mg mb G y a o pm cd doc dV kV ho hd hcd hD hmg hg args vals as' L hpre hlay hrd hwl hlo=>
 h w s₀ s₁ mg mb G (λb o' e'=>L.keeps _ _ ((X.z_facts e y).2.1 b o' e')) a o pm cd doc dV kV ho hd hcd hD hmg hg args vals as' hpre hlay hrd hwl hlo
def PySem.W.Fast.tw8143713915893900979 : Nat := 0
def PySem.W.Fast.tw11347924420028233126 : Nat := 0
def PySem.W.Fast.tw10970423503370647404 : Nat := 0
def PySem.W.Fast.tw10472086679178231309 : Nat := 0
def PySem.W.Fast.tw1103875030822098651 : Nat := 0
def PySem.W.Fast.tw5817323258040122745 : Nat := 0
def PySem.W.Fast.tw14675443773418593295 : Nat := 0
def PySem.W.Fast.tw13491167405130196838 : Nat := 0
def PySem.W.Fast.tw12985034503097631078 : Nat := 0
def PySem.W.Fast.tw17960664905036366128 : Nat := 0
def PySem.W.Fast.tw14845908348404043989 : Nat := 0
def PySem.W.Fast.tw13840247615849141100 : Nat := 0
def PySem.W.Fast.tw18371625176745762185 : Nat := 0
def PySem.W.Fast.tw10308537168028719950 : Nat := 0
def PySem.W.Fast.tw15397654067901379761 : Nat := 0
def PySem.W.Fast.tw7741156255066018403 : Nat := 0
def PySem.W.Fast.tw12297835594593264174 : Nat := 0
def PySem.W.Fast.tw16771197351145876569 : Nat := 0
def PySem.W.Fast.tw12541169220169272635 : Nat := 0
def PySem.W.Fast.tw6844090527686837000 : Nat := 0
def PySem.W.Fast.tw17739253332834489102 : Nat := 0
def PySem.W.Fast.tw14259282714847236982 : Nat := 0
def PySem.W.Fast.tw3122323805285898189 : Nat := 0
def PySem.W.Fast.tw14861682124866489870 : Nat := 0
def PySem.W.Fast.tw15150589960802748352 : Nat := 0
def PySem.W.Fast.tw1278848758399161459 : Nat := 0
def PySem.W.Fast.tw13504182319462895960 : Nat := 0
def PySem.W.Fast.tw164052133249572582 : Nat := 0
def PySem.W.Fast.tw5597613740173846609 : Nat := 0
def PySem.W.Fast.tw5626053309516465337 : Nat := 0
def PySem.W.Fast.tw10423790400709082163 : Nat := 0
def PySem.W.Fast.tw1107330736199641488 : Nat := 0
def PySem.W.Fast.tw14330113031235635936 : Nat := 0
def PySem.W.Fast.tw4516733484559876749 : Nat := 0
def PySem.W.Fast.tw14040533785866396944 : Nat := 0
def PySem.W.Fast.tw7724311245786956944 : Nat := 0
def PySem.W.Fast.tw1361501026569443753 : Nat := 0
def PySem.W.Fast.tw7859167061415882916 : Nat := 0
def PySem.W.Fast.tw2723156616111535293 : Nat := 0
def PySem.W.Fast.tw7204186895463736867 : Nat := 0
def PySem.W.Fast.tw16228614823847517524 : Nat := 0
def PySem.W.Fast.tw11970816934927233373 : Nat := 0
def PySem.W.Fast.tw8665005673571684576 : Nat := 0
def PySem.W.Fast.tw13888366234668286218 : Nat := 0
def PySem.W.Fast.tw12968697673690870007 : Nat := 0
def PySem.W.Fast.tw15374668716803008376 : Nat := 0
def PySem.W.Fast.tw10004361770401301035 : Nat := 0
def PySem.W.Fast.tw261032987194727974 : Nat := 0
def PySem.W.Fast.tw289180683203115407 : Nat := 0
def PySem.W.Fast.tw10234072514182539620 : Nat := 0
def PySem.W.Fast.tw16436399803371473218 : Nat := 0
def PySem.W.Fast.tw13499381478017819284 : Nat := 0
def PySem.W.Fast.tw14181811140316095980 : Nat := 0
def PySem.W.Fast.tw17717866331161663674 : Nat := 0
def PySem.W.Fast.tw1140173183225651493 : Nat := 0
def PySem.W.Fast.tw16600775696869937823 : Nat := 0
def PySem.W.Fast.tw3977591754754578650 : Nat := 0
def PySem.W.Fast.tw15214448402154922278 : Nat := 0
def PySem.W.Fast.tw11865867664978476560 : Nat := 0
def PySem.W.Fast.tw17206593585884641903 : Nat := 0
def PySem.W.Fast.tw6080393125284800957 : Nat := 0
def PySem.W.Fast.tw12173988592275698215 : Nat := 0
def PySem.W.Fast.tw8139998189179625737 : Nat := 0
def PySem.W.Fast.tw1650538160774835990 : Nat := 0
def PySem.W.Fast.tw14925330349318522586 : Nat := 0
def PySem.W.Fast.tw13919544123840156411 : Nat := 0
def PySem.W.Fast.tw7033903109940527696 : Nat := 0
def PySem.W.Fast.tw4778699634414147431 : Nat := 0
def PySem.W.Fast.tw15214835988409788343 : Nat := 0
def PySem.W.Fast.tw5492163487460480759 : Nat := 0
def PySem.W.Fast.tw13133586060046116054 : Nat := 0
def PySem.W.Fast.tw14910951877956762416 : Nat := 0
def PySem.W.Fast.tw12955762811428586405 : Nat := 0
def PySem.W.Fast.tw12109682695030674727 : Nat := 0
def PySem.W.Fast.tw16156067131401154488 : Nat := 0
def PySem.W.Fast.tw17262505588108695938 : Nat := 0
def PySem.W.Fast.tw12227906783653620388 : Nat := 0
def PySem.W.Fast.tw13106256291760126529 : Nat := 0
def PySem.W.Fast.tw14489617241830757632 : Nat := 0
def PySem.W.Fast.tw8476969059887181657 : Nat := 0
def PySem.W.Fast.tw8696368554702066779 : Nat := 0
def PySem.W.Fast.tw6077547473579625868 : Nat := 0
def PySem.W.Fast.tw15217181686687551017 : Nat := 0
def PySem.W.Fast.tw11039528232790214027 : Nat := 0
def PySem.W.Fast.tw9061362962566141503 : Nat := 0
def PySem.W.Fast.tw9841296425618392550 : Nat := 0
def PySem.W.Fast.tw17649647582771681354 : Nat := 0
def PySem.W.Fast.tw2099191653931286482 : Nat := 0
def PySem.W.Fast.tw16343286776319818472 : Nat := 0
def PySem.W.Fast.tw11357530060624490904 : Nat := 0
def PySem.W.Fast.tw8725741621292385042 : Nat := 0
def PySem.W.Fast.tw2983418617607486298 : Nat := 0
def PySem.W.Fast.tw14077307508283485825 : Nat := 0
def PySem.W.Fast.tw8242009851665762891 : Nat := 0
def PySem.W.Fast.tw14491977844929979653 : Nat := 0
def PySem.W.Fast.tw1218668810374836940 : Nat := 0
def PySem.W.Fast.tw410514771659480824 : Nat := 0
def PySem.W.Fast.tw16569628541228729636 : Nat := 0
def PySem.W.Fast.tw5188270114996728942 : Nat := 0
def PySem.W.Fast.tw14960957508872816335 : Nat := 0
def PySem.W.Fast.tw9227480698936472531 : Nat := 0
def PySem.W.Fast.tw10824803210289633631 : Nat := 0
def PySem.W.Fast.tw11644484535469350383 : Nat := 0
def PySem.W.Fast.tw6816816758059955212 : Nat := 0
def PySem.W.Fast.tw18404118685849216346 : Nat := 0
def PySem.W.Fast.tw10101813061035154931 : Nat := 0
def PySem.W.Fast.tw9532517806182697139 : Nat := 0
def PySem.W.Fast.tw4083973445396990160 : Nat := 0
def PySem.W.Fast.tw1125897664713336857 : Nat := 0
def PySem.W.Fast.tw1157709392718189668 : Nat := 0
def PySem.W.Fast.tw3364519690665995045 : Nat := 0
def PySem.W.Fast.tw849411080579171027 : Nat := 0
def PySem.W.Fast.tw1216598494225837020 : Nat := 0
def PySem.W.Fast.tw15510361552913694467 : Nat := 0
def PySem.W.Fast.tw4430217769699911671 : Nat := 0
def PySem.W.Fast.tw13923016794667570439 : Nat := 0
def PySem.W.Fast.tw8962882884731031480 : Nat := 0
def PySem.W.Fast.tw10452010617274999062 : Nat := 0
def PySem.W.Fast.tw10001445339758240452 : Nat := 0
def PySem.W.Fast.tw3678664619808360759 : Nat := 0
def PySem.W.Fast.tw10885186526925214442 : Nat := 0
def PySem.W.Fast.tw13282713427089644904 : Nat := 0
def PySem.W.Fast.tw17552458962676351968 : Nat := 0
def PySem.W.Fast.tw10824743999321278020 : Nat := 0
def PySem.W.Fast.tw15102856115967915241 : Nat := 0
def PySem.W.Fast.tw15330841916897149519 : Nat := 0
def PySem.W.Fast.tw9740441612952852370 : Nat := 0
def PySem.W.Fast.tw15036035090441344757 : Nat := 0
def PySem.W.Fast.tw2627497755268377868 : Nat := 0
def PySem.W.Fast.tw15402903972572959581 : Nat := 0
def PySem.W.Fast.tw6819913458035408388 : Nat := 0
def PySem.W.Fast.tw760374584325533437 : Nat := 0
def PySem.W.Fast.tw18335134625247752735 : Nat := 0
def PySem.W.Fast.tw17603141256807002565 : Nat := 0
def PySem.W.Fast.tw2961772339204332023 : Nat := 0
def PySem.W.Fast.tw6409663397908125566 : Nat := 0
def PySem.W.Fast.tw3808761510660600275 : Nat := 0
def PySem.W.Fast.tw8838148564802321752 : Nat := 0
def PySem.W.Fast.tw8643962385538848362 : Nat := 0
def PySem.W.Fast.tw4717912153790479569 : Nat := 0
def PySem.W.Fast.tw6793753889875305595 : Nat := 0
def PySem.W.Fast.tw9492066088028558425 : Nat := 0
def PySem.W.Fast.tw11481586270773738836 : Nat := 0
def PySem.W.Fast.tw7025581129311528855 : Nat := 0
def PySem.W.Fast.tw1017246009284552754 : Nat := 0
def PySem.W.Fast.tw624794037238939881 : Nat := 0
def PySem.W.Fast.tw12486239805581010978 : Nat := 0
def PySem.W.Fast.tw960947860728589224 : Nat := 0
def PySem.W.Fast.tw5499315915686605507 : Nat := 0
def PySem.W.Fast.tw15348411891868189926 : Nat := 0
def PySem.W.Fast.tw7100070556821239712 : Nat := 0
def PySem.W.Fast.tw7630679580038168617 : Nat := 0
def PySem.W.Fast.tw8053351056806886471 : Nat := 0
def PySem.W.Fast.tw582093723884181233 : Nat := 0
def PySem.W.Fast.tw4772639252421370785 : Nat := 0
def PySem.W.Fast.tw6997362963627160689 : Nat := 0
def PySem.W.Fast.tw1259067302938604044 : Nat := 0
def PySem.W.Fast.tw6439173117682483443 : Nat := 0
def PySem.W.Fast.tw14788408898945666369 : Nat := 0
def PySem.W.Fast.tw3160845707591391737 : Nat := 0
def PySem.W.Fast.tw12363635111595886334 : Nat := 0
def PySem.W.Fast.tw14634424890961397348 : Nat := 0
def PySem.W.Fast.tw6112528580149616004 : Nat := 0
def PySem.W.Fast.tw1825255060435848348 : Nat := 0
def PySem.W.Fast.tw7192419901652192448 : Nat := 0
def PySem.W.Fast.tw16229076465468488792 : Nat := 0
def PySem.W.Fast.tw9186258322171388235 : Nat := 0
def PySem.W.Fast.tw17730656179659070124 : Nat := 0
def PySem.W.Fast.tw10287642867179594547 : Nat := 0
def PySem.W.Fast.tw13325688652650172019 : Nat := 0
def PySem.W.Fast.tw15809846571898864279 : Nat := 0
def PySem.W.Fast.tw14913979495998016169 : Nat := 0
def PySem.W.Fast.tw2957143254474086238 : Nat := 0
def PySem.W.Fast.tw13697010874328105260 : Nat := 0
def PySem.W.Fast.tw4867977224943860325 : Nat := 0
def PySem.W.Fast.tw5289842937422425089 : Nat := 0
def PySem.W.Fast.tw15388837920115333133 : Nat := 0
def PySem.W.Fast.tw5609292909580821752 : Nat := 0
def PySem.W.Fast.tw4513415146413594439 : Nat := 0
def PySem.W.Fast.tw6250095446598598936 : Nat := 0
def PySem.W.Fast.tw5360634064085250311 : Nat := 0
def PySem.W.Fast.tw9808846867977582049 : Nat := 0
def PySem.W.Fast.tw9878356886625656654 : Nat := 0
def PySem.W.Fast.tw8655159621073012006 : Nat := 0
def PySem.W.Fast.tw6469842992331523835 : Nat := 0
def PySem.W.Fast.tw4071874285789075772 : Nat := 0
def PySem.W.Fast.tw1196219852689566801 : Nat := 0
def PySem.W.Fast.tw10119451568821971374 : Nat := 0
def PySem.W.Fast.tw14234101348341557592 : Nat := 0
def PySem.W.Fast.tw6662267585632106978 : Nat := 0
def PySem.W.Fast.tw9146092212688585642 : Nat := 0
def PySem.W.Fast.tw13628654606739409618 : Nat := 0
def PySem.W.Fast.tw6874873473147174574 : Nat := 0
def PySem.W.Fast.tw16386728686618719749 : Nat := 0
def PySem.W.Fast.tw733888489656446307 : Nat := 0
def PySem.W.Fast.tw3219238504888333990 : Nat := 0
def PySem.W.Fast.tw1990283476908533772 : Nat := 0
def PySem.W.Fast.tw696589026677416544 : Nat := 0
def PySem.W.Fast.tw77814941682836115 : Nat := 0
def PySem.W.Fast.tw10580719427041268612 : Nat := 0
def PySem.W.Fast.tw740354861206573137 : Nat := 0
def PySem.W.Fast.tw12903438849738597181 : Nat := 0
def PySem.W.Fast.tw10627054873284133008 : Nat := 0
def PySem.W.Fast.tw298054587888133513 : Nat := 0
def PySem.W.Fast.tw11481729323339732213 : Nat := 0
def PySem.W.Fast.tw1017789669756454982 : Nat := 0
def PySem.W.Fast.tw5374472087721548466 : Nat := 0
def PySem.W.Fast.tw9856711434863577466 : Nat := 0
def PySem.W.Fast.tw2979349971073647657 : Nat := 0
def PySem.W.Fast.tw1841851498171392801 : Nat := 0
def PySem.W.Fast.tw10362110308763605347 : Nat := 0
def PySem.W.Fast.tw3277720645770987321 : Nat := 0
def PySem.W.Fast.tw16712355823103082925 : Nat := 0
def PySem.W.Fast.tw11343056666749477139 : Nat := 0
def PySem.W.Fast.tw15128867223130105554 : Nat := 0
def PySem.W.Fast.tw12643977827566019051 : Nat := 0
def PySem.W.Fast.tw10641427958351264764 : Nat := 0
def PySem.W.Fast.tw3868382191543562430 : Nat := 0
def PySem.W.Fast.tw16592811784199376099 : Nat := 0
def PySem.W.Fast.tw12308932689273229879 : Nat := 0
def PySem.W.Fast.tw13255703308506188695 : Nat := 0
def PySem.W.Fast.tw18393834384477144935 : Nat := 0
def PySem.W.Fast.tw3904517594186668396 : Nat := 0
def PySem.W.Fast.tw17493379134434329806 : Nat := 0
open PySem PySem.W PyProof.Rows
set_option maxRecDepth 100000 in
set_option maxHeartbeats 0 in
theorem PySem.Challenge.cw_heedwise_k71_no_tier_holds : PySem.Challenge.rw_heedwise_k71_no_tier.Holds := by
 w_on; o_law; z_head; (case hw=>w_witness2)
 k_fill
 refine My.walkZ (λP=>rfl) ?_
 refine My.walk (l:=PySem.Challenge.rw_heedwise_k71_no_tier) rfl rfl (λw h Y=>Y) ?F
 case F=>
  intro w mg fa h KX G hmg
  refine' My.all_mk KX G hmg ?aC0 ?aC1 ?aC2 ?aC3 ?aC4 ?aC5 ?aC6 ?aC7 ?aE_HeedError ?aE_NoTurn ?aE_NoRule ?aE_NoRow ?aE_NoWay ?aE_NoName ?aE_Twice ?a0 ?i0 ?l0 ?c0 ?k0 ?d1 ?d2 ?d3 ?d4 ?d5 ?d6 ?d7 ?d8 ?d9 ?d10 ?d11 ?d12 ?d13 ?d14 ?d15 ?d16 ?d17 ?d18 ?d19 ?d20 ?d21 ?d22 ?d23 ?d24 ?d25 ?d26 ?d27 ?d28 ?d29 ?d30 ?d31 ?d32 ?d33 ?d34 ?d35 ?d36 ?d37 ?d38 ?d39 ?d40 ?d41 ?a42 ?i42 ?l42 ?t42 ?c42 ?k42 ?d43 ?d44 ?d45 ?d46 ?d47 ?d48 ?d49 ?d50 ?d51 ?d52 ?d53 ?d54 ?d55 ?d56 ?d57 ?d58 ?d59 ?d60 ?d61 ?d62 ?d63 ?d64 ?d65 ?d66 ?d67 ?d68 ?d69 ?d70 ?cb0 ?n0_many ?n0_scale ?q0_Hand ?q0_tuple ?mk0 ?kc0 ?so0___init__ ?rd0___init__ ?fc0___init__ ?cb1 ?n1_many ?n1_scale ?n1_top ?n1_bottom ?n1_tops ?n1_under ?q1_Hand ?q1_tuple ?mk1 ?kc1 ?e1_say ?so1___init__ ?rd1___init__ ?fc1___init__ ?cb2 ?n2_many ?n2_scale ?n2_top ?n2_bottom ?n2_tops ?n2_under ?n2_share ?n2_parts ?q2_Hand ?q2_tuple ?mk2 ?kc2 ?e2_heeded ?e2_say ?e2_weigh ?cb3 ?n3_many ?n3_scale ?n3_inside ?n3_over ?q3_Hand ?q3_tuple ?mk3 ?kc3 ?e3_say ?cb4 ?n4_many ?n4_scale ?n4_push ?n4_reached ?q4_Hand ?q4_tuple ?mk4 ?kc4 ?cb5 ?n5_many ?n5_scale ?n5_hands ?n5_head ?n5_charged ?q5_Hand ?mk5 ?kc5 ?cb6 ?n6_many ?n6_scale ?n6_top ?n6_bottom ?n6_tops ?n6_under ?q6_Hand ?mk6 ?kc6 ?cb7 ?n7_scale ?n7_top ?n7_bottom ?n7_tops ?n7_under ?n7_came ?q7_Hand ?mk7 ?kc7 ?Tga_NoTurn ?Thk_NoTurn ?Tmb_NoTurn ?Tmo_NoTurn ?Tca_NoTurn ?Thd_NoTurn ?Ll_NoTurn ?Tsa_NoTurn ?Tkp_NoTurn ?Tga_NoRule ?Thk_NoRule ?Tmb_NoRule ?Tmo_NoRule ?Tca_NoRule ?Thd_NoRule ?Ee_HeedError ?En_NoTurn_number ?Ex_NoTurn_HeedError ?Ei_NoTurn_ValueError ?Ei_NoTurn_NoTurn ?Ei_NoTurn_NoRow ?Ei_NoTurn_NoRule ?Ei_NoTurn_NoWay ?Ei_NoTurn_NoName ?Ei_NoTurn_Twice ?Ee_NoRule ?Ex_NoRule_HeedError ?Ei_NoRule_ValueError ?Ei_NoRule_NoTurn ?Ei_NoRule_NoRow ?Ei_NoRule_NoRule ?Ei_NoRule_NoWay ?Ei_NoRule_NoName ?Ei_NoRule_Twice ?gn ?gt ?z0 ?z1 ?z2 ?z3 ?z4 ?z5 ?z6 ?z7 ?z8 ?z9 ?z10 ?z11 ?z12 ?z13 ?z14 ?z15 ?z16 ?y0 ?y1 ?y2 ?y3 ?y4
  case aC0|aC1|aC2|aC3|aC4|aC5|aC6|aC7|aE_HeedError|aE_NoTurn|aE_NoRule|aE_NoRow|aE_NoWay|aE_NoName|aE_Twice=>
   k_is
  case d1|d2|d3|d4|d5|d6|d7|d8|d9|d10|d11|d12|d13|d14|d15|d16|d17|d18|d19|d20|d21|d22|d23|d46|d47|d50|d51|d52|d58|d59|d60|d61|d62|d63|d64|d65|d66|d67|d68|d69|d70=>
   refine' My.fd_mk ?a ?l ?c ?k
   case a|l|c|k=>k_is
  case d24|d25|d26|d27|d28|d29|d30|d31|d32|d33|d34|d35|d36|d37|d38|d39|d40|d41|d43|d44|d45|d48|d49|d53|d54|d55|d56|d57=>
   refine' My.fm_mk ?a ?i ?l ?c ?k
   case a|i|l|c|k=>k_is
  case cb0|cb1|cb2|cb3|cb4|cb5|cb6|cb7=>
   refine ⟨?_,?_,?_,?_,?_,?_⟩ <;> k_is
  case a0|i0|l0|c0|k0|a42|i42|l42|t42|c42|k42|mk0|kc0|so0___init__|rd0___init__|fc0___init__|mk1|kc1|e1_say|so1___init__|rd1___init__|fc1___init__|mk2|kc2|e2_heeded|e2_say|e2_weigh|mk3|kc3|e3_say|mk4|kc4|mk5|kc5|mk6|kc6|mk7|kc7|Tga_NoTurn|Thk_NoTurn|Tmb_NoTurn|Tmo_NoTurn|Tca_NoTurn|Thd_NoTurn|Ll_NoTurn|Tsa_NoTurn|Tkp_NoTurn|Tga_NoRule|Thk_NoRule|Tmb_NoRule|Tmo_NoRule|Tca_NoRule|Thd_NoRule|En_NoTurn_number|gn|gt|y0|y1|y2|y3|y4=>
   k_is
  case n0_many|n0_scale|n1_many|n1_scale|n1_top|n1_bottom|n1_tops|n1_under|n2_many|n2_scale|n2_top|n2_bottom|n2_tops|n2_under|n2_share|n2_parts|n3_many|n3_scale|n3_inside|n3_over|n4_many|n4_scale|n4_push|n4_reached|n5_many|n5_scale|n5_hands|n5_head|n5_charged|n6_many|n6_scale|n6_top|n6_bottom|n6_tops|n6_under|n7_scale|n7_top|n7_bottom|n7_tops|n7_under|n7_came|z0|z1|z2|z3|z4|z5|z6|z7|z8|z9|z10|z11|z12|z13|z14|z15|z16=>
   (show _=_; k_is)
  case q0_Hand|q0_tuple|q1_Hand|q1_tuple|q2_Hand|q2_tuple|q3_Hand|q3_tuple|q4_Hand|q4_tuple|q5_Hand|q6_Hand|q7_Hand|Ei_NoTurn_ValueError|Ei_NoTurn_NoTurn|Ei_NoTurn_NoRow|Ei_NoTurn_NoRule|Ei_NoTurn_NoWay|Ei_NoTurn_NoName|Ei_NoTurn_Twice|Ei_NoRule_ValueError|Ei_NoRule_NoTurn|Ei_NoRule_NoRow|Ei_NoRule_NoRule|Ei_NoRule_NoWay|Ei_NoRule_NoName|Ei_NoRule_Twice=>
   kit_is
  case Ee_HeedError|Ee_NoRule=>
   k_exc
  case Ex_NoTurn_HeedError|Ex_NoRule_HeedError=>
   exact Eq.refl _
