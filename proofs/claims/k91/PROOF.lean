import PyProof.Rows.All
import Wide.All
import OpenK.AllK
import Wide.FinOn
import Lean
import PyProof.EqAt
import PyProof.EqKinds
import PyProof.TupleCall
import PyProof.NeData
import PyProof.WalkInts
import PyProof.ListRange
import KE.KIntText
import PyProof.DictWalks
import PyProof.DictItems
import KE.KDictList
import PyProof.Rows.SortKeyStr
import PyProof.NeKinds
import PySem.Challenge.RW_heedwise_k91_whole_hurt_within_bounds
theorem wB {p : Prop} (h : p := by first | exact Or.inl rfl | exact Or.inr (Or.inl rfl) | exact Or.inr (Or.inr rfl) | assumption) : p := h
theorem wC {p : Prop} (h : p := by first | decide | omega) : p := h
theorem wD {p : Prop} (h : p := by decide +kernel) : p := h
theorem wE {p : Prop} (h : p := by decide) : p := h
theorem wF {p : Prop} (h : p := by omega) : p := h
set_option Elab.async false
set_option linter.all false
set_option maxRecDepth 100000
namespace L2
open PySem PySem.Spec PyProof.Rows
abbrev A0:=Sum Int Str
def PF:A0->Value->Bool
 | .inl k,v=>Value.isInt k v
 | .inr x,v=>Value.isStrOf x v
def XE (w:World):A0->Int
 | .inl k=>hashInt k
 | .inr x=>hashStr w x
theorem Ee:∀ {k:A0} {v:Value},PF k v=true->(∃ i t,k=Sum.inl i/\v=Value.int i t)\/(∃ x t,k=Sum.inr x/\v=Value.str x t)
 | .inl i,v,h=>by
  obtain ⟨t,e⟩:=Value.isInt_shape (k:=i) (v:=v) h
  exact .inl ⟨i,t,rfl,e⟩
 | .inr x,v,h=>by
  obtain ⟨t,e⟩:=Value.isStrOf_shape (x:=x) (v:=v) h
  exact .inr ⟨x,t,rfl,e⟩
theorem XD (a b:Int):decide ((Sum.inl a:A0)=Sum.inl b)=(a==b):=by
 by_cases e:a=b
 ·subst e; simp
 ·have h:¬ (Sum.inl a:A0)=Sum.inl b:=λq=>e (Sum.inl.inj q)
  rw [decide_eq_false h]
  exact (beq_eq_false_iff_ne.mpr e).symm
theorem Xz (a b:Str):decide ((Sum.inr a:A0)=Sum.inr b)=decide (a=b):=by
 by_cases e:a=b
 ·subst e; simp
 ·have h:¬ (Sum.inr a:A0)=Sum.inr b:=λq=>e (Sum.inr.inj q)
  rw [decide_eq_false h,decide_eq_false e]
theorem XB (a:Int) (b:Str):decide ((Sum.inl a:A0)=Sum.inr b)=false:=decide_eq_false (λq=>nomatch q)
theorem XA (a:Str) (b:Int):decide ((Sum.inr a:A0)=Sum.inl b)=false:=decide_eq_false (λq=>nomatch q)
def LB (prog:Program) (w:World):PySem.KeyKind prog w A0 where
 is:=PF
 hash:=XE w
 inj:=λv a b ha hb=>by
  rcases Ee ha with ⟨i,t,rfl,rfl⟩ | ⟨x,t,rfl,rfl⟩
  ·rcases Ee hb with ⟨j,u,rfl,e⟩ | ⟨y,u,rfl,e⟩
   ·injection e with e1 _; rw [e1]
   ·exact nomatch e
  ·rcases Ee hb with ⟨j,u,rfl,e⟩ | ⟨y,u,rfl,e⟩
   ·exact nomatch e
   ·injection e with e1 _; rw [e1]
 byValue:=λk v h=>by
  rcases Ee h with ⟨i,t,rfl,rfl⟩ | ⟨x,t,rfl,rfl⟩ <;> rfl
 pyHash:=λhv h=>by
  rcases Ee hv with ⟨i,t,rfl,rfl⟩ | ⟨x,t,rfl,rfl⟩
  ·exact wpAny_pyHash_int h
  ·exact wpAny_pyHash_str h
 eqBool:=λhu hv h=>by
  rcases Ee hu with ⟨i,t,rfl,rfl⟩ | ⟨x,t,rfl,rfl⟩
  ·rcases Ee hv with ⟨j,u,rfl,rfl⟩ | ⟨y,u,rfl,rfl⟩
   ·rw [XD] at h; exact wpAny_eqBool_int h
   ·rw [XB] at h; exact SeqAt.EqAt.int_str i t y u _ _ _ _ h
  ·rcases Ee hv with ⟨j,u,rfl,rfl⟩ | ⟨y,u,rfl,rfl⟩
   ·rw [XA] at h; exact SeqAt.EqAt.str_int x t j u _ _ _ _ h
   ·rw [Xz] at h; exact wpAny_eqBool_str h
 «strs»:=λk x t v h=>by
  rcases Ee h with ⟨i,u,rfl,e⟩ | ⟨y,u,rfl,e⟩
  ·exact nomatch e
  ·injection e with e1 _
   subst e1
   cases v <;> rfl
end L2
namespace L2
open PySem PySem.Spec PyProof.Rows
inductive V where
 | non | bl (b:Bool) | int (i:Int) | str (x:Str) | byt (b:Array UInt8) | flt (b:UInt64) | ref (a:Addr) | ty (n:String)
 deriving DecidableEq
def AV:V->Value->Prop
 | .non,u=>u=Value.none
 | .bl b,u=>u=Value.bool b
 | .int i,u=>∃ t,u=Value.int i t
 | .str x,u=>∃ t,u=Value.str x t
 | .byt b,u=>∃ t,u=Value.bytes b t
 | .flt b,u=>∃ t,u=Value.float b t
 | .ref a,u=>u=Value.ref a
 | .ty n,u=>u=Value.type n
abbrev AC:List V->List Value->Prop:=Paired AV
theorem AC.length {xs:List V} {us:List Value} (r:AC xs us):xs.length=us.length:=Paired.length r
theorem AC.get:∀ {xs:List V} {us:List Value} {i:Nat} {x:V},AC xs us->xs[i]?=some x->∃ u,us[i]?=some u/\AV x u
 | _,_,_,_,.nil,e=>by simp at e
 | _,_,0,_,.cons r _,e=>by simp at e; subst e; exact ⟨_,rfl,r⟩
 | _,_,i+1,x,.cons _ t,e=>by
  obtain ⟨u,h1,h2⟩:=AC.get (i:=i) (x:=x) t (by simpa using e)
  exact ⟨u,by simpa using h1,h2⟩
theorem AC.set {x:V} {u:Value} (r:AV x u):∀ {xs:List V} {us:List Value} (i:Nat),AC xs us->AC (xs.set i x) (us.set i u)
 | _,_,_,.nil=>.nil
 | _,_,0,.cons _ t=>.cons r t
 | _,_,i+1,.cons q t=>.cons q (AC.set r i t)
theorem AC.append:∀ {xs ys:List V} {us ws:List Value},AC xs us->AC ys ws->AC (xs++ys) (us++ws)
 | _,_,_,_,.nil,s=>s
 | _,_,_,_,.cons r t,s=>.cons r (AC.append t s)
theorem AC.take:∀ {xs:List V} {us:List Value} (n:Nat),AC xs us->AC (xs.take n) (us.take n)
 | _,_,0,_=>.nil
 | _,_,_+1,.nil=>.nil
 | _,_,n+1,.cons r t=>.cons r (AC.take n t)
theorem AC.drop:∀ {xs:List V} {us:List Value} (n:Nat),AC xs us->AC (xs.drop n) (us.drop n)
 | _,_,0,r=>r
 | _,_,_+1,.nil=>.nil
 | _,_,n+1,.cons _ t=>AC.drop n t
def D0:Option V->Option Value->Prop
 | some v,some u=>AV v u
 | none,none=>True
 | _,_=>False
def KV {κ:Type}:List (κ×V)->List (κ×Value)->Prop:=Paired λ(p:κ×V) (q:κ×Value)=>p.1=q.1/\AV p.2 q.2
def kV:A0->V
 | .inl i=>.int i
 | .inr x=>.str x
inductive HO where
 | lst (xs:List V)
 | tup (xs:List V)
 | dK (kvs:List (A0×V)) | dT (kvs:List (List A0×V))
 | set (S:Int->Bool) (n:Nat)
 | ins (C dx:Addr) (fs:List (Str×V))
 | own (x:Addr)
 | xd (fs:List (Str×V))
 | met (f x:Addr)
 | rng (lo hi:Int)
 | frz (o:Obj) (u:HO)
 | tbl (ps:Array Value)
 | ext (φ:Heap->Prop)
abbrev Hp:=Addr->Option HO
def AN (H:Hp) (a:Addr) (o:HO):Hp:=λb=>if b=a then some o else H b
theorem BF {H:Hp} {a:Addr} {o:HO}:AN H a o a=some o:=by unfold AN; rw [if_pos rfl]
theorem A4 {H:Hp} {a b:Addr} {o:HO} (h:b≠a):AN H a o b=H b:=by unfold AN; rw [if_neg h]
theorem DQ {H:Hp} {a b:Addr} {o:HO} (h:H a=some o) (h':H b=none):a≠b:=by
 intro e; subst e; rw [h] at h'; cases h'
def En (h:Heap) (a:Addr) (items:Array Value):Prop:=∃ o,h.get? a=some o/\o.dict=none/\o.cls=.type "tuple" /\ ∃ n,o.data=.seq items n
theorem En.t {h:Heap} {a:Addr} {items:Array Value} (x:En h a items):IsTup h a items:=let ⟨o,e,_,r⟩:=x; ⟨o,e,r⟩
theorem En.new (h:Heap) (items:Array Value):En (h.push { cls:=.type "tuple",data:=.seq items }) h.objs.size items:=⟨_,Heap.get?_push_size _ rfl,rfl,rfl,_,rfl⟩
section
variable (P:Program) (w:World)
def B3 (H:Hp) (h:Heap) (a:Addr):HO->Prop
 | .lst xs=>xs.length<=sizeLine/\∃ (its:List Value) (n:Nat),AC xs its/\h.get? a=some { cls:=.type "list",data:=.seq its.toArray n }
 | .tup xs=>xs.length<=sizeLine/\∃ its:List Value,AC xs its/\En h a its.toArray
 | .dK kvs=>kvs.length<=sizeLine/\(a==sysModules)=false/\∃ vs,KV kvs vs/\h.DictOf (LB P w) a vs
 | .dT kvs=>kvs.length<=sizeLine/\(a==sysModules)=false/\∃ xs:List (List A0×Addr×Value),
   Paired (λ(p:List A0×V) (q:List A0×Addr×Value)=>p.1=q.1/\H q.2.1=some (.tup (p.1.map kV))/\AV p.2 q.2.2) kvs xs /\
   ∃ o es ep,h.get? a=some o/\o.ExactDict/\o.data=.dict es ep/\es.toList=xs.map (entryOfKey (tupleKind (LB P w)))/\(xs.map (·.1)).Nodup
 | .set S n=>h.SetOf (intKind P w) a S n
 | .ins C dx fs=>H dx=some (.own a)/\fs.length<=1000/\dx≠a/\h.get? a=some (PySem.W.instObj C dx) /\
   ∃ mA,h.Ns1 dx mA/\(∀ f,D0 (fs.lookup f) (mA f))/\PySem.Within mA (fs.map (·.1))
 | .own _=>∃ o,h.get? a=some o
 | .xd fs=>∃ mA,h.Ns1 a mA/\∀ f,D0 (fs.lookup f) (mA f)
 | .rng lo hi=>∃ t u v,h.get? a=some { cls:=.type "range",data:=.fields #[.int lo t,.int hi u,.int 1 v] }
 | .frz o u=>h.get? a=some o/\B3 H h a u
 | .tbl ps=>h.get? a=some { cls:=.none,data:=.fields ps }
 | .met f x=>h.get? a=some (PySem.W.methodObj (.ref f) (.ref x))
 | .ext φ=>φ h/\(∃ o,h.get? a=some o)/\∀ h1 h2:Heap,φ h1->(∀ o,h1.get? a=some o->h2.get? a=some o)->φ h2
def BJ (H:Hp) (h:Heap):Prop:=∀ a o,H a=some o->B3 P w H h a o
end
section
variable {P:Program} {w:World} {H H':Hp} {h h':Heap} {a:Addr} {o:HO}
theorem B3.lt (x:B3 P w H h a o):a<h.objs.size:=by
 cases o with
 | lst xs=>obtain ⟨_,_,_,_,e⟩:=x; exact Heap.lt_size e
 | tup xs=>obtain ⟨_,_,_,p⟩:=x; exact p.t.lt
 | dK kvs=>obtain ⟨_,_,_,_,o,_,_,e,_⟩:=x; exact Heap.lt_size e
 | dT kvs=>obtain ⟨_,_,_,_,o,_,_,e,_⟩:=x; exact Heap.lt_size e
 | set S n=>obtain ⟨o,_,_,_,e,_⟩:=x; exact Heap.lt_size e
 | ins C dx fs=>obtain ⟨_,_,_,e,_⟩:=x; exact Heap.lt_size e
 | own y=>obtain ⟨_,e⟩:=x; exact Heap.lt_size e
 | xd fs=>obtain ⟨_,⟨_,_,_,e,_⟩,_⟩:=x; exact Heap.lt_size e
 | rng lo hi=>obtain ⟨_,_,_,e⟩:=x; exact Heap.lt_size e
 | frz ob u=>obtain ⟨e,_⟩:=x; exact Heap.lt_size e
 | tbl ps=>exact Heap.lt_size (show h.get? a=some _ from x)
 | met f y=>exact Heap.lt_size (show h.get? a=some _ from x)
 | ext φ=>obtain ⟨_,⟨_,e⟩,_⟩:=x; exact Heap.lt_size e
theorem Paired.mapP {α β:Type} {F G:α->β->Prop}:∀ {l₁:List α} {l₂:List β},Paired F l₁ l₂->(∀ a b,F a b->G a b)->Paired G l₁ l₂
 | _,_,.nil,_=>.nil
 | _,_,.cons r t,f=>.cons (f _ _ r) (Paired.mapP t f)
theorem B3.stay (x:B3 P w H h a o) (k:∀ b u,(b=a\/H b=some (.own a))->h.get? b=some u->h'.get? b=some u)
  (ho:∀ b,H b=some (.own a)->H' b=some (.own a)) (ht:∀ b xs,H b=some (.tup xs)->H' b=some (.tup xs)):B3 P w H' h' a o:=by
 induction o with
 | lst xs=>obtain ⟨z,its,n,r,e⟩:=x; exact ⟨z,its,n,r,k _ _ (.inl rfl) e⟩
 | tup xs=>obtain ⟨z,its,r,ob,e,c⟩:=x; exact ⟨z,its,r,ob,k _ _ (.inl rfl) e,c⟩
 | dK kvs=>obtain ⟨z,y,vs,r,ob,es,ep,e,c⟩:=x; exact ⟨z,y,vs,r,ob,es,ep,k _ _ (.inl rfl) e,c⟩
 | dT kvs=>
  obtain ⟨z,y,xs,r,ob,es,ep,e,c⟩:=x
  exact ⟨z,y,xs,Paired.mapP r λp q z=>⟨z.1,ht _ _ z.2.1,z.2.2⟩,ob,es,ep,k _ _ (.inl rfl) e,c⟩
 | set S n=>obtain ⟨ob,es,ep,t,e,c⟩:=x; exact ⟨ob,es,ep,t,k _ _ (.inl rfl) e,c⟩
 | ins C dx fs=>
  obtain ⟨d,z,ne,e,mA,⟨od,es,ep,e2,c⟩,r⟩:=x
  exact ⟨ho _ d,z,ne,k _ _ (.inl rfl) e,mA,⟨od,es,ep,k _ _ (.inr d) e2,c⟩,r⟩
 | own y=>obtain ⟨ob,e⟩:=x; exact ⟨ob,k _ _ (.inl rfl) e⟩
 | xd fs=>obtain ⟨mA,⟨od,es,ep,e,c⟩,r⟩:=x; exact ⟨mA,⟨od,es,ep,k _ _ (.inl rfl) e,c⟩,r⟩
 | rng lo hi=>obtain ⟨t,u,v,e⟩:=x; exact ⟨t,u,v,k _ _ (.inl rfl) e⟩
 | frz ob u ih=>obtain ⟨e,q⟩:=x; exact ⟨k _ _ (.inl rfl) e,ih q⟩
 | tbl ps=>
  have e:h.get? a=some { cls:=.none,data:=.fields ps }:=x
  show h'.get? a=some { cls:=.none,data:=.fields ps }
  exact k a _ (.inl rfl) e
 | met f y=>
  have e:h.get? a=some (PySem.W.methodObj (.ref f) (.ref y)):=x
  show h'.get? a=some (PySem.W.methodObj (.ref f) (.ref y))
  exact k a _ (.inl rfl) e
 | ext φ=>obtain ⟨p,⟨o,e⟩,st⟩:=x; exact ⟨st _ _ p λo q=>k _ _ (.inl rfl) q,⟨o,k _ _ (.inl rfl) e⟩,st⟩
theorem BJ.lt (x:BJ P w H h) (e:H a=some o):a<h.objs.size:=(x a o e).lt
theorem BJ.fresh (x:BJ P w H h) (e:h.objs.size<=a):H a=none:=by
 cases q:H a with
 | none=>rfl
 | some u=>exact absurd (Nat.lt_of_lt_of_le (x.lt q) e) (Nat.lt_irrefl _)
theorem BJ.kept (x:BJ P w H h) (k:∀ b u,h.get? b=some u->h'.get? b=some u):BJ P w H h':=λa o e=>
 (x a o e).stay (λb u _ q=>k b u q) (λ_ q=>q) λ_ _ q=>q
theorem BJ.laid (x:BJ P w H h) (k:∀ b u,h.get? b=some u->h'.get? b=some u) (hp:h.objs.size<=a) (new:B3 P w (AN H a o) h' a o):BJ P w (AN H a o) h':=λb u e=>by
 have hn:=x.fresh hp
 by_cases hb:b=a
 ·subst hb; rw [BF] at e; cases e; exact new
 ·rw [A4 hb] at e
  exact (x b u e).stay (λc v _ q=>k c v q) (λc q=>by rw [A4 (DQ q hn)]; exact q) λc xs q=>by rw [A4 (DQ q hn)]; exact q
end
def Rd (H:Hp) (a:Addr) (u:HO):Prop:=H a=some u\/∃ o,H a=some (.frz o u)
theorem Rd.ok {P:Program} {w:World} {H:Hp} {h:Heap} {a:Addr} {u:HO} (r:Rd H a u) (x:BJ P w H h):B3 P w H h a u:=by
 rcases r with r | ⟨o,r⟩
 ·exact x a u r
 ·obtain ⟨_,q⟩:=x a _ r
  exact q
def Jf:Option HO->Prop
 | some (.lst _)=>True
 | some (.dK _)=>True
 | some (.dT _)=>True
 | some (.set _ _)=>True
 | some (.ins _ _ _)=>True
 | some (.ext _)=>True
 | _=>False
section
variable {P:Program} {w:World} {H:Hp} {h h':Heap} {x e:Addr} {o':HO}
theorem BJ.write (ok:BJ P w H h) (mu:Jf (H x)) (he:e=x\/H e=some (.own x)) (k:∀ b u,b≠e->h.get? b=some u->h'.get? b=some u) (heo:∃ u,h'.get? e=some u)
  (new:B3 P w (AN H x o') h' x o'):BJ P w (AN H x o') h':=λb u q=>by
 have nown:∀ c y,H c=some (.own y)->c≠x:=λc y r z=>by subst z; rw [r] at mu; exact mu
 have ntup:∀ c xs,H c=some (.tup xs)->c≠x:=λc xs r z=>by subst z; rw [r] at mu; exact mu
 by_cases hb:b=x
 ·subst hb; rw [BF] at q; cases q; exact new
 ·rw [A4 hb] at q
  by_cases hbe:b=e
  ·have q':H b=some (.own x):=by
    rcases he with z | z
    ·exact absurd (hbe.trans z) hb
    ·rw [hbe]; exact z
   rw [q] at q'; cases q'
   obtain ⟨v,hv⟩:=heo
   exact ⟨v,by rw [hbe]; exact hv⟩
  ·refine (ok b u q).stay (λc v hc r=>k c v ?_ r) (λc r=>by rw [A4 (nown c b r)]; exact r) λc xs r=>by rw [A4 (ntup c xs r)]; exact r
   rcases hc with rfl | hc
   ·exact hbe
   ·rintro rfl
    rcases he with z | z
    ·exact nown c b hc z
    ·rw [hc] at z; cases z; exact hb rfl
end
structure Un (fs ex:List Addr) (H H':Hp) (h h':Heap):Prop where
 keep:∀ b o,h.get? b=some o->H b=none->b∉fs->b∉ex->h'.get? b=some o
 slot:∀ b o,h.get? b=some o->H b=none->b∈fs->b∉ex->∃ sl,h'.get? b=some { o with slots:=sl }
 free:∀ b o,h.get? b=some o->H b=none->b∉ex->H' b=none
 there:∀ b o,h.get? b=some o->b∉ex->∃ o',h'.get? b=some o'
 tups:∀ b xs,H b=some (.tup xs)->H' b=some (.tup xs)
 frzs:∀ b o u,H b=some (.frz o u)->H' b=some (.frz o u)
 tbls:∀ b ps,H b=some (.tbl ps)->∃ more,H' b=some (.tbl (ps++more))
section
variable {fs fs' ex ex':List Addr} {H H1 H2:Hp} {h h1 h2 h':Heap} {a x e:Addr} {o:HO}
theorem Un.any (u:Un fs ex H H1 h h1) {b:Addr} {ob:Obj} (q:h.get? b=some ob) (n:H b=none) (hx:b∉ex):∃ sl,h1.get? b=some { ob with slots:=sl }:=by
 by_cases hb:b∈fs
 ·exact u.slot b ob q n hb hx
 ·exact ⟨ob.slots,u.keep b ob q n hb hx⟩
theorem Un.kept (k:∀ b u,h.get? b=some u->h'.get? b=some u):Un fs ex H H h h':=
 ⟨λb ob q _ _ _=>k b ob q,λb ob q _ _ _=>⟨ob.slots,k b ob q⟩,λ_ _ _ n _=>n,λb ob q _=>⟨ob,k b ob q⟩,λ_ _ q=>q,λ_ _ _ q=>q,λ_ ps q=>⟨#[],by rw [q]; simp⟩⟩
theorem Un.refl:Un fs ex H H h h:=Un.kept λ_ _ q=>q
theorem Un.laid (k:∀ b u,h.get? b=some u->h'.get? b=some u) (hp:h.objs.size<=a) (hn:H a=none):Un fs ex H (AN H a o) h h' where
 keep:=λb u q _ _ _=>k b u q
 slot:=λb u q _ _ _=>⟨u.slots,k b u q⟩
 free:=λb u q n _=>by rw [A4 (Nat.ne_of_lt (Nat.lt_of_lt_of_le (Heap.lt_size q) hp))]; exact n
 there:=λb u q _=>⟨u,k b u q⟩
 tups:=λb xs q=>by rw [A4 (DQ q hn)]; exact q
 frzs:=λb u xs q=>by rw [A4 (DQ q hn)]; exact q
 tbls:=λb ps q=>⟨#[],by rw [A4 (DQ q hn),q]; simp⟩
theorem Un.write (mu:Jf (H x)) (he:e=x\/H e=some (.own x)) (k:∀ b u,b≠e->h.get? b=some u->h'.get? b=some u) (heo:∃ u,h'.get? e=some u):Un fs ex H (AN H x o) h h':=by
 have hx:∀ b,H b=none->b≠x:=λb n z=>by subst z; rw [n] at mu; exact mu
 have hb:∀ b,H b=none->b≠e:=λb n z=>by
  subst z
  rcases he with r | r
  ·exact hx b n r
  ·rw [n] at r; cases r
 have hm:∀ b u,H b=some u->¬ Jf (some u)->b≠x:=λb u q nm z=>by subst z; rw [q] at mu; exact nm mu
 refine ⟨λb u q n _ _=>k b u (hb b n) q,λb u q n _ _=>⟨u.slots,k b u (hb b n) q⟩,λb u q n _=>by rw [A4 (hx b n)]; exact n,λb u q _=>?_,
  λb xs q=>by rw [A4 (hm b _ q λz=>z)]; exact q,λb u xs q=>by rw [A4 (hm b _ q λz=>z)]; exact q,λb ps q=>⟨#[],by rw [A4 (hm b _ q λz=>z),q]; simp⟩⟩
 by_cases hbe:b=e
 ·subst hbe; exact heo
 ·exact ⟨u,k b u hbe q⟩
end
def HH (h:Heap) (H:Hp):List Addr:=(List.range h.objs.size).filter λa=>(H a).isSome
def Ef (h:Heap) (H:Hp):Heap:=PySem.W.hideAll h (HH h H)
theorem Yc (h:Heap) (H:Hp):(Ef h H).objs.size=h.objs.size:=PySem.W.hideAll_size _ _
theorem Yd {h:Heap} {H:Hp} {b:Addr} {o:Obj} (e:h.get? b=some o) (n:H b=none):(Ef h H).get? b=some o:=
 PySem.W.hideAll_get _ e λhm=>by
  have q:(H b).isSome=true:=(List.mem_filter.mp hm).2
  rw [n] at q; simp at q
theorem WO {h:Heap} {H:Hp} {b:Addr} {o:Obj} (e:(Ef h H).get? b=some o):h.get? b=some o/\H b=none:=by
 have e':h.get? b=some o:=PySem.W.of_hideAll (HH h H) e
 refine ⟨e',?_⟩
 cases q:H b with
 | none=>rfl
 | some x=>
  have hm:b∈HH h H:=List.mem_filter.mpr ⟨List.mem_range.mpr (Heap.lt_size e'),by simp [q]⟩
  have z:(Ef h H).get? b=none:=PySem.W.hideAll_none (HH h H) hm
  rw [z] at e; cases e
def Z3 (g h:Heap) (L:Addr):List (Addr×Obj):=(List.range h.objs.size).filterMap λa=>if a=L\/(g.get? a).isSome=true then none else (h.get? a).map λo=>(a,o)
def rest (g h:Heap) (L d:Addr):List (Addr×Obj):=(Z3 g h L).filter λp=>decide (p.1≠d)
end L2
namespace L2
open PySem PySem.Spec PyProof.Rows
structure Mod (K:PySem.W.Frag) (mg:Str->Option Value) (base:Heap):Prop where
 kin:K.In base
 glob:base.Ns mainGlobals mg
 blt:∃ mb,base.Ns builtinsNs mb/\∀ x:Str,x ≠ "__name__" -> mb x=bootBuiltins x
 nolimit:base.NoLimit
structure Cx where
 prog:Program
 w:World
 K:PySem.W.Frag
 mg:Str->Option Value
 base:Heap
 A:Around
 N:List Str
 s₀:Shared
 H₀:Hp
 env:Env
 outer:List Env
 stack:List Env
 ex:List Addr
 fn:Str->Bool
 calm:Bool
 pn:List (Addr×Obj)
 xe:Value->Shared->Prop
def C0 (l:List Env):List Addr:=l.filterMap (·.frame)
abbrev Cx.fs (X:Cx):List Addr:=C0 X.outer
def Em (sc:Scope) (x:Str):Prop:=sc.names.lookup x=some .local\/sc.names.lookup x=some .cell\/sc.names.lookup x=some .free
def Ep (sc:Scope) (x:Str):Prop:=sc.names.lookup x=some .local\/sc.names.lookup x=some .cell
def Look (env:Env) (h:Heap) (m:Str->Option Value) (x:Str) (u:Value):Prop:=
 (env.kindOf x=some .local/\m x=some u)\/((env.kindOf x=some .cell\/env.kindOf x=some .free)/\∃ c,env.cells.lookup x=some c/\h.IsCell c (some u))
structure Cx.Ok (X:Cx):Prop where
 mod:Mod X.K X.mg X.base
 kind:X.env.scope.kind=.function
 glob:X.env.globals=mainGlobals
 blt:X.env.builtins=builtinsNs
 above:X.s₀.heap.objs.size<=X.env.locals
 inj:∀ x y c,X.env.cells.lookup x=some c->X.env.cells.lookup y=some c->x=y
 has:∀ x,(X.env.kindOf x=some .cell\/X.env.kindOf x=some .free)->∃ c,X.env.cells.lookup x=some c
 cab:∀ x c,X.fn x=true->X.env.cells.lookup x=some c->X.s₀.heap.objs.size<=c
 hd:X.calm=true->X.A.handled=none
 frames:X.A.frames=some X.stack
 stk:X.stack=X.outer\/(X.stack=X.env::X.outer/\X.env.frame=some X.env.locals)
 exf:∀ b∈X.ex,b≠X.env.locals/\∀ x c,X.env.cells.lookup x=some c->c≠b
 bs:∀ b o,X.base.get? b=some o->X.s₀.heap.get? b=some o/\X.H₀ b=none
 bsz:X.base.objs.size<=X.s₀.heap.objs.size
 noex:∀ b o,X.base.get? b=some o->b∉X.ex
 exfs:∀ b∈X.ex,b∉X.fs
 funs:X.s₀.heap.FunFrames X.base X.outer
 frf:∀ b∈X.fs,X.H₀ b=none
structure Inv (X:Cx) (pins:List (Addr×Obj)) (σ:List (Option V)) (H:Hp) (s:Shared):Prop where
 ok:X.Ok
 os:s.os=X.s₀.os
 bare:AllBare s.gens
 base:Un X.fs X.ex X.H₀ H X.s₀.heap s.heap
 loc:∃ m,s.heap.Ns X.env.locals m/\∀ (i:Nat) (x:Str) (v:V),X.N[i]?=some x->σ[i]?=some (some v)->Em X.env.scope x->∃ u,AV v u/\Look X.env s.heap m x u
 cell:∀ x c,X.env.cells.lookup x=some c->∃ v,s.heap.IsCell c v
 free:H X.env.locals=none
 freeC:∀ x c,X.env.cells.lookup x=some c->H c=none
 pin:∀ p∈X.pn++pins,s.heap.get? p.1=some p.2/\H p.1=none/\p.1≠X.env.locals/\p.1∉X.fs/\∀ v,p.2.data≠.cell v
 hok:BJ X.prog X.w H s.heap
 len:σ.length=X.N.length
section
variable {X:Cx} {pins:List (Addr×Obj)} {σ:List (Option V)} {H H':Hp} {s:Shared} {h':Heap}
theorem Cx.Ok.nofr (ok:X.Ok) {b:Addr} {o:Obj} (e:X.base.get? b=some o):b∉X.fs:=λhb=>by
 have:=(ok.funs.mem hb).1
 rw [e] at this; cases this
theorem Inv.bs (I:Inv X pins σ H s):∀ b o,X.base.get? b=some o->s.heap.get? b=some o/\H b=none:=λb o e=>
 ⟨I.base.keep b o (I.ok.bs b o e).1 (I.ok.bs b o e).2 (I.ok.nofr e) (I.ok.noex b o e),I.base.free b o (I.ok.bs b o e).1 (I.ok.bs b o e).2 (I.ok.noex b o e)⟩
theorem Inv.bk (I:Inv X pins σ H s):∀ b o,X.base.get? b=some o->s.heap.get? b=some o:=λb o e=>(I.bs b o e).1
theorem Inv.mod (I:Inv X pins σ H s):Mod X.K X.mg X.base:=I.ok.mod
theorem Inv.kIn (I:Inv X pins σ H s):X.K.In s.heap:=I.ok.mod.kin.keeps I.bk
theorem Inv.lt (I:Inv X pins σ H s):X.env.locals<s.heap.objs.size:=let ⟨_,hn,_⟩:=I.loc; hn.lt
theorem Inv.sz (I:Inv X pins σ H s):X.s₀.heap.objs.size<=s.heap.objs.size:=Nat.le_trans I.ok.above (Nat.le_of_lt I.lt)
theorem Inv.nofs (I:Inv X pins σ H s) {a:Addr} (h:s.heap.objs.size<=a):a∉X.fs:=λhb=>by
 obtain ⟨_,o,ho,_⟩:=I.ok.funs.mem hb
 exact absurd (Nat.lt_of_lt_of_le (Heap.lt_size ho) (Nat.le_trans I.sz h)) (Nat.lt_irrefl _)
theorem Inv.cne (I:Inv X pins σ H s):∀ x c,X.env.cells.lookup x=some c->c≠X.env.locals:=λx c e z=>by
 obtain ⟨v,o,ho,hd⟩:=I.cell x c e
 obtain ⟨m,⟨o',es,ep,ho',hd',_⟩,_⟩:=I.loc
 rw [z,ho'] at ho; cases ho; rw [hd'] at hd; cases hd
theorem Inv.funs (I:Inv X pins σ H s):s.heap.FunFrames X.base X.outer:=by
 have all:∀ (l:List Env),(∀ b∈C0 l,b∈X.fs)->X.s₀.heap.FunFrames X.base l->s.heap.FunFrames X.base l:=by
  intro l
  induction l with
  | nil=>intro _ _; trivial
  | cons env r ih=>
   intro hs hl
   obtain ⟨hk,⟨L,o,hf,hn,ho,hd⟩,hr⟩:=hl
   have hL:L∈X.fs:=hs L (by unfold C0; rw [List.filterMap_cons,hf]; exact List.mem_cons_self)
   obtain ⟨sl,e⟩:=I.base.slot L o ho (I.ok.frf L hL) hL λz=>I.ok.exfs L z hL
   exact ⟨hk,⟨L,_,hf,hn,e,hd⟩,ih (λb hb=>hs b (by unfold C0; rw [List.filterMap_cons,hf]; exact List.mem_cons_of_mem _ hb)) hr⟩
 exact all X.outer (λ_ hb=>hb) I.ok.funs
theorem Inv.stack (I:Inv X pins σ H s):s.heap.FunFrames X.base X.stack:=by
 rcases I.ok.stk with e | ⟨e,hf⟩
 ·rw [e]; exact I.funs
 ·rw [e]
  obtain ⟨m,hn,_⟩:=I.loc
  refine .cons (by rw [I.ok.kind]; decide) hf hn ?_ I.funs
  exact Heap.get?_none_of_le (Nat.le_trans I.ok.bsz I.ok.above)
theorem Inv.stkSub (I:Inv X pins σ H s):∀ b∈C0 X.stack,b∈X.env.locals::X.fs:=λb hb=>by
 rcases I.ok.stk with e | ⟨e,hf⟩
 ·rw [e] at hb; exact List.mem_cons_of_mem _ hb
 ·rw [e] at hb
  unfold C0 at hb
  rw [List.filterMap_cons,hf] at hb
  exact hb
theorem Inv.stkFree (I:Inv X pins σ H s):∀ b∈C0 X.stack,H b=none:=λb hb=>by
 rcases List.mem_cons.mp (I.stkSub b hb) with e | hb
 ·rw [e]; exact I.free
 ·obtain ⟨_,o,ho,_⟩:=I.ok.funs.mem hb
  exact I.base.free b o ho (I.ok.frf b hb) λz=>I.ok.exfs b z hb
theorem Inv.step {g':Array GenState} {t':Nat} {d':Drawn} {ch:List Addr} (I:Inv X pins σ H s)
  (hch:∀ b∈ch,(b∈X.ex\/X.s₀.heap.objs.size<=b)/\b≠X.env.locals/\(∀ x c,X.env.cells.lookup x=some c->c≠b)/\∀ p∈X.pn++pins,p.1≠b)
  (keep:∀ b o,b≠X.env.locals->b∉X.fs->b∉ch->s.heap.get? b=some o->H b=none->h'.get? b=some o)
  (slot:∀ b o,b≠X.env.locals->b∈X.fs->b∉ch->s.heap.get? b=some o->H b=none->∃ sl,h'.get? b=some { o with slots:=sl }) (free:∀ b o,b∉ch->s.heap.get? b=some o->H b=none->H' b=none)
  (there:∀ b o,b∉ch->s.heap.get? b=some o->∃ o',h'.get? b=some o')
  (tups:∀ b xs,H b=some (.tup xs)->H' b=some (.tup xs)) (frzs:∀ b o u,H b=some (.frz o u)->H' b=some (.frz o u)) (tbls:∀ b ps,H b=some (.tbl ps)->∃ more,H' b=some (.tbl (ps++more)))
  (ns:∀ m,s.heap.Ns X.env.locals m->h'.Ns X.env.locals m) (hok:BJ X.prog X.w H' h') (hg:AllBare g') :
  Inv X pins σ H' { s with heap:=h',gens:=g',drawn:=d',toks:=t' }:=by
 have neL:∀ b o,X.s₀.heap.get? b=some o->b≠X.env.locals:=λb o e=>Nat.ne_of_lt (Nat.lt_of_lt_of_le (Heap.lt_size e) I.ok.above)
 have neC:∀ b o,X.s₀.heap.get? b=some o->b∉X.ex->b∉ch:=λb o e hx hb=>by
  rcases (hch b hb).1 with z | z
  ·exact hx z
  ·exact absurd (Nat.lt_of_lt_of_le (Heap.lt_size e) z) (Nat.lt_irrefl _)
 have cellK:∀ x c,X.env.cells.lookup x=some c->∀ v,s.heap.IsCell c v->h'.IsCell c v:=λx c e v ⟨o,ho,hd⟩=>by
  have nch:c∉ch:=λz=>(hch c z).2.2.1 x c e rfl
  by_cases hc:c∈X.fs
  ·obtain ⟨sl,q⟩:=slot c o (I.cne x c e) hc nch ho (I.freeC x c e)
   exact ⟨_,q,hd⟩
  ·exact ⟨o,keep c o (I.cne x c e) hc nch ho (I.freeC x c e),hd⟩
 refine ⟨I.ok,I.os,hg,⟨λb o e n hb hx=>?_,λb o e n hb hx=>?_,λb o e n hx=>?_,λb o e hx=>?_,λb xs e=>tups b xs (I.base.tups b xs e),λb o xs e=>frzs b o xs (I.base.frzs b o xs e),λb ps e=>?_⟩,?_,λx c e=>?_,?_,λx c e=>?_,λp hp=>?_,hok,I.len⟩
 ·exact keep b o (neL b o e) hb (neC b o e hx) (I.base.keep b o e n hb hx) (I.base.free b o e n hx)
 ·obtain ⟨sl,e1⟩:=I.base.slot b o e n hb hx
  obtain ⟨sl',e2⟩:=slot b _ (neL b o e) hb (neC b o e hx) e1 (I.base.free b o e n hx)
  exact ⟨sl',e2⟩
 ·obtain ⟨o',e1⟩:=I.base.there b o e hx
  exact free b o' (neC b o e hx) e1 (I.base.free b o e n hx)
 ·obtain ⟨o',e1⟩:=I.base.there b o e hx
  exact there b o' (neC b o e hx) e1
 ·obtain ⟨m1,e1⟩:=I.base.tbls b ps e
  obtain ⟨m2,e2⟩:=tbls b _ e1
  exact ⟨m1++m2,by rw [e2,Array.append_assoc]⟩
 ·obtain ⟨m,hn,hl⟩:=I.loc
  refine ⟨m,ns m hn,λi x v e1 e2 e3=>?_⟩
  obtain ⟨u,r,l⟩:=hl i x v e1 e2 e3
  refine ⟨u,r,?_⟩
  rcases l with l | ⟨k,c,e,z⟩
  ·exact .inl l
  ·exact .inr ⟨k,c,e,cellK x c e _ z⟩
 ·obtain ⟨v,z⟩:=I.cell x c e
  exact ⟨v,cellK x c e v z⟩
 ·obtain ⟨m,⟨o,_,_,ho,_⟩,_⟩:=I.loc
  exact free _ o (λz=>(hch _ z).2.1 rfl) ho I.free
 ·obtain ⟨v,o,ho,hd⟩:=I.cell x c e
  exact free c o (λz=>(hch c z).2.2.1 x c e rfl) ho (I.freeC x c e)
 ·obtain ⟨e,n,ne,nf,d⟩:=I.pin p hp
  have nch:p.1∉ch:=λz=>(hch p.1 z).2.2.2 p hp rfl
  exact ⟨keep p.1 p.2 ne nf nch e n,free p.1 p.2 nch e n,ne,nf,d⟩
theorem Inv.un {t':Nat} (I:Inv X pins σ H s) (u:Un X.fs [] H H' s.heap h') (hok:BJ X.prog X.w H' h'):Inv X pins σ H' { s with heap:=h',toks:=t' }:=by
 obtain ⟨m,⟨o,es,ep,ho,r⟩,_⟩:=id I.loc
 obtain ⟨sl,hL⟩:=u.any ho I.free (by simp)
 exact I.step (g':=s.gens) (d':=s.drawn) (ch:=[]) (λ_ z=>nomatch z) (λb o _ hb _ e n=>u.keep b o e n hb (by simp)) (λb o _ hb _ e n=>u.slot b o e n hb (by simp)) (λb o _ e n=>u.free b o e n (by simp)) (λb o _ e=>u.there b o e (by simp)) u.tups u.frzs u.tbls (λm' hm=>by
  obtain ⟨o',es',ep',ho',r'⟩:=hm
  rw [ho] at ho'; cases ho'
  exact ⟨_,es',ep',hL,r'⟩) hok I.bare
theorem Inv.call {g':Array GenState} {t':Nat} {d':Drawn} {ch:List Addr} (I:Inv X pins σ H s) (u:Un (C0 X.stack) ch H H' s.heap h') (hok:BJ X.prog X.w H' h') (hg:AllBare g')
  (hch:∀ b∈ch,(b∈X.ex\/X.s₀.heap.objs.size<=b)/\b≠X.env.locals/\(∀ x c,X.env.cells.lookup x=some c->c≠b)/\∀ p∈X.pn++pins,p.1≠b) :
  Inv X pins σ H' { s with heap:=h',gens:=g',drawn:=d',toks:=t' }:=by
 obtain ⟨m,⟨o,es,ep,ho,r⟩,_⟩:=id I.loc
 obtain ⟨sl,hL⟩:=u.any ho I.free λz=>(hch _ z).2.1 rfl
 exact I.step (ch:=ch) hch (λb o hL hb hc e n=>u.keep b o e n (λz=>(List.mem_cons.mp (I.stkSub b z)).elim hL hb) hc) (λb o _ _ hc e n=>u.any e n hc) (λb o hc e n=>u.free b o e n hc) (λb o hc e=>u.there b o e hc) u.tups u.frzs u.tbls (λm' hm=>by
  obtain ⟨o',es',ep',ho',r'⟩:=hm
  rw [ho] at ho'; cases ho'
  exact ⟨_,es',ep',hL,r'⟩) hok hg
theorem Inv.turned {t':Nat} {it:Addr} (I:Inv X pins σ H s) (k:∀ b o,b≠it->s.heap.get? b=some o->h'.get? b=some o) (hn:H it=none) (hL:it≠X.env.locals)
  (h1:it∈X.ex\/X.s₀.heap.objs.size<=it) (h2:∀ x c,X.env.cells.lookup x=some c->c≠it) (h3:∀ p∈X.pn++pins,p.1≠it):Inv X pins σ H { s with heap:=h',toks:=t' }:=by
 have nit:∀ b u,H b=some u->b≠it:=λb u e z=>by rw [z,hn] at e; cases e
 refine I.step (g':=s.gens) (d':=s.drawn) (ch:=[it]) (λb hb=>?_) (λb o _ _ hc e _=>k b o (λz=>hc (by simp [z])) e) (λb o _ _ hc e _=>⟨o.slots,k b o (λz=>hc (by simp [z])) e⟩) (λ_ _ _ _ n=>n)
  (λb o hc e=>⟨o,k b o (λz=>hc (by simp [z])) e⟩) (λ_ _ e=>e) (λ_ _ _ e=>e) (λb ps e=>⟨#[],by rw [e]; simp⟩) (λm hm=>?_) (λb u e=>?_) I.bare
 ·have e:b=it:=by simpa using hb
  subst e
  exact ⟨h1,hL,h2,h3⟩
 ·obtain ⟨o,es,ep,ho,r⟩:=hm
  exact ⟨o,es,ep,k _ o (Ne.symm hL) ho,r⟩
 ·refine (I.hok b u e).stay (λc v hc q=>k c v ?_ q) (λ_ q=>q) λ_ _ q=>q
  rcases hc with z | z
  ·rw [z]; exact nit b u e
  ·exact nit c _ z
theorem Inv.tok (I:Inv X pins σ H s) (t:Nat):Inv X pins σ H { s with toks:=t }:=I.un (h':=s.heap) (t':=t) Un.refl I.hok
theorem Inv.kept {t':Nat} (I:Inv X pins σ H s) (k:∀ b u,s.heap.get? b=some u->h'.get? b=some u):Inv X pins σ H { s with heap:=h',toks:=t' }:=I.un (Un.kept k) (I.hok.kept k)
theorem Inv.laid {a:Addr} {o:HO} {t':Nat} (I:Inv X pins σ H s) (k:∀ b u,s.heap.get? b=some u->h'.get? b=some u) (hp:s.heap.objs.size<=a) (new:B3 X.prog X.w (AN H a o) h' a o) :
  Inv X pins σ (AN H a o) { s with heap:=h',toks:=t' }:=I.un (Un.laid k hp (I.hok.fresh hp)) (I.hok.laid k hp new)
theorem Inv.write {x e:Addr} {o:HO} {t':Nat} (I:Inv X pins σ H s) (mu:Jf (H x)) (he:e=x\/H e=some (.own x)) (k:∀ b u,b≠e->s.heap.get? b=some u->h'.get? b=some u) (heo:∃ u,h'.get? e=some u)
  (new:B3 X.prog X.w (AN H x o) h' x o):Inv X pins σ (AN H x o) { s with heap:=h',toks:=t' }:=I.un (Un.write mu he k heo) (I.hok.write mu he k heo new)
theorem Inv.pins_of {pins':List (Addr×Obj)} (I:Inv X pins σ H s) (h:∀ p∈pins',s.heap.get? p.1=some p.2/\H p.1=none/\p.1≠X.env.locals/\p.1∉X.fs/\∀ v,p.2.data≠.cell v):Inv X pins' σ H s:=
 ⟨I.ok,I.os,I.bare,I.base,I.loc,I.cell,I.free,I.freeC,λp hp=>(List.mem_append.mp hp).elim (λz=>I.pin p (List.mem_append_left _ z)) (h p),I.hok,I.len⟩
theorem Pl {N:List Str} (hN:N.Nodup) {i j:Nat} {x:Str} (a:N[i]?=some x) (b:N[j]?=some x):i=j:=by
 obtain ⟨h1,e1⟩:=List.getElem?_eq_some_iff.mp a
 obtain ⟨h2,e2⟩:=List.getElem?_eq_some_iff.mp b
 exact (List.getElem_inj hN).mp (e1.trans e2.symm)
theorem Nl {M:Model} {A:Around} {E:Value->Shared->Prop} {i:Nat} {x:Str} {v:V} {u:Value} {Q:Unit->Shared->Prop} (I:Inv X pins σ H s) (hN:X.N.Nodup) (hi:X.N[i]?=some x) (hx:Ep X.env.scope x) (r:AV v u)
  (h:∀ s',Inv X pins (σ.set i (some v)) H s'->(∃ a,Heap.SameBut a s.heap s'.heap/\(a=X.env.locals\/X.env.cells.lookup x=some a))->Q () s') (hf:X.fn x=true\/X.env.scope.names.lookup x=some .local:=by first | exact .inl rfl | exact .inr rfl | assumption):wpAny M A (storeName X.env x u) Q E s:=by
 obtain ⟨m,hn,hl⟩:=id I.loc
 have hcls:(X.env.scope.kind==.class||(X.env.scope.kind==.module&&X.env.locals != X.env.globals))=false:=by rw [I.ok.kind]; rfl
 have hiσ:i<σ.length:=by rw [I.len]; exact (List.getElem?_eq_some_iff.mp hi).1
 have cne:=I.cne
 have tracked:∀ {a:Addr} {h':Heap},(∃ o,s.heap.get? a=some o/\H a=none)->Heap.SameBut a s.heap h'->BJ X.prog X.w H h':=λ{a h'} ha hs b ob e=>by
  obtain ⟨_,_,hfree⟩:=ha
  refine (I.hok b ob e).stay (λc w' hc q=>(hs.2 c ?_).trans q) (λ_ q=>q) λ_ _ q=>q
  rintro rfl
  rcases hc with rfl | hc
  ·rw [hfree] at e; cases e
  ·rw [hfree] at hc; cases hc
 rcases hx with hk | hk
 ·refine wpAny_storeName_local hk hn (λh' hn' hs=>?_) hcls
  obtain ⟨oL,_,_,hoL,_⟩:=id hn
  refine h _ ⟨I.ok,I.os,I.bare,⟨λb o e n hb hx=>?_,λb o e n hb hx=>?_,I.base.free,λb o e hx=>?_,I.base.tups,I.base.frzs,I.base.tbls⟩,⟨_,hn',λj y v' e1 e2 e3=>?_⟩,λy c e=>?_,I.free,I.freeC,λp hp=>?_,tracked ⟨oL,hoL,I.free⟩ hs,by simpa using I.len⟩ ⟨_,hs,.inl rfl⟩
  ·exact (hs.2 b (Nat.ne_of_lt (Nat.lt_of_lt_of_le (Heap.lt_size e) I.ok.above))).trans (I.base.keep b o e n hb hx)
  ·obtain ⟨sl,e1⟩:=I.base.slot b o e n hb hx
   exact ⟨sl,(hs.2 b (Nat.ne_of_lt (Nat.lt_of_lt_of_le (Heap.lt_size e) I.ok.above))).trans e1⟩
  ·obtain ⟨o',e1⟩:=I.base.there b o e hx
   exact ⟨o',(hs.2 b (Nat.ne_of_lt (Nat.lt_of_lt_of_le (Heap.lt_size e) I.ok.above))).trans e1⟩
  ·by_cases hj:j=i
   ·subst hj
    rw [hi] at e1; cases e1
    rw [List.getElem?_set_self hiσ] at e2
    cases e2
    exact ⟨u,r,.inl ⟨hk,by simp⟩⟩
   ·rw [List.getElem?_set_ne (Ne.symm hj)] at e2
    obtain ⟨u',r',q⟩:=hl j y v' e1 e2 e3
    refine ⟨u',r',?_⟩
    rcases q with ⟨k,e⟩ | ⟨k,c,e,z⟩
    ·refine .inl ⟨k,?_⟩
     have:y≠x:=λe=>hj (Pl hN e1 (e ▸ hi))
     simp [this,e]
    ·exact .inr ⟨k,c,e,z.sameBut hs (cne y c e)⟩
  ·obtain ⟨w',z⟩:=I.cell y c e
   exact ⟨w',z.sameBut hs (cne y c e)⟩
  ·obtain ⟨e,n,ne,nf,d⟩:=I.pin p hp
   exact ⟨(hs.2 p.1 ne).trans e,n,ne,nf,d⟩
 ·have hfn:X.fn x=true:=by
   rcases hf with z | z
   ·exact z
   ·rw [z] at hk; cases hk
  obtain ⟨c,hc⟩:=I.ok.has x (.inl hk)
  obtain ⟨w',z⟩:=I.cell x c hc
  refine wpAny_storeName_cell I.ok.kind hk hc z (λh' hc' hs=>?_)
  obtain ⟨oc,hoc,hocd⟩:=id z
  refine h { s with heap:=h' } ⟨I.ok,I.os,I.bare,⟨λb o e n hb hx=>?_,λb o e n hb hx=>?_,I.base.free,λb o e hx=>?_,I.base.tups,I.base.frzs,I.base.tbls⟩,⟨m,hn.sameBut hs (Ne.symm (cne x c hc)),λj y v' e1 e2 e3=>?_⟩,λy c' e=>?_,I.free,I.freeC,λp hp=>?_,tracked ⟨oc,hoc,I.freeC x c hc⟩ hs,by simpa using I.len⟩ ⟨c,hs,.inr hc⟩
  ·exact (hs.2 b (Nat.ne_of_lt (Nat.lt_of_lt_of_le (Heap.lt_size e) (I.ok.cab x c hfn hc)))).trans (I.base.keep b o e n hb hx)
  ·obtain ⟨sl,e1⟩:=I.base.slot b o e n hb hx
   exact ⟨sl,(hs.2 b (Nat.ne_of_lt (Nat.lt_of_lt_of_le (Heap.lt_size e) (I.ok.cab x c hfn hc)))).trans e1⟩
  ·obtain ⟨o',e1⟩:=I.base.there b o e hx
   exact ⟨o',(hs.2 b (Nat.ne_of_lt (Nat.lt_of_lt_of_le (Heap.lt_size e) (I.ok.cab x c hfn hc)))).trans e1⟩
  ·by_cases hj:j=i
   ·subst hj
    rw [hi] at e1; cases e1
    rw [List.getElem?_set_self hiσ] at e2
    cases e2
    exact ⟨u,r,.inr ⟨.inl hk,c,hc,hc'⟩⟩
   ·rw [List.getElem?_set_ne (Ne.symm hj)] at e2
    obtain ⟨u',r',q⟩:=hl j y v' e1 e2 e3
    refine ⟨u',r',?_⟩
    rcases q with q | ⟨k,c',e,z'⟩
    ·exact .inl q
    ·refine .inr ⟨k,c',e,z'.sameBut hs ?_⟩
     rintro rfl
     exact hj (Pl hN e1 (I.ok.inj _ _ _ e hc ▸ hi))
  ·by_cases hcc:c'=c
   ·subst hcc; exact ⟨_,hc'⟩
   ·obtain ⟨w2,z2⟩:=I.cell y c' e
    exact ⟨w2,z2.sameBut hs hcc⟩
  ·obtain ⟨e,n,ne,nf,d⟩:=I.pin p hp
   refine ⟨(hs.2 p.1 ?_).trans e,n,ne,nf,d⟩
   intro q
   rw [q,hoc] at e
   have q':oc=p.2:=Option.some.inj e
   exact d w' (by rw [<- q']; exact hocd)
theorem Nm {M:Model} {A:Around} {E:Value->Shared->Prop} {i:Nat} {x:Str} {v:V} {u:Value} {Q:Unit->Shared->Prop} (I:Inv X pins σ H s) (hN:X.N.Nodup) (hi:X.N[i]?=some x) (hx:Ep X.env.scope x) (r:AV v u)
  (h:∀ s',Inv X pins (σ.set i (some v)) H s'->Q () s') (hf:X.fn x=true\/X.env.scope.names.lookup x=some .local:=by first | exact .inl rfl | exact .inr rfl | assumption):wpAny M A (storeName X.env x u) Q E s:=
 Nl I hN hi hx r (λs' I' _=>h s' I') hf
theorem Inv.call' {s':Shared} {ch:List Addr} (I:Inv X pins σ H s) (ho:s'.os=s.os) (u:Un (C0 X.stack) ch H H' s.heap s'.heap) (hok:BJ X.prog X.w H' s'.heap) (hg:AllBare s'.gens)
  (hch:∀ b∈ch,(b∈X.ex\/X.s₀.heap.objs.size<=b)/\b≠X.env.locals/\(∀ x c,X.env.cells.lookup x=some c->c≠b)/\∀ p∈X.pn++pins,p.1≠b):Inv X pins σ H' s':=by
 obtain ⟨h',g',d',t',o'⟩:=s'
 have e:o'=s.os:=ho
 subst e
 exact I.call (g':=g') (t':=t') (d':=d') u hok hg hch
end
abbrev XK:=Value->Option Addr->Hp->Prop
abbrev St:=List (Option V)
abbrev VK:=V->Hp->Prop
abbrev TE:=St->Hp->VK->Prop
abbrev TT:=St->Hp->(Bool->Hp->Prop)->Prop
abbrev TA:=St->Hp->(List V->Hp->Prop)->Prop
structure Fu where
 nx:St->Hp->Prop
 rt:VK
 bk:St->Hp->Prop:=λ_ _=>False
 ct:St->Hp->Prop:=λ_ _=>False
abbrev TS:=Fu->St->Hp->Prop
def EP (X:Cx) (pins:List (Addr×Obj)) (σ:St) (Q:VK) (u:Value) (s':Shared):Prop:=∃ v H',Inv X pins σ H' s'/\AV v u/\Q v H'
def TP (X:Cx) (pins:List (Addr×Obj)) (σ:St) (Q:Bool->Hp->Prop) (b:Bool) (s':Shared):Prop:=∃ H',Inv X pins σ H' s'/\Q b H'
def AP (X:Cx) (pins:List (Addr×Obj)) (σ:St) (Q:List V->Hp->Prop) (us:List Value) (s':Shared):Prop:=∃ vs H',Inv X pins σ H' s'/\AC vs us/\Q vs H'
def SP (X:Cx) (pins:List (Addr×Obj)) (D:Fu) (f:Flow) (s':Shared):Prop:=
 match f with
 | .next=>∃ σ' H',Inv X pins σ' H' s'/\D.nx σ' H'
 | .brk=>∃ σ' H',Inv X pins σ' H' s'/\D.bk σ' H'
 | .cont=>∃ σ' H',Inv X pins σ' H' s'/\D.ct σ' H'
 | .ret u=>∃ v σ' H',Inv X pins σ' H' s'/\AV v u/\D.rt v H'
def PE (X:Cx) (e:Expr) (t:TE):Prop:=
 ∀ (pins:List (Addr×Obj)) (s:Shared) (σ:St) (H:Hp) (Q:VK),Inv X pins σ H s->t σ H Q->wpAny (model X.prog X.w) X.A (eval e X.env) (EP X pins σ Q) X.xe s
def PT (X:Cx) (e:Expr) (t:TT):Prop:=
 ∀ (pins:List (Addr×Obj)) (s:Shared) (σ:St) (H:Hp) (Q:Bool->Hp->Prop),Inv X pins σ H s->t σ H Q->wpAny (model X.prog X.w) X.A (isTrue e X.env (eval e X.env)) (TP X pins σ Q) X.xe s
def PW (X:Cx) (e:Expr) (t:TT):Prop:=
 ∀ (whole:Sem Value) (pins:List (Addr×Obj)) (s:Shared) (σ:St) (H:Hp) (Q:Bool->Hp->Prop),Inv X pins σ H s->t σ H Q->wpAny (model X.prog X.w) X.A (isTrue e X.env whole) (TP X pins σ Q) X.xe s
theorem PW.pt {X:Cx} {e:Expr} {t:TT} (h:PW X e t):PT X e t:=h _
def PA (X:Cx) (es:List Expr) (t:TA):Prop:=
 ∀ (pos:Pos) (pins:List (Addr×Obj)) (s:Shared) (σ:St) (H:Hp) (Q:List V->Hp->Prop),Inv X pins σ H s->t σ H Q->wpAny (model X.prog X.w) X.A (spliced (backTo pos (starEach es X.env))) (AP X pins σ Q) X.xe s
def PS (X:Cx) (st:Stmt) (t:TS):Prop:=
 ∀ (pins:List (Addr×Obj)) (s:Shared) (σ:St) (H:Hp) (D:Fu),Inv X pins σ H s->t D σ H->wpAny (model X.prog X.w) X.A (exec st X.env) (SP X pins D) X.xe s
def PSs (X:Cx) (st:List Stmt) (t:TS):Prop:=
 ∀ (pins:List (Addr×Obj)) (s:Shared) (σ:St) (H:Hp) (D:Fu),Inv X pins σ H s->t D σ H->wpAny (model X.prog X.w) X.A (execs st X.env) (SP X pins D) X.xe s
theorem Ar {α:Type} {t:Sem α} {Q Q':α->Shared->Prop} {M:Model} {A:Around} {E:Value->Shared->Prop} {s:Shared} (h:wpAny M A t Q E s) (hQ:∀ a s,Q a s->Q' a s):wpAny M A t Q' E s:=wpAny_mono h hQ λ_ _ x=>x
end L2
namespace L2
open PySem PySem.Spec PyProof.Rows
section
variable {X:Cx}
def R4 (i:Nat):TE:=λσ H Q=>∃ v,σ[i]?=some (some v)/\Q v H
def tC (v:V):TE:=λ_ H Q=>Q v H
theorem U1 {i:Nat} {x:Str} {pos:Pos} (hN:X.N[i]?=some x) (hv:Em X.env.scope x) (hd:(x==("__debug__" : Str))=false:=by decide) (hcd:(x==("__classdict__" : Str))=false:=by decide):PE X (.Name x pos) (R4 i):=by
 intro pins s σ H Q I h
 obtain ⟨v,e,h⟩:=h
 obtain ⟨m,hn,hl⟩:=I.loc
 obtain ⟨u,r,l⟩:=hl i x v hN e hv
 have fin:EP X pins σ Q u s:=⟨v,H,I,r,h⟩
 rcases l with ⟨hk,hm⟩ | ⟨hk,c,hc,hcell⟩
 ·exact wpAny_Name (wpAny_loadName_local I.ok.kind hk hn hm fin) hd
 ·rcases hk with hk | hk
  ·exact wpAny_Name (wpAny_loadName_cell I.ok.kind hk hc hcell fin) hd
  ·exact wpAny_Name (wpAny_loadName_free I.ok.kind hk hc hcell fin hcd) hd
theorem Va {i j pos}:PE X (.Constant (.int i) j pos) (tC (.int i)):=λ_ _ _ H _ I h=>wpAny_Constant_int ⟨.int i,H,I.tok _,⟨_,rfl⟩,h⟩
theorem Ve {b j pos}:PE X (.Constant (.bool b) j pos) (tC (.bl b)):=λ_ _ _ H _ I h=>Constant_bool ⟨.bl b,H,I,rfl,h⟩
theorem U7 {j pos}:PE X (.Constant .none j pos) (tC .non):=λ_ _ _ H _ I h=>Constant_none ⟨.non,H,I,rfl,h⟩
theorem U3 {x j pos}:PE X (.Constant (.str x) j pos) (tC (.str x)):=λ_ _ _ H _ I h=>Calls.Constant_str ⟨.str x,H,I.tok _,⟨_,rfl⟩,h⟩
def Gl (X:Cx) (x:Str):Prop:=X.env.kindOf x=some .globalImplicit
theorem ID {E:Value->Shared->Prop} {pins:List (Addr×Obj)} {s:Shared} {σ:St} {H:Hp} {x:Str} {u:Value} {pos:Pos} {Q:Value->Shared->Prop} (I:Inv X pins σ H s) (hg:Gl X x) (hm:X.mg x=some u) (h:Q u s)
  (hd:(x==("__debug__" : Str))=false:=by decide):wpAny (model X.prog X.w) X.A (eval (.Name x pos) X.env) Q E s:=
 Calls.Name_function_global I.ok.kind hg (Calls.loadGlobal_global (by rw [I.ok.glob]; exact I.mod.glob.keeps I.bk) hm h) hd
theorem EE {E:Value->Shared->Prop} {pins:List (Addr×Obj)} {s:Shared} {σ:St} {H:Hp} {x:Str} {u:Value} {pos:Pos} {Q:Value->Shared->Prop} (I:Inv X pins σ H s) (hg:Gl X x) (hm:X.mg x=none) (hv:bootBuiltins x=some u) (h:Q u s)
  (hn:x ≠ "__name__" := by decide) (hd:(x==("__debug__" : Str))=false:=by decide):wpAny (model X.prog X.w) X.A (eval (.Name x pos) X.env) Q E s:=by
 obtain ⟨mb,h1,h2⟩:=I.mod.blt
 exact Calls.Name_function_global I.ok.kind hg (Calls.loadGlobal_builtin (by rw [I.ok.glob]; exact I.mod.glob.keeps I.bk) hm (by rw [I.ok.blt]; exact h1.keeps I.bk) ((h2 x hn).trans hv) h) hd
theorem OW {x:Str} {v:V} {u:Value} {pos:Pos} (hg:Gl X x) (hm:X.mg x=some u) (r:AV v u) (hd:(x==("__debug__" : Str))=false:=by decide):PE X (.Name x pos) (tC v):=
 λ_ _ _ H _ I h=>ID I hg hm ⟨v,H,I,r,h⟩ hd
theorem Vd {x:Str} {v:V} {u:Value} {pos:Pos} (hg:Gl X x) (hm:X.mg x=none) (hv:bootBuiltins x=some u) (r:AV v u) (hn:x ≠ "__name__" := by decide) (hd:(x==("__debug__" : Str))=false:=by decide):PE X (.Name x pos) (tC v):=
 λ_ _ _ H _ I h=>EE I hg hm hv ⟨v,H,I,r,h⟩ hn hd
variable {a b:Expr} {ta tb:TE} {pos:Pos}
variable {tA tB':TT} {rest:List Expr}
def Sc (t:TT):TT:=λσ H Q=>t σ H λc H1=>Q (!c) H1
theorem Um (ha:PT X a tA):PW X (.BoolOp .And [a] pos) tA:=by
 intro wh pins s σ H Q I h
 refine isTrue_and (Ar (ha pins s σ H Q I h) λc s1 e=>?_)
 cases c with
 | true=>exact isTrue_and_nil e
 | false=>exact e
theorem Ul (ha:PT X a tA):PW X (.BoolOp .Or [a] pos) tA:=by
 intro wh pins s σ H Q I h
 refine isTrue_or (Ar (ha pins s σ H Q I h) λc s1 e=>?_)
 cases c with
 | false=>exact isTrue_or_nil e
 | true=>exact e
theorem UD (ha:PT X a tA):PT X (.UnaryOp .Not a pos) (Sc tA):=by
 intro pins s σ H Q I h
 exact isTrue_not (ha pins s σ H (λc H1=>Q (!c) H1) I h)
def Sb (ta:TE):TE:=λσ H Q=>ta σ H λx H1=>∃ c,x=.bl c/\Q (.bl (!c)) H1
theorem U5 {op} {t:TE} (h:PE X a t):PE X (.BoolOp op [a] pos) t:=λpins s σ H Q I hw=>BoolOp_one (h pins s σ H Q I hw)
theorem U6 (ha:PE X a ta):PE X (.UnaryOp .Not a pos) (Sb ta):=by
 intro pins s σ H Q I h
 refine UnaryOp_ (Ar (ha pins s σ H _ I h) λv s1 ⟨x,H1,I1,r1,q1⟩=>?_)
 obtain ⟨c,rfl,q1⟩:=q1
 cases r1
 exact not_of (wpAny_truthy_bool ⟨.bl (!c),H1,I1,rfl,q1⟩)
def tIf (t:TT) (ta tb:TE):TE:=λσ H Q=>t σ H λc H1=>if c=true then ta σ H1 Q else tb σ H1 Q
theorem OV {c:Expr} (hc:PT X c tA) (ha:PE X a ta) (hb:PE X b tb):PE X (.IfExp c a b pos) (tIf tA ta tb):=by
 intro pins s σ H Q I h
 refine wpAny_IfExp (Ar (hc pins s σ H _ I h) λd s1 ⟨H1,I1,q1⟩=>?_)
 cases d with
 | true=>exact ha pins s1 σ H1 Q I1 q1
 | false=>exact hb pins s1 σ H1 Q I1 q1
end
end L2
namespace L2
open PySem PySem.Spec PyProof.Rows
def Ba (K:PySem.W.Frag) (H:Hp) (a:Addr) (xs:List V):Prop:=
 Rd H a (.lst xs) \/
  ∃ (o:Obj) (its:Array Value) (n:Nat),K.lookup a=some o/\o.cls=.type "list" /\ o.dict=none/\o.data=.seq its n/\its.size<=sizeLine/\AC xs its.toList
def Bu (K:PySem.W.Frag) (H:Hp) (a:Addr) (xs:List V):Prop:=
 Rd H a (.tup xs) \/
  ∃ (o:Obj) (its:Array Value) (n:Nat),K.lookup a=some o/\o.cls=.type "tuple" /\ o.dict=none/\o.data=.seq its n/\its.size<=sizeLine/\AC xs its.toList
def Z5:Value->Option V
 | .none=>some .non
 | .bool b=>some (.bl b)
 | .int i _=>some (.int i)
 | .str x _=>some (.str x)
 | .bytes b _=>some (.byt b)
 | .float b _=>some (.flt b)
 | .ref a=>some (.ref a)
 | .type n=>some (.ty n)
 | _=>none
theorem AV.abs {x:V} {u:Value} (r:AV x u):Z5 u=some x:=by
 cases x with
 | non=>cases r; rfl
 | bl _=>cases r; rfl
 | int _=>obtain ⟨t,rfl⟩:=r; rfl
 | str _=>obtain ⟨t,rfl⟩:=r; rfl
 | byt _=>obtain ⟨t,rfl⟩:=r; rfl
 | flt _=>obtain ⟨t,rfl⟩:=r; rfl
 | ref _=>cases r; rfl
 | ty _=>cases r; rfl
theorem AV.inj {x y:V} {u:Value} (r:AV x u) (q:AV y u):x=y:=Option.some.inj (r.abs.symm.trans q.abs)
theorem AC.inj:∀ {xs ys:List V} {us:List Value},AC xs us->AC ys us->xs=ys
 | _,_,_,.nil,.nil=>rfl
 | _,_,_,.cons r t,.cons r' t'=>by rw [r.inj r',AC.inj t t']
section
variable {X:Cx} {pins:List (Addr×Obj)} {σ:St} {H:Hp} {s:Shared} {a:Addr} {xs ys:List V}
theorem Ba.of {K:PySem.W.Frag} (h:H a=some (.lst xs)):Ba K H a xs:=.inl (.inl h)
theorem Bu.of {K:PySem.W.Frag} (h:H a=some (.tup xs)):Bu K H a xs:=.inl (.inl h)
theorem Inv.list (I:Inv X pins σ H s) (h:Ba X.K H a xs):∃ its:List Value,AC xs its/\PlainL s.heap a its.toArray/\xs.length<=sizeLine:=by
 rcases h with h | ⟨o,its,n,hk,hc,hd,hs,hz,r⟩
 ·obtain ⟨z,its,n,r,e⟩:=h.ok I.hok
  exact ⟨its,r,⟨_,n,e,rfl,rfl,rfl⟩,z⟩
 ·refine ⟨its.toList,r,⟨o,n,I.kIn a o hk,hc,hd,by simpa using hs⟩,?_⟩
  have e:=r.length
  simp only [Array.length_toList] at e
  omega
theorem Inv.tuple (I:Inv X pins σ H s) (h:Bu X.K H a xs):∃ its:List Value,AC xs its/\IsTup s.heap a its.toArray/\xs.length<=sizeLine:=by
 rcases h with h | ⟨o,its,n,hk,hc,_,hs,hz,r⟩
 ·obtain ⟨z,its,r,p⟩:=h.ok I.hok
  exact ⟨its,r,p.t,z⟩
 ·refine ⟨its.toList,r,⟨o,I.kIn a o hk,hc,n,by simpa using hs⟩,?_⟩
  have e:=r.length
  simp only [Array.length_toList] at e
  omega
theorem Inv.tupN (I:Inv X pins σ H s) (h:Bu X.K H a xs):∃ its:List Value,AC xs its/\En s.heap a its.toArray/\xs.length<=sizeLine:=by
 rcases h with h | ⟨o,its,n,hk,hc,hd,hs,hz,r⟩
 ·obtain ⟨z,its,r,p⟩:=h.ok I.hok
  exact ⟨its,r,p,z⟩
 ·refine ⟨its.toList,r,⟨o,I.kIn a o hk,hd,hc,n,by simpa using hs⟩,?_⟩
  have e:=r.length
  simp only [Array.length_toList] at e
  omega
theorem Inv.list_inj (I:Inv X pins σ H s) (h:Ba X.K H a xs) (h':Ba X.K H a ys):xs=ys:=by
 obtain ⟨its,r,⟨o,n,e,_,_,d⟩,_⟩:=I.list h
 obtain ⟨its',r',⟨o',n',e',_,_,d'⟩,_⟩:=I.list h'
 rw [e] at e'; cases e'
 rw [d] at d'
 injection d' with d1 _
 have:its=its':=by simpa using congrArg Array.toList d1
 subst this
 exact r.inj r'
theorem Inv.tuple_inj (I:Inv X pins σ H s) (h:Bu X.K H a xs) (h':Bu X.K H a ys):xs=ys:=by
 obtain ⟨its,r,⟨o,e,_,n,d⟩,_⟩:=I.tuple h
 obtain ⟨its',r',⟨o',e',_,n',d'⟩,_⟩:=I.tuple h'
 rw [e] at e'; cases e'
 rw [d] at d'
 injection d' with d1 _
 have:its=its':=by simpa using congrArg Array.toList d1
 subst this
 exact r.inj r'
end
abbrev Cx.wish (X:Cx) (E:Value->Shared->Prop):Cx:={ X with xe:=E }
abbrev Cx.nox (X:Cx):Cx:=X.wish λ_ _=>False
theorem Cx.Ok.wish {X:Cx} (ok:X.Ok) (E:Value->Shared->Prop):(X.wish E).Ok:=
 ⟨ok.mod,ok.kind,ok.glob,ok.blt,ok.above,ok.inj,ok.has,ok.cab,ok.hd,ok.frames,ok.stk,ok.exf,ok.bs,ok.bsz,ok.noex,ok.exfs,ok.funs,ok.frf⟩
theorem Cx.Ok.unwish {X:Cx} {E:Value->Shared->Prop} (ok:(X.wish E).Ok):X.Ok:=
 ⟨ok.mod,ok.kind,ok.glob,ok.blt,ok.above,ok.inj,ok.has,ok.cab,ok.hd,ok.frames,ok.stk,ok.exf,ok.bs,ok.bsz,ok.noex,ok.exfs,ok.funs,ok.frf⟩
section
variable {X:Cx} {pins:List (Addr×Obj)} {σ:St} {H:Hp} {s:Shared} {E:Value->Shared->Prop}
theorem Inv.wish (I:Inv X pins σ H s) (E:Value->Shared->Prop):Inv (X.wish E) pins σ H s:=⟨I.ok.wish E,I.os,I.bare,I.base,I.loc,I.cell,I.free,I.freeC,I.pin,I.hok,I.len⟩
theorem Inv.unwish (I:Inv (X.wish E) pins σ H s):Inv X pins σ H s:=⟨I.ok.unwish,I.os,I.bare,I.base,I.loc,I.cell,I.free,I.freeC,I.pin,I.hok,I.len⟩
theorem SP.unwish {D:Fu} {f:Flow} {s':Shared} (h:SP (X.wish E) pins D f s'):SP X pins D f s':=by
 cases f with
 | next=>obtain ⟨σ',H',I,q⟩:=h; exact ⟨σ',H',I.unwish,q⟩
 | brk=>obtain ⟨σ',H',I,q⟩:=h; exact ⟨σ',H',I.unwish,q⟩
 | cont=>obtain ⟨σ',H',I,q⟩:=h; exact ⟨σ',H',I.unwish,q⟩
 | ret u=>obtain ⟨v,σ',H',I,r,q⟩:=h; exact ⟨v,σ',H',I.unwish,r,q⟩
theorem PSs.nox {st:List Stmt} {t:TS} (h:PSs X.nox st t):PSs X st t:=λpins s σ H D I hw=>
 wpAny_mono (h pins s σ H D (I.wish _) hw) (λ_ _ q=>q.unwish) λ_ _ z=>False.elim z
end
section
variable {X:Cx} {st:Stmt} {rest:List Stmt} {t u:TS} {e:Expr} {te:TE} {pos:Pos}
def Se:TS:=λD σ H=>D.nx σ H
def R7 (t u:TS):TS:=λD σ H=>t { D with nx:=u D } σ H
theorem UE:PSs X [] Se:=λ_ _ σ H _ I h=>wpAny_execs_nil ⟨σ,H,I,h⟩
theorem UF (h1:PS X st t) (h2:PSs X rest u):PSs X (st::rest) (R7 t u):=by
 intro pins s σ H D I h
 refine wpAny_execs_cons (Ar (h1 pins s σ H { D with nx:=u D } I h) λf s1 q=>?_)
 cases f with
 | next=>
  obtain ⟨σ',H',I',q⟩:=q
  exact h2 pins s1 σ' H' D I' q
 | ret v=>exact q
 | brk=>exact q
 | cont=>exact q
theorem Inv.quiet {pins:List (Addr×Obj)} {σ:St} {H:Hp} {s:Shared} (I:Inv X pins σ H s):interactive X.env=false:=by simp [interactive,I.ok.kind]
def Sl (te:TE):TS:=λD σ H=>te σ H λ_ H1=>D.nx σ H1
theorem Ln (he:PE X e te) (hs:swapsWith e none pos.line X.env=pure false:=by rfl):PS X (.Expr e pos) (Sl te):=by
 intro pins s σ H D I h
 exact wpAny_Expr_any (Ar (he pins s σ H _ I h) λv s1 ⟨x,H1,I1,r1,q1⟩=>⟨σ,H1,I1,q1⟩) I.quiet hs
def R8 (te:TE):TS:=λD σ H=>te σ H D.rt
theorem UI (he:PE X e te):PS X (.Return (some e) pos) (R8 te):=by
 intro pins s σ H D I h
 exact wpAny_Return_some (Ar (he pins s σ H _ I h) λv s1 ⟨x,H1,I1,r1,q1⟩=>⟨x,σ,H1,I1,r1,q1⟩)
def Sh (c:TT) (t u:TS):TS:=λD σ H=>c σ H λb H1=>if b=true then t D σ H1 else u D σ H1
theorem UJ {c:Expr} {a b:List Stmt} {tc:TT} (hc:PT X c tc) (ha:PSs X a t) (hb:PSs X b u):PS X (.If c a b pos) (Sh tc t u):=by
 intro pins s σ H D I h
 refine wpAny_If (Ar (hc pins s σ H _ I h) λd s1 ⟨H1,I1,q1⟩=>?_)
 cases d with
 | true=>exact ha pins s1 σ H1 D I1 q1
 | false=>exact hb pins s1 σ H1 D I1 q1
end
abbrev TG:=V->St->Hp->(St->Hp->Prop)->Prop
abbrev Fo:=List V->St->Hp->(St->Hp->Prop)->Prop
def PG (X:Cx) (target:Expr) (t:TG):Prop:=
 ∀ (pins:List (Addr×Obj)) (s:Shared) (σ:St) (H:Hp) (v:V) (u:Value) (Q:St->Hp->Prop),Inv X pins σ H s->AV v u->t v σ H Q->
  wpAny (model X.prog X.w) X.A (assign target X.env u) (λ_ s'=>∃ σ' H',Inv X pins σ' H' s'/\Q σ' H') X.xe s
def Hm (X:Cx) (ts:List Expr) (t:Fo):Prop:=
 ∀ (pins:List (Addr×Obj)) (s:Shared) (σ:St) (H:Hp) (vs:List V) (us:List Value) (Q:St->Hp->Prop),Inv X pins σ H s->AC vs us->t vs σ H Q->
  wpAny (model X.prog X.w) X.A (assignInOrder ((assignEach ts X.env).map (·.2)) us) (λ_ s'=>∃ σ' H',Inv X pins σ' H' s'/\Q σ' H') X.xe s
abbrev Mt:=V->V->V->Hp->(Hp->Prop)->Prop
def Q7 (X:Cx) (t:Mt):Prop:=
 ∀ (pins:List (Addr×Obj)) (s:Shared) (σ:St) (H:Hp) (o i v:V) (ov iv u:Value) (Q:Hp->Prop),Inv X pins σ H s->AV o ov->AV i iv->AV v u->t o i v H Q->
  wpAny (model X.prog X.w) X.A (setItem ov iv u) (λ_ s'=>∃ H',Inv X pins σ H' s'/\Q H') X.xe s
section
variable {X:Cx} {pos:Pos}
def P5 (i:Nat):TG:=λv σ H Q=>Q (σ.set i (some v)) H
theorem U0 {i:Nat} {x:Str} (hN:X.N.Nodup) (hi:X.N[i]?=some x) (hx:Ep X.env.scope x) (hf:X.fn x=true\/X.env.scope.names.lookup x=some .local:=by first | exact .inl rfl | exact .inr rfl | assumption):PG X (.Name x pos) (P5 i):=by
 intro pins s σ H v u Q I r h
 exact wpAny_assign_Name (Nm I hN hi hx r (λs' I'=>⟨_,H,I',h⟩) hf)
def Yq:Fo:=λvs σ H Q=>vs=[]/\Q σ H
def Yr (t:TG) (u:Fo):Fo:=λvs σ H Q=>∃ v r,vs=v::r/\t v σ H λσ' H'=>u r σ' H' Q
theorem UW:Hm X [] Yq:=by
 intro pins s σ H vs us Q I r h
 obtain ⟨e,h⟩:=h
 subst e
 cases r
 exact assignInOrder_nil ⟨σ,H,I,h⟩
theorem UX {e:Expr} {es:List Expr} {t:TG} {u:Fo} (h1:PG X e t) (h2:Hm X es u)
  (hs:(assignEach (e::es) X.env).map (·.2)=assign e X.env::(assignEach es X.env).map (·.2):=by rfl):Hm X (e::es) (Yr t u):=by
 intro pins s σ H vs us Q I r h
 obtain ⟨v,vr,e1,h⟩:=h
 subst e1
 cases r with
 | cons r rr=>
  rw [hs]
  refine assignInOrder_cons (Ar (h1 pins s σ H _ _ _ I r h) λ_ s1 ⟨σ1,H1,I1,q1⟩=>?_)
  exact h2 pins s1 σ1 H1 _ _ Q I1 rr q1
def Yo (K:PySem.W.Frag) (n:Nat) (t:Fo):TG:=λv σ H Q=>∃ a xs,v=.ref a/\Bu K H a xs/\xs.length=n/\t xs σ H Q
theorem UY {es:List Expr} {k:Nat} {t:Fo} {n:Nat} (hc:X.calm=true) (h:Hm X es t)
  (hn:(assignEach es X.env).length=n:=by rfl) (hst:(assignEach es X.env).findIdx? (·.1)=none:=by rfl):PG X (.Tuple es k pos) (Yo X.K n t):=by
 intro pins s σ H v u Q I r hw
 obtain ⟨a,xs,e1,hq,hl,hw⟩:=hw
 subst e1
 cases r
 obtain ⟨its,rv,ht,hz⟩:=I.tuple hq
 refine assign_Tuple_tuple (I.ok.hd hc) ht (by simp [hn,<- hl,rv.length]) hst λh' hx=>?_
 have I1:Inv X pins σ H { s with heap:=h' }:=I.kept (t':=s.toks) λb o e=>hx b o (Nat.ne_of_lt (Heap.lt_size e)) e
 exact h pins _ σ H xs _ Q I1 (by simpa using rv) hw
def Yp (to ti:TE) (t:Mt):TG:=λv σ H Q=>to σ H λo H1=>ti σ H1 λi H2=>t o i v H2 λH3=>Q σ H3
theorem UZ {o i:Expr} {to ti:TE} {t:Mt} (ho:PE X o to) (hi:PE X i ti) (hs:Q7 X t)
  (ha:∀ v,assign (.Subscript o i pos) X.env v=(do
   let ov <- holding [v] (eval o X.env)
   let iv <- holding [v,ov] (eval i X.env)
   standAt pos
   holding [v,ov,iv] (setItem ov iv v)
   release [v,ov,iv] []):=by intro _; rfl):PG X (.Subscript o i pos) (Yp to ti t):=by
 intro pins s σ H v u Q I r h
 rw [ha]
 refine wpAny_bind (wpAny_holding (Ar (ho pins s σ H _ I h) λov s1 ⟨x,H1,I1,r1,q1⟩=>?_))
 refine wpAny_bind (wpAny_holding (Ar (hi pins s1 σ H1 _ I1 q1) λiv s2 ⟨y,H2,I2,r2,q2⟩=>?_))
 refine wpAny_bind (wpAny_standAt (wpAny_bind (wpAny_holding (Ar (hs pins s2 σ H2 x y v ov iv u _ I2 r1 r2 r q2) λ_ s3 ⟨H3,I3,q3⟩=>?_))))
 exact wpAny_release ⟨σ,H3,I3,q3⟩
def Nh (te:TE) (g:TG):TS:=λD σ H=>te σ H λx H1=>g x σ H1 D.nx
theorem Lp {tg e:Expr} {te:TE} {g:TG} (he:PE X e te) (hg:PG X tg g) (hs:swapsWithSole [tg] e pos.line X.env=pure false:=by rfl) (hw:swappedStores [tg] e X.env=pure none:=by rfl)
  (h1:(assignEach [tg] X.env).map (·.2)=[assign tg X.env]:=by rfl):PS X (.Assign [tg] e pos) (Nh te g):=by
 intro pins s σ H D I h
 refine wpAny_Assign_stores (Ar (he pins s σ H _ I h) λv s1 ⟨x,H1,I1,r1,q1⟩=>?_) hs hw
 rw [h1]
 exact Ar (hg pins s1 σ H1 x v _ I1 r1 q1) λ_ s2 q=>q
theorem UH {i:Nat} {x:Str} {e:Expr} {te:TE} {pos':Pos} (hN:X.N.Nodup) (hi:X.N[i]?=some x) (hx:Ep X.env.scope x) (he:PE X e te) (hs:swapsWith e (some (.Name x pos')) pos.line X.env=pure false:=by rfl) (hf:X.fn x=true\/X.env.scope.names.lookup x=some .local:=by first | exact .inl rfl | exact .inr rfl | assumption) :
  PS X (.Assign [.Name x pos'] e pos) (Nh te (P5 i)):=by
 intro pins s σ H D I h
 refine wpAny_Assign_Name (Ar (he pins s σ H _ I h) λv s1 ⟨y,H1,I1,r1,q1⟩=>?_) hs
 exact Nm I1 hN hi hx r1 (λs2 I2=>⟨_,H1,I2,q1⟩) hf
end
section
variable {X:Cx} {pos:Pos}
def R3 (c:TT) (tb:TS):TS:=λD σ H=>∃ W:Nat->St->Hp->Prop,(∃ m,W m σ H)/\∀ m σ H,W m σ H->
 c σ H λb H1=>if b=true then ∃ N:St->Hp->Prop,(∀ σ' H',N σ' H'->∃ m',m'<m/\W m' σ' H')/\tb { D with nx:=N,ct:=N,bk:=D.nx } σ H1 else D.nx σ H1
theorem UG {c:Expr} {body:List Stmt} {tc:TT} {tb:TS} (hp:PassesOwn (model X.prog X.w) X.A X.env X.xe) (hc:PT X c tc) (hb:PSs X body tb):PS X (.While c body [] pos) (R3 tc tb):=by
 intro pins s σ H D I h
 obtain ⟨W,⟨m0,w0⟩,turn⟩:=h
 refine wpAny_While (codeAny_whileLoop (λn s'=>∃ σ' H',Inv X pins σ' H' s'/\W n σ' H') ?_ m0 ⟨σ,H,I,w0⟩)
 rintro n s1 ⟨σ1,H1,I1,w1⟩
 refine wpAny_passesOwn hp (Ar (hc pins s1 σ1 H1 _ I1 (turn n σ1 H1 w1)) λb s2 ⟨H2,I2,q2⟩=>?_)
 cases b with
 | true=>
  obtain ⟨N,hN,q2⟩:=q2
  rw [if_pos rfl]
  refine wpAny_passesOwn hp (Ar (hb pins s2 σ1 H2 _ I2 q2) λf s3 q3=>?_)
  cases f with
  | next=>
   obtain ⟨σ3,H3,I3,n3⟩:=q3
   obtain ⟨m',hm,w3⟩:=hN σ3 H3 n3
   exact ⟨m',hm,σ3,H3,I3,w3⟩
  | cont=>
   obtain ⟨σ3,H3,I3,n3⟩:=q3
   obtain ⟨m',hm,w3⟩:=hN σ3 H3 n3
   exact ⟨m',hm,σ3,H3,I3,w3⟩
  | brk=>exact q3
  | ret v=>exact q3
 | false=>
  rw [if_neg Bool.false_ne_true]
  exact wpAny_execs_nil ⟨σ1,H2,I2,q2⟩
end
structure It where
 go:Nat->Hp->Prop
 yld:Nat->Hp->V->Hp->Prop
 stop:Nat->Hp->Prop
def Cg (X:Cx) (pins:List (Addr×Obj)) (H:Hp) (b:Addr):Prop:=
 H b=none/\b≠X.env.locals/\b∉X.fs/\(b∈X.ex\/X.s₀.heap.objs.size<=b)/\(∀ x c,X.env.cells.lookup x=some c->c≠b)/\∀ p∈X.pn++pins,p.1≠b
theorem Inv.fpOk {X:Cx} {pins:List (Addr×Obj)} {σ:St} {H H':Hp} {s:Shared} {b:Addr} (I:Inv X pins σ H s) (hb:s.heap.objs.size<=b) (hn:H' b=none):Cg X pins H' b:=by
 refine ⟨hn,Nat.ne_of_gt (Nat.lt_of_lt_of_le I.lt hb),I.nofs hb,.inr (Nat.le_trans I.sz hb),λx c e z=>?_,λp hp z=>?_⟩
 ·obtain ⟨v,q⟩:=I.cell x c e
  exact absurd (Nat.lt_of_lt_of_le q.lt (by rw [z]; exact hb)) (Nat.lt_irrefl _)
 ·exact absurd (Nat.lt_of_lt_of_le (Heap.lt_size (I.pin p hp).1) (by rw [z]; exact hb)) (Nat.lt_irrefl _)
structure EK (P:Program) (w:World) (K:PySem.W.Frag) (tg:Expr) (J:It) (fp:List Addr) (it:Addr) (tn:Nat->Heap->Prop):Prop where
 mem:it∈fp
 obj:∀ i h,tn i h->∀ b∈fp,∃ o,h.get? b=some o/\∀ v,o.data≠.cell v
 keep:∀ i h h',tn i h->(∀ b∈fp,∀ o,h.get? b=some o->h'.get? b=some o)->tn i h'
 item:∀ (X:Cx),X.prog=P->X.w=w->X.K=K->X.calm=true->∀ (i:Nat) (pins:List (Addr×Obj)) (s:Shared) (σ:St) (H:Hp) (E:Value->Shared->Prop),Inv X pins σ H s->(∀ b∈fp,Cg X pins H b)->tn i s.heap->J.go i H->
  wpAny (model P w) X.A (pyNext (.ref it)) (λr s1=>∃ u,r=some u /\
   wpAny (model P w) X.A (letOwnedTupleGo tg (.ref it) u) (λ_ s2=>∃ x H',Inv X pins σ H' s2/\AV x u/\J.yld i H x H'/\tn (i+1) s2.heap/\∀ b∈fp,H' b=none) E s1) E s
 done:∀ (X:Cx),X.prog=P->X.w=w->X.K=K->X.calm=true->∀ (i:Nat) (pins:List (Addr×Obj)) (s:Shared) (σ:St) (H:Hp) (E:Value->Shared->Prop),Inv X pins σ H s->(∀ b∈fp,Cg X pins H b)->tn i s.heap->J.stop i H->
  wpAny (model P w) X.A (pyNext (.ref it)) (λr s1=>r=none/\Inv X pins σ H s1) E s
 self:∀ (A:Around) (i:Nat) (s:Shared) (Q:Value->Shared->Prop) (E:Value->Shared->Prop),tn i s.heap->Q (.ref it) s->wpAny (model P w) A (pyIter (.ref it)) Q E s
abbrev TI:=St->Hp->(It->Hp->Prop)->Prop
def Mv (X:Cx) (pins:List (Addr×Obj)) (σ:St) (tg:Expr) (R:It->Hp->Prop) (itv:Value) (s2:Shared):Prop:=
 ∃ (it:Addr) (fp:List Addr) (tn:Nat->Heap->Prop) (J:It) (H':Hp),itv=.ref it/\Inv X pins σ H' s2/\EK X.prog X.w X.K tg J fp it tn/\tn 0 s2.heap/\(∀ b∈fp,Cg X pins H' b)/\R J H'
def PI (X:Cx) (tg iter:Expr) (wi:TI):Prop:=
 ∀ (pins:List (Addr×Obj)) (s:Shared) (σ:St) (H:Hp) (R:It->Hp->Prop),Inv X pins σ H s->wi σ H R->
  wpAny (model X.prog X.w) X.A (eval iter X.env) (λv s1=>wpAny (model X.prog X.w) X.A (pyIter v) (Mv X pins σ tg R) X.xe s1) X.xe s
theorem LU {M:Model} {A:Around} {E:Value->Shared->Prop} {s:Shared} {tg:Expr} {it:Addr} {u:Value} {o:Obj} {n:String} {vs:Array Value} {Q:Unit->Shared->Prop} (ho:s.heap.get? it=some o) (hc:o.cls=.type n) (hd:o.data=.fields vs)
    (hn:["enumerate","zip","dict_itemiterator","dict_reverseitemiterator","odict_iterator","itertools.zip_longest","itertools.pairwise"].contains n=false) (hQ:Q () s):wpAny M A (letOwnedTupleGo tg (.ref it) u) Q E s:=by
  unfold letOwnedTupleGo
  cases tg <;> first
    | exact wpAny_pure hQ
    | (cases u <;> first
        | exact wpAny_pure hQ
        | (refine wpAny_bind (wpAny_load ho ?_)
           rw [hc,hd]
           show wpAny M A (if (["enumerate","zip","dict_itemiterator","dict_reverseitemiterator","odict_iterator","itertools.zip_longest","itertools.pairwise"].contains n&&vs[0]?==some (rawInt _))=true then _ else _) Q E s
           rw [if_neg (by intro h; rw [hn,Bool.false_and] at h; cases h)]
           exact wpAny_pure hQ))
def MC (K:PySem.W.Frag) (a:Addr):It:=
 ⟨λi H=>∃ xs x,Ba K H a xs/\xs[i]?=some x,λi H x H'=>H'=H/\∀ xs,Ba K H a xs->xs[i]?=some x,λi H=>∃ xs,Ba K H a xs/\xs.length<=i⟩
def MB (K:PySem.W.Frag) (a:Addr):It:=
 ⟨λi H=>∃ xs x,Bu K H a xs/\xs[i]?=some x,λi H x H'=>H'=H/\∀ xs,Bu K H a xs->xs[i]?=some x,λi H=>∃ xs,Bu K H a xs/\xs.length<=i⟩
def Hs (lo:Int) (n:Nat):It:=⟨λi _=>i<n,λi H x H'=>H'=H/\x=.int (lo+i),λi _=>n<=i⟩
theorem RN {P:Program} {w:World} {K:PySem.W.Frag} {tg:Expr} (a it:Addr):EK P w K tg (MC K a) [it] it (λi h=>h.IsListIter it a i) where
 mem:=by simp
 obj:=λi h st b hb=>by
  have e:b=it:=by simpa using hb
  subst e
  obtain ⟨o,e,c,d⟩:=st
  exact ⟨o,e,λv z=>by rw [d] at z; cases z⟩
 keep:=λi h h' st k=>st.at λo e=>k it (by simp) o e
 item:=by
  intro X hP hw hK hc i pins s σ H E I hf st hg
  subst hP hw hK
  obtain ⟨xs,x,hq,hx⟩:=hg
  obtain ⟨its,rv,p,hz⟩:=I.list hq
  obtain ⟨u,hu,ru⟩:=rv.get hx
  obtain ⟨f0,f1,f2,f3,f4,f5⟩:=hf it (by simp)
  refine wpAny_pyNext_list_item st p.isList (x:=u) (by simpa using hu) λh' st' sb=>?_
  have I1:Inv X pins σ H { s with heap:=h' }:=I.turned (t':=s.toks) (λb o hb e=>(sb.2 b hb).trans e) f0 f1 f3 f4 f5
  obtain ⟨o,e,c,d⟩:=id st'
  exact ⟨u,rfl,LU (s:={ s with heap:=h' }) e c d wE ⟨x,H,I1,ru,⟨rfl,λys hy=>by rw [I.list_inj hy hq]; exact hx⟩,st',λb hb=>(hf b hb).1⟩⟩
 done:=by
  intro X hP hw hK hc i pins s σ H E I hf st hg
  subst hP hw hK
  obtain ⟨xs,hq,hx⟩:=hg
  obtain ⟨its,rv,p,hz⟩:=I.list hq
  obtain ⟨f0,f1,f2,f3,f4,f5⟩:=hf it (by simp)
  have hl:=rv.length
  exact wpAny_pyNext_list_end (I.ok.hd hc) st p.isList (by simp; omega) λh' eb=>⟨rfl,I.turned (t':=s.toks) (λb o hb e=>eb b o hb e) f0 f1 f3 f4 f5⟩
 self:=λ_ _ _ _ _ st h=>wpAny_pyIter_listiter st h
theorem RL {P:Program} {w:World} {K:PySem.W.Frag} {tg:Expr} (a it:Addr):EK P w K tg (MB K a) [it] it (λi h=>h.IsTupleIter it a i) where
 mem:=by simp
 obj:=λi h st b hb=>by
  have e:b=it:=by simpa using hb
  subst e
  obtain ⟨o,e,c,d⟩:=st
  exact ⟨o,e,λv z=>by rw [d] at z; cases z⟩
 keep:=λi h h' st k=>st.at λo e=>k it (by simp) o e
 item:=by
  intro X hP hw hK hc i pins s σ H E I hf st hg
  subst hP hw hK
  obtain ⟨xs,x,hq,hx⟩:=hg
  obtain ⟨its,rv,p,hz⟩:=I.tuple hq
  obtain ⟨u,hu,ru⟩:=rv.get hx
  obtain ⟨f0,f1,f2,f3,f4,f5⟩:=hf it (by simp)
  refine wpAny_pyNext_tuple_item st (show s.heap.IsTuple a its.toArray from p) (x:=u) (by simpa using hu) λh' st' sb=>?_
  have I1:Inv X pins σ H { s with heap:=h' }:=I.turned (t':=s.toks) (λb o hb e=>(sb.2 b hb).trans e) f0 f1 f3 f4 f5
  obtain ⟨o,e,c,d⟩:=id st'
  exact ⟨u,rfl,LU (s:={ s with heap:=h' }) e c d wE ⟨x,H,I1,ru,⟨rfl,λys hy=>by rw [I.tuple_inj hy hq]; exact hx⟩,st',λb hb=>(hf b hb).1⟩⟩
 done:=by
  intro X hP hw hK hc i pins s σ H E I hf st hg
  subst hP hw hK
  obtain ⟨xs,hq,hx⟩:=hg
  obtain ⟨its,rv,p,hz⟩:=I.tuple hq
  obtain ⟨f0,f1,f2,f3,f4,f5⟩:=hf it (by simp)
  have hl:=rv.length
  exact wpAny_pyNext_tuple_end (I.ok.hd hc) st (show s.heap.IsTuple a its.toArray from p) (by simp; omega) λh' eb=>⟨rfl,I.turned (t':=s.toks) (λb o hb e=>eb b o hb e) f0 f1 f3 f4 f5⟩
 self:=λ_ _ _ _ _ st h=>wpAny_pyIter_tupleiter st h
theorem RM {P:Program} {w:World} {K:PySem.W.Frag} {tg:Expr} (it:Addr) (lo:Int) (n:Nat):EK P w K tg (Hs lo n) [it] it (λi h=>IsRangeIter h it (lo+(i:Nat)*1) ((n:Int)-(i:Nat)) 1) where
 mem:=by simp
 obj:=λi h st b hb=>by
  have e:b=it:=by simpa using hb
  subst e
  exact ⟨_,st,λv z=>by
   have z':Data.fields _=Data.cell v:=z
   cases z'⟩
 keep:=λi h h' st k=>k it (by simp) _ st
 item:=by
  intro X hP hw hK hc i pins s σ H E I hf st hg
  subst hP hw hK
  obtain ⟨f0,f1,f2,f3,f4,f5⟩:=hf it (by simp)
  have W:=Walks.range (prog:=X.prog) (w:=X.w) (I.ok.hd hc) it lo 1 n
  refine W.item i s _ _ hg st λv h' tk hv st' kk=>?_
  obtain ⟨t,rfl⟩:=hv
  have I1:Inv X pins σ H { s with heap:=h',toks:=tk }:=I.turned (λb o hb e=>kk b o (by simpa using hb) e) f0 f1 f3 f4 f5
  refine ⟨_,rfl,LU (s:={ s with heap:=h',toks:=tk }) (n := "range_iterator") st' rfl rfl wE ⟨.int (lo+i),H,I1,⟨t,?_⟩,⟨rfl,rfl⟩,st',λb hb=>(hf b hb).1⟩⟩
  rw [Int.mul_one]
 done:=by
  intro X hP hw hK hc i pins s σ H E I hf st hg
  subst hP hw hK
  obtain ⟨f0,f1,f2,f3,f4,f5⟩:=hf it (by simp)
  exact wpAny_pyNext_range_end (I.ok.hd hc) st (by have:n<=i:=hg; omega) λh' eb=>⟨rfl,I.turned (t':=s.toks) (λb o hb e=>eb b o hb e) f0 f1 f3 f4 f5⟩
 self:=λ_ _ _ _ _ st h=>wpAny_pyIter_rangeiter st h
end L2
namespace L2
open PySem PySem.Spec PyProof.Rows
section
variable {X:Cx} {tg:Expr}
def X3 (K:PySem.W.Frag) (tl:TE):TI:=λσ H R=>tl σ H λx H1=>∃ a,x=.ref a/\(∃ xs,Ba K H1 a xs)/\R (MC K a) H1
def X0 (K:PySem.W.Frag) (tl:TE):TI:=λσ H R=>tl σ H λx H1=>∃ a,x=.ref a/\(∃ xs,Bu K H1 a xs)/\R (MB K a) H1
theorem OS {l:Expr} {tl:TE} (hl:PE X l tl):PI X tg l (X3 X.K tl):=by
 intro pins s σ H R I h
 refine Ar (hl pins s σ H _ I h) λv s1 ⟨x,H1,I1,r1,q1⟩=>?_
 obtain ⟨a,e,⟨xs,hq⟩,q⟩:=q1
 subst e
 cases r1
 obtain ⟨its,rv,p,hz⟩:=I1.list hq
 refine wpAny_pyIter_list p.isList ?_
 refine ⟨s1.heap.objs.size,[s1.heap.objs.size],_,_,H1,rfl,I1.kept (t':=s1.toks) λb o e=>Heap.get?_push_of_some _ e,RN a _,⟨_,Heap.get?_push_size _ rfl,rfl,rfl⟩,λb hb=>?_,q⟩
 have e:b=s1.heap.objs.size:=by simpa using hb
 subst e
 exact I1.fpOk (Nat.le_refl _) (I1.hok.fresh (Nat.le_refl _))
theorem UT {l:Expr} {tl:TE} (hl:PE X l tl):PI X tg l (X0 X.K tl):=by
 intro pins s σ H R I h
 refine Ar (hl pins s σ H _ I h) λv s1 ⟨x,H1,I1,r1,q1⟩=>?_
 obtain ⟨a,e,⟨xs,hq⟩,q⟩:=q1
 subst e
 cases r1
 obtain ⟨its,rv,p,hz⟩:=I1.tuple hq
 refine wpAny_pyIter_tuple (show s1.heap.IsTuple a its.toArray from p) ?_
 refine ⟨s1.heap.objs.size,[s1.heap.objs.size],_,_,H1,rfl,I1.kept (t':=s1.toks) λb o e=>Heap.get?_push_of_some _ e,RL a _,⟨_,Heap.get?_push_size _ rfl,rfl,rfl⟩,λb hb=>?_,q⟩
 have e:b=s1.heap.objs.size:=by simpa using hb
 subst e
 exact I1.fpOk (Nat.le_refl _) (I1.hok.fresh (Nat.le_refl _))
theorem OM {pins:List (Addr×Obj)} {σ:St} {H:Hp} {s:Shared} {R:It->Hp->Prop} {E:Value->Shared->Prop} {lo hi:Int} {t u v:Tok} {tk:Nat} (I:Inv X pins σ H s) (h1:-(2 ^ 62)<=lo) (h2:lo<2 ^ 62) (h3:-(2 ^ 62)<=hi) (h4:hi<2 ^ 62)
  (q:R (Hs lo (hi-lo).toNat) H):wpAny (model X.prog X.w) X.A (pyIter (.ref s.heap.objs.size)) (Mv X pins σ tg R) E { s with heap:=s.heap.push { cls:=.type "range",data:=.fields #[.int lo t,.int hi u,.int 1 v] },toks:=tk }:=by
 refine wpAny_pyIter_range (IsRange.new ..) (small_one h1 h2 h3 h4) ?_
 have I1:Inv X pins σ H { s with heap:=s.heap.push { cls:=.type "range",data:=.fields #[.int lo t,.int hi u,.int 1 v] },toks:=tk }:=I.kept λb o e=>Heap.get?_push_of_some _ e
 refine ⟨(s.heap.push { cls:=.type "range",data:=.fields #[.int lo t,.int hi u,.int 1 v] }).objs.size,[(s.heap.push { cls:=.type "range",data:=.fields #[.int lo t,.int hi u,.int 1 v] }).objs.size],_,_,H,rfl,
  I1.kept (t':=tk) λb o e=>Heap.get?_push_of_some _ e,RM _ lo (hi-lo).toNat,?_,λb hb=>?_,q⟩
 ·have e1:lo+((0:Nat):Int)*1=lo:=by simp
  have e2:(((hi-lo).toNat:Nat):Int)-((0:Nat):Int)=Builtin.Range.rangeSize lo hi 1:=by rw [rangeSize_one]; split <;> omega
  show IsRangeIter _ _ (lo+((0:Nat):Int)*1) ((((hi-lo).toNat:Nat):Int)-((0:Nat):Int)) 1
  rw [e1,e2]
  exact Heap.get?_push_size _ rfl
 ·have e:b=(s.heap.push { cls:=.type "range",data:=.fields #[.int lo t,.int hi u,.int 1 v] }).objs.size:=by simpa using hb
  subst e
  exact I1.fpOk (Nat.le_refl _) (I1.hok.fresh (Nat.le_refl _))
def X2 (ta:TA):TI:=λσ H R=>ta σ H λvs H1=>∃ j:Int,vs=[.int j]/\-(2 ^ 62)<=j/\j<2 ^ 62/\R (Hs 0 j.toNat) H1
def X1 (ta:TA):TI:=λσ H R=>ta σ H λvs H1=>∃ i j:Int,vs=[.int i,.int j]/\(-(2 ^ 62)<=i/\i<2 ^ 62/\-(2 ^ 62)<=j/\j<2 ^ 62)/\R (Hs i (j-i).toNat) H1
theorem UV {a:Expr} {ta:TA} {p pos:Pos} (hg:Gl X "range") (hm:X.mg "range" = none) (ha:PA X [a] ta) (hs:starEach [a] X.env=[(false,eval a X.env)]:=by rfl):PI X tg (.Call (.Name "range" p) [a] [] pos) (X2 ta):=by
 intro pins s σ H R I h
 refine Call_ (EE I hg hm boot_range (PyProof.Rows.callWith_type1 (Ar (ha pos pins s σ H _ I h) λus s1 ⟨vs,H1,I1,r1,q1⟩=>?_) hs rfl))
 obtain ⟨j,e,q1,q2,q⟩:=q1
 subst e
 cases r1 with
 | cons r rr=>
  cases rr
  obtain ⟨t,rfl⟩:=r
  exact call_range_1 (OM I1 wF wF q1 q2 (by simpa using q))
theorem UU {a b:Expr} {ta:TA} {p pos:Pos} (hg:Gl X "range") (hm:X.mg "range" = none) (ha:PA X [a,b] ta) (hs:starEach [a,b] X.env=[(false,eval a X.env),(false,eval b X.env)]:=by rfl) (hs2:starEach [b] X.env=[(false,eval b X.env)]:=by rfl) :
  PI X tg (.Call (.Name "range" p) [a,b] [] pos) (X1 ta):=by
 intro pins s σ H R I h
 refine Call_ (EE I hg hm boot_range (PyProof.Rows.callWith_type1 (Ar (ha pos pins s σ H _ I h) λus s1 ⟨vs,H1,I1,r1,q1⟩=>?_) (by rw [hs,hs2]) (by rw [hs2]; rfl)))
 obtain ⟨i,j,e,⟨q1,q2,q3,q4⟩,q⟩:=q1
 subst e
 cases r1 with
 | cons r rr=>
  cases rr with
  | cons r' rr=>
   cases rr
   obtain ⟨t,rfl⟩:=r
   obtain ⟨t',rfl⟩:=r'
   exact call_range_2 (OM I1 q1 q2 q3 q4 q)
def Sj (wi:TI) (g:TG) (tb:TS):TS:=λD σ H=>wi σ H λJ H1=>∃ W:Nat->Nat->St->Hp->Prop,(∃ m,W 0 m σ H1)/\∀ i m σ H,W i m σ H->
 (J.stop i H/\D.nx σ H)\/(J.go i H/\∃ N:St->Hp->Prop,(∀ σ' H',N σ' H'->∃ m',m'<m/\W (i+1) m' σ' H')/\∀ x H',J.yld i H x H'->g x σ H' λσ2 H2=>tb { D with nx:=N,ct:=N,bk:=D.nx } σ2 H2)
def Ea (fp:List Addr) (h:Heap):List (Addr×Obj):=fp.filterMap λb=>(h.get? b).map λo=>(b,o)
theorem IA {fp:List Addr} {h:Heap} {b:Addr} {o:Obj} (hb:b∈fp) (e:h.get? b=some o):(b,o)∈Ea fp h:=List.mem_filterMap.mpr ⟨b,hb,by rw [e]; rfl⟩
theorem Ph {fp:List Addr} {h:Heap} {p:Addr×Obj} (hp:p∈Ea fp h):p.1∈fp/\h.get? p.1=some p.2:=by
 obtain ⟨b,hb,e⟩:=List.mem_filterMap.mp hp
 cases q:h.get? b with
 | none=>rw [q] at e; cases e
 | some o=>
  rw [q] at e
  have e':(b,o)=p:=Option.some.inj e
  subst e'
  exact ⟨hb,q⟩
theorem Inv.pinned {pins:List (Addr×Obj)} {σ:St} {H:Hp} {s:Shared} {fp:List Addr} (I:Inv X pins σ H s) (hf:∀ b∈fp,Cg X pins H b) (ho:∀ b∈fp,∃ o,s.heap.get? b=some o/\∀ v,o.data≠.cell v):Inv X (pins++Ea fp s.heap) σ H s:=
 I.pins_of λp hp=>(List.mem_append.mp hp).elim (λz=>I.pin p (List.mem_append_right _ z)) λz=>by
  obtain ⟨hb,e⟩:=Ph z
  obtain ⟨f0,f1,f2,_⟩:=hf p.1 hb
  obtain ⟨o,e',d⟩:=ho p.1 hb
  rw [e] at e'; cases e'
  exact ⟨e,f0,f1,f2,d⟩
theorem Inv.unpinned {pins pl:List (Addr×Obj)} {σ:St} {H:Hp} {s:Shared} (I:Inv X (pins++pl) σ H s):Inv X pins σ H s:=I.pins_of λp hp=>I.pin p (List.mem_append_right _ (List.mem_append_left _ hp))
theorem UK {iter:Expr} {body:List Stmt} {wi:TI} {g:TG} {tb:TS} {pos:Pos} (hp:PassesOwn (model X.prog X.w) X.A X.env X.xe) (hc:X.calm=true) (hi:PI X tg iter wi) (hg:PG X tg g) (hb:PSs X body tb)
  (hs:∀ x,foldedSetIterable iter X.env x=pure x:=by intro _; rfl):PS X (.For tg iter body [] pos) (Sj wi g tb):=by
 intro pins s σ H D I h
 refine wpAny_For (Ar (hi pins s σ H _ I h) λv s1 h1=>Ar h1 λitv s2 h2=>?_) hs
 obtain ⟨it,fp,tn,J,H2,e,I2,T,st2,f2,W,⟨m0,w0⟩,turn⟩:=h2
 subst e
 -- what stays true of the iterator's objects through the loop
 have stat:∀ {H':Hp},(∀ b∈fp,H' b=none)->∀ b∈fp,Cg X pins H' b:=λhn b hb=>⟨hn b hb,(f2 b hb).2⟩
 refine codeAny_forLoop_any (λn s'=>∃ i σ' H',Inv X pins σ' H' s'/\tn i s'.heap/\(∀ b∈fp,H' b=none)/\W i n σ' H') ?_ m0 ⟨0,σ,H2,I2,st2,λb hb=>(f2 b hb).1,w0⟩
 rintro n s3 ⟨i,σ3,H3,I3,st3,fr3,w3⟩
 rcases turn i n σ3 H3 w3 with ⟨stop,qn⟩ | ⟨go,N,hN,step⟩
 ·refine wpAny_passesOwn hp (Ar (T.done X rfl rfl rfl hc i pins s3 σ3 H3 X.xe I3 (stat fr3) st3 stop) λr s4 ⟨hr,I4⟩=>?_)
  subst hr
  exact wpAny_execs_nil ⟨σ3,H3,I4,qn⟩
 ·refine wpAny_passesOwn hp (Ar (T.item X rfl rfl rfl hc i pins s3 σ3 H3 X.xe I3 (stat fr3) st3 go) λr s4 ⟨u,hr,h4⟩=>?_)
  subst hr
  refine wpAny_passesOwn hp (Ar h4 λ_ s5 ⟨x,H5,I5,r5,y5,st5,fr5⟩=>?_)
  have I5':=I5.pinned (stat fr5) (T.obj _ _ st5)
  refine wpAny_passesOwn hp (Ar (hg _ s5 σ3 H5 x u _ I5' r5 (step x H5 y5)) λ_ s6 ⟨σ6,H6,I6,q6⟩=>?_)
  refine wpAny_passesOwn hp (Ar (hb _ s6 σ6 H6 _ I6 q6) λf s7 q7=>?_)
  have again:∀ {σ7:St} {H7:Hp},Inv X (pins++Ea fp s5.heap) σ7 H7 s7->N σ7 H7->∃ m,m<n/\∃ i σ' H',Inv X pins σ' H' s7/\tn i s7.heap/\(∀ b∈fp,H' b=none)/\W i m σ' H':=λ{σ7 H7} I7 n7=>by
   obtain ⟨m',hm,w7⟩:=hN σ7 H7 n7
   refine ⟨m',hm,i+1,σ7,H7,I7.unpinned,T.keep _ _ _ st5 λb hb o e=>(I7.pin (b,o) (List.mem_append_right _ (List.mem_append_right _ (IA hb e)))).1,λb hb=>?_,w7⟩
   obtain ⟨o,e,d⟩:=T.obj _ _ st5 b hb
   exact (I7.pin (b,o) (List.mem_append_right _ (List.mem_append_right _ (IA hb e)))).2.1
  cases f with
  | next=>obtain ⟨σ7,H7,I7,n7⟩:=q7; exact again I7 n7
  | cont=>obtain ⟨σ7,H7,I7,n7⟩:=q7; exact again I7 n7
  | brk=>obtain ⟨σ7,H7,I7,q7⟩:=q7; exact ⟨σ7,H7,I7.unpinned,q7⟩
  | ret v=>obtain ⟨x7,σ7,H7,I7,r7,q7⟩:=q7; exact ⟨x7,σ7,H7,I7.unpinned,r7,q7⟩
end
end L2
namespace L2
open PySem PySem.Spec PyProof.Rows
abbrev R2:=V->V->Hp->VK->Prop
def B2 (X:Cx) (f:Value->Value->Sem Value) (r:R2):Prop:=
 ∀ (pins:List (Addr×Obj)) (s:Shared) (σ:St) (H:Hp) (x y:V) (v u:Value) (Q:VK),Inv X pins σ H s->AV x v->AV y u->r x y H Q->
  wpAny (model X.prog X.w) X.A (f v u) (EP X pins σ Q) X.xe s
def D4 (X:Cx) (f:Value) (r:List V->Hp->VK->Prop):Prop:=
 ∀ (pins:List (Addr×Obj)) (s:Shared) (σ:St) (H:Hp) (xs:List V) (us:List Value) (Q:VK),Inv X pins σ H s->AC xs us->r xs H Q->
  wpAny (model X.prog X.w) X.A (call f us) (EP X pins σ Q) X.xe s
def Z7 (X:Cx) (r:V->Hp->(Bool->Hp->Prop)->Prop):Prop:=
 ∀ (pins:List (Addr×Obj)) (s:Shared) (σ:St) (H:Hp) (x:V) (v:Value) (Q:Bool->Hp->Prop),Inv X pins σ H s->AV x v->r x H Q->
  wpAny (model X.prog X.w) X.A (truthy v) (TP X pins σ Q) X.xe s
def rI (C:Int->Int->Prop) (g:Int->Int->V):R2:=λx y H Q=>∃ i j,x=.int i/\y=.int j/\C i j/\Q (g i j) H
def DO (g:Int->Int->V):R2:=λx y H Q=>∃ i j,x=.int i/\y=.int j/\Q (g i j) H
section
variable {X:Cx} {a b c:Expr} {ta tb tc:TE} {pos:Pos}
theorem IZ (ha:PE X a ta) (hb:PE X b tb) {pins:List (Addr×Obj)} {s:Shared} {σ:St} {H:Hp} {R:V->V->Hp->Prop} (I:Inv X pins σ H s)
  (h:ta σ H λx H1=>tb σ H1 λy H2=>R x y H2) {Q:Value->Shared->Prop} {f:Value->Value->Sem Value}
  (hf:∀ v u s2 x y H2,Inv X pins σ H2 s2->AV x v->AV y u->R x y H2->wpAny (model X.prog X.w) X.A (f v u) Q X.xe s2) :
  wpAny (model X.prog X.w) X.A (eval a X.env) (λv s₁=>wpAny (model X.prog X.w) X.A (eval b X.env) (λu s₂=>wpAny (model X.prog X.w) X.A (f v u) Q X.xe s₂) X.xe s₁) X.xe s:=by
 refine Ar (ha pins s σ H _ I h) λv s1 ⟨x,H1,I1,r1,q1⟩=>?_
 refine Ar (hb pins s1 σ H1 _ I1 q1) λu s2 ⟨y,H2,I2,r2,q2⟩=>?_
 exact hf v u s2 x y H2 I2 r1 r2 q2
theorem Ly {f:Value->Value->Sem Value} {C:Int->Int->Prop} {g:Int->Int->Int}
  (rule:∀ (i j:Int) (t u:Tok) (s:Shared) (Q:Value->Shared->Prop) (E:Value->Shared->Prop),C i j->Q (.int (g i j) s.toks) { s with toks:=s.toks+1 }->wpAny (model X.prog X.w) X.A (f (.int i t) (.int j u)) Q E s) :
  B2 X f (rI C λi j=>.int (g i j)):=by
 intro pins s σ H x y v u Q I rx ry h
 obtain ⟨i,j,rfl,rfl,hc,q⟩:=h
 obtain ⟨t,rfl⟩:=rx
 obtain ⟨t',rfl⟩:=ry
 exact rule i j t t' s _ _ hc ⟨.int (g i j),H,I.tok _,⟨_,rfl⟩,q⟩
theorem O6 {f:Value->Value->Sem Value} {g:Int->Int->Int}
  (rule:∀ (i j:Int) (t u:Tok) (s:Shared) (Q:Value->Shared->Prop) (E:Value->Shared->Prop),Q (.int (g i j) s.toks) { s with toks:=s.toks+1 }->wpAny (model X.prog X.w) X.A (f (.int i t) (.int j u)) Q E s) :
  B2 X f (DO λi j=>.int (g i j)):=by
 intro pins s σ H x y v u Q I rx ry h
 obtain ⟨i,j,rfl,rfl,q⟩:=h
 obtain ⟨t,rfl⟩:=rx
 obtain ⟨t',rfl⟩:=ry
 exact rule i j t t' s _ _ ⟨.int (g i j),H,I.tok _,⟨_,rfl⟩,q⟩
theorem Ip {f:Value->Value->Sem Value} {g:Int->Int->Bool}
  (rule:∀ (i j:Int) (t u:Tok) (s:Shared) (Q:Value->Shared->Prop) (E:Value->Shared->Prop),Q (.bool (g i j)) s->wpAny (model X.prog X.w) X.A (f (.int i t) (.int j u)) Q E s) :
  B2 X f (DO λi j=>.bl (g i j)):=by
 intro pins s σ H x y v u Q I rx ry h
 obtain ⟨i,j,rfl,rfl,q⟩:=h
 obtain ⟨t,rfl⟩:=rx
 obtain ⟨t',rfl⟩:=ry
 exact rule i j t t' s _ _ ⟨.bl (g i j),H,I,rfl,q⟩
def Rh (i j:Int):Prop:=0<j/\j<1073741824
def BC (i j:Int):Prop:=(-(2 ^ 64)<i/\i<2 ^ 64)\/(-(2 ^ 64)<j/\j<2 ^ 64)
theorem BC.ok {i j:Int} (h:BC i j):IntMulOk i j:=by
 rcases h with ⟨h1,h2⟩ | ⟨h1,h2⟩
 ·exact .of_left (intBits_le_64 h1 h2)
 ·exact .of_right (intBits_le_64 h1 h2)
theorem Vs:B2 X (binaryOp .Add) (DO λi j=>.int (i+j)):=O6 λ_ _ _ _ _ _ _ q=>add_int q
theorem Vf:B2 X (binaryOp .Sub) (DO λi j=>.int (i-j)):=O6 λ_ _ _ _ _ _ _ q=>sub_int q
theorem Vq:B2 X (binaryOp .FloorDiv) (rI Rh λi j=>.int (i/j)):=Ly λi j _ _ _ _ _ hc q=>by
 have h1:(0:Int)<j:=hc.1
 have h2:j<1073741824:=hc.2
 exact floordiv_int wF (by rw [Int.fdiv_eq_ediv_of_nonneg i wF]; exact q) (.inl (PyProof.noPylong_small wF))
theorem Vj:B2 X (binaryOp .Mod) (rI (λ_ j=>0<j) λi j=>.int (i%j)):=Ly λi j _ _ _ _ _ hc q=>by
 have h1:(0:Int)<j:=hc
 exact mod_int' wF (by rw [Int.fmod_eq_emod_of_nonneg i wF]; exact q)
end
def Oi:V->V->Bool
 | .non,.non=>true | .non,.int _=>true | .int _,.non=>true | .non,.bl _=>true | .bl _,.non=>true | .non,.str _=>true | .str _,.non=>true
 | .int _,.int _=>true | .bl _,.bl _=>true | .str _,.str _=>true | .byt _,.byt _=>true
 | .int _,.str _=>true | .str _,.int _=>true | .bl _,.str _=>true | .str _,.bl _=>true
 | _,_=>false
def rEq:R2:=λx y H Q=>Oi x y=true/\Q (.bl (decide (x=y))) H
def rNe:R2:=λx y H Q=>Oi x y=true/\Q (.bl (!decide (x=y))) H
theorem Qx {i j:Int}:decide (V.int i=V.int j)=(i==j):=by
 rw [Bool.eq_iff_iff]
 simp
theorem Qz {i j:Bool}:decide (V.bl i=V.bl j)=(i==j):=by
 rw [Bool.eq_iff_iff]
 simp
theorem Qw {i j:Str}:decide (V.str i=V.str j)=(i==j):=by
 rw [Bool.eq_iff_iff]
 simp
theorem Qy {i j:Array UInt8}:decide (V.byt i=V.byt j)=(i.toList==j.toList):=by
 rw [Bool.eq_iff_iff]
 cases i
 cases j
 simp
section
variable {X:Cx} {a b c:Expr} {ta tb tc:TE} {pos:Pos}
theorem Bo {pins:List (Addr×Obj)} {σ:St} {H:Hp} {s:Shared} {Q:VK} {k k':Bool} (I:Inv X pins σ H s) (q:Q (.bl k) H) (e:k=k'):EP X pins σ Q (.bool k') s:=by
 subst e
 exact ⟨.bl k,H,I,rfl,q⟩
theorem Vr:B2 X (compareOp .Eq) rEq:=by
 intro pins s σ H x y v u Q I rx ry h
 obtain ⟨hs,q⟩:=h
 cases x with
 | non=>
  cases rx
  cases y with
  | non=>cases ry; exact PySem.EqNone.eq_none_none (Bo I q (by simp))
  | bl j=>cases ry; exact PySem.EqNone.eq_none_bool (Bo I q (by simp))
  | int j=>obtain ⟨t',rfl⟩:=ry; exact PySem.EqNone.eq_none_int (Bo I q (by simp))
  | str j=>obtain ⟨t',rfl⟩:=ry; exact PySem.EqNone.eq_none_str (Bo I q (by simp))
  | _=>exact absurd (show false=true from hs) Bool.false_ne_true
 | bl i=>
  cases rx
  cases y with
  | non=>cases ry; exact PySem.EqNone.eq_bool_none (Bo I q (by simp))
  | bl j=>cases ry; exact eq_bool (Bo I q Qz)
  | str j=>obtain ⟨t',rfl⟩:=ry; exact PySem.EqMixed.eq_bool_str (Bo I q (by simp))
  | _=>exact absurd (show false=true from hs) Bool.false_ne_true
 | int i=>
  obtain ⟨t,rfl⟩:=rx
  cases y with
  | non=>cases ry; exact PySem.EqNone.eq_int_none (Bo I q (by simp))
  | int j=>obtain ⟨t',rfl⟩:=ry; exact eq_int (Bo I q Qx)
  | str j=>obtain ⟨t',rfl⟩:=ry; exact PySem.EqMixed.eq_int_str (Bo I q (by simp))
  | _=>exact absurd (show false=true from hs) Bool.false_ne_true
 | str i=>
  obtain ⟨t,rfl⟩:=rx
  cases y with
  | non=>cases ry; exact PySem.EqNone.eq_str_none (Bo I q (by simp))
  | bl j=>cases ry; exact PySem.EqMixed.eq_str_bool (Bo I q (by simp))
  | int j=>obtain ⟨t',rfl⟩:=ry; exact PySem.EqMixed.eq_str_int (Bo I q (by simp))
  | str j=>obtain ⟨t',rfl⟩:=ry; exact eq_str (Bo I q Qw)
  | _=>exact absurd (show false=true from hs) Bool.false_ne_true
 | byt i=>
  obtain ⟨t,rfl⟩:=rx
  cases y with
  | byt j=>obtain ⟨t',rfl⟩:=ry; exact PySem.W.eq_bytes (Bo I q Qy)
  | _=>exact absurd (show false=true from hs) Bool.false_ne_true
 | _=>cases y <;> exact absurd (show false=true from hs) Bool.false_ne_true
theorem Vh:B2 X (compareOp .NotEq) rNe:=by
 intro pins s σ H x y v u Q I rx ry h
 obtain ⟨hs,q⟩:=h
 cases x with
 | non=>
  cases rx
  cases y with
  | non=>cases ry; exact PySem.EqNone.ne_none_none (Bo I q (by simp))
  | bl j=>cases ry; exact PySem.EqNone.ne_none_bool (Bo I q (by simp))
  | int j=>obtain ⟨t',rfl⟩:=ry; exact PySem.EqNone.ne_none_int (Bo I q (by simp))
  | str j=>obtain ⟨t',rfl⟩:=ry; exact PySem.EqNone.ne_none_str (Bo I q (by simp))
  | _=>exact absurd (show false=true from hs) Bool.false_ne_true
 | bl i=>
  cases rx
  cases y with
  | non=>cases ry; exact PySem.EqNone.ne_bool_none (Bo I q (by simp))
  | bl j=>cases ry; exact ne_bool (Bo I q (congrArg not Qz))
  | str j=>obtain ⟨t',rfl⟩:=ry; exact PySem.EqMixed.ne_bool_str (Bo I q (by simp))
  | _=>exact absurd (show false=true from hs) Bool.false_ne_true
 | int i=>
  obtain ⟨t,rfl⟩:=rx
  cases y with
  | non=>cases ry; exact PySem.EqNone.ne_int_none (Bo I q (by simp))
  | int j=>obtain ⟨t',rfl⟩:=ry; exact ne_int (Bo I q (congrArg not Qx))
  | str j=>obtain ⟨t',rfl⟩:=ry; exact PySem.EqMixed.ne_int_str (Bo I q (by simp))
  | _=>exact absurd (show false=true from hs) Bool.false_ne_true
 | str i=>
  obtain ⟨t,rfl⟩:=rx
  cases y with
  | non=>cases ry; exact PySem.EqNone.ne_str_none (Bo I q (by simp))
  | bl j=>cases ry; exact PySem.EqMixed.ne_str_bool (Bo I q (by simp))
  | int j=>obtain ⟨t',rfl⟩:=ry; exact PySem.EqMixed.ne_str_int (Bo I q (by simp))
  | str j=>obtain ⟨t',rfl⟩:=ry; exact ne_str (Bo I q (congrArg not Qw))
  | _=>exact absurd (show false=true from hs) Bool.false_ne_true
 | byt i=>
  obtain ⟨t,rfl⟩:=rx
  cases y with
  | byt j=>obtain ⟨t',rfl⟩:=ry; exact PySem.W.ne_bytes (Bo I q (congrArg not Qy))
  | _=>exact absurd (show false=true from hs) Bool.false_ne_true
 | _=>cases y <;> exact absurd (show false=true from hs) Bool.false_ne_true
theorem Vk:B2 X (compareOp .Lt) (DO λi j=>.bl (decide (i<j))):=Ip λ_ _ _ _ _ _ _ q=>lt_int q
theorem Vl:B2 X (compareOp .LtE) (DO λi j=>.bl (decide (i<=j))):=Ip λ_ _ _ _ _ _ _ q=>le_int q
theorem Vo:B2 X (compareOp .Gt) (DO λi j=>.bl (decide (j<i))):=Ip λ_ _ _ _ _ _ _ q=>gt_int q
theorem Vp:B2 X (compareOp .GtE) (DO λi j=>.bl (decide (j<=i))):=Ip λ_ _ _ _ _ _ _ q=>ge_int q
theorem Vm:B2 X (compareOp .Is) (λx y H Q=>y=.non/\Q (.bl (decide (x=.non))) H):=by
 intro pins s σ H x y v u Q I rx ry h
 obtain ⟨rfl,q⟩:=h
 cases ry
 refine is_none_gen (Bo I q ?_)
 cases x <;> first
  | (cases rx; rfl)
  | (obtain ⟨t,rfl⟩:=rx; rfl)
theorem Vg:B2 X (compareOp .IsNot) (λx y H Q=>y=.non/\Q (.bl (!decide (x=.non))) H):=by
 intro pins s σ H x y v u Q I rx ry h
 obtain ⟨rfl,q⟩:=h
 cases ry
 refine isnot_none_gen (Bo I q ?_)
 cases x <;> first
  | (cases rx; rfl)
  | (obtain ⟨t,rfl⟩:=rx; rfl)
theorem Pk (b:Expr) {op:CmpOp} (h:op≠.In:=by decide) (h2:op≠.NotIn:=by decide):behindInMarks op b=false:=by
 have e1:(op==CmpOp.In)=false:=by cases op <;> first | rfl | exact absurd rfl h
 have e2:(op==CmpOp.NotIn)=false:=by cases op <;> first | rfl | exact absurd rfl h2
 cases b <;> simp [behindInMarks,e1,e2]
def Q4 (K:PySem.W.Frag) (x:V) (H:Hp) (k:Bool):Prop:=
 match x with
 | .non=>k=false
 | .bl b=>k=b
 | .int i=>k=(i != 0)
 | .str y=>y.length<=sizeLine/\k=((y.length:Int) != 0)
 | .byt y=>y.size<=sizeLine/\k=((y.size:Int) != 0)
 | .ref p=>(∃ xs,Ba K H p xs/\k=!xs.isEmpty)\/(∃ xs,Bu K H p xs/\k=!xs.isEmpty)\/∃ kvs,H p=some (.dK kvs)/\k=!kvs.isEmpty
 | _=>False
theorem XS {κ:Type} {kvs:List (κ×V)} {vs:List (κ×Value)} (r:KV kvs vs):(!vs.isEmpty)=!kvs.isEmpty:=by
 cases r <;> rfl
theorem PV {xs:List V} {its:List Value} (r:AC xs its):(!its.toArray.isEmpty)=!xs.isEmpty:=by
 cases r <;> simp
theorem GS:(sizeLine:Nat)<2 ^ 63:=by rw [sizeLine_eq]; decide
theorem RS:Z7 X (λx H Q=>∃ k,Q4 X.K x H k/\Q k H):=by
 intro pins s σ H x v Q I rx h
 obtain ⟨k,e,q⟩:=h
 have hl:=GS
 have hs:sizeLine=16777216:=sizeLine_eq
 cases x with
 | non=>
  cases rx
  have e':k=false:=e
  subst e'
  exact truthy_none ⟨H,I,q⟩
 | bl b=>
  cases rx
  have e':k=b:=e
  subst e'
  exact wpAny_truthy_bool ⟨H,I,q⟩
 | int i=>
  obtain ⟨t,rfl⟩:=rx
  have e':k=(i != 0):=e
  subst e'
  exact PySem.P.truthy_int ⟨H,I,q⟩
 | str y=>
  obtain ⟨t,rfl⟩:=rx
  obtain ⟨hy,e'⟩:y.length<=sizeLine/\k=((y.length:Int) != 0):=e
  subst e'
  exact PySem.P.truthy_str wF ⟨H,I.tok _,q⟩
 | byt y=>
  obtain ⟨t,rfl⟩:=rx
  obtain ⟨hy,e'⟩:y.size<=sizeLine/\k=((y.size:Int) != 0):=e
  subst e'
  exact PySem.W.truthy_bytes wF ⟨H,I.tok _,q⟩
 | ref p=>
  cases rx
  have e':(∃ xs,Ba X.K H p xs/\k=!xs.isEmpty)\/(∃ xs,Bu X.K H p xs/\k=!xs.isEmpty)\/∃ kvs,H p=some (.dK kvs)/\k=!kvs.isEmpty:=e
  rcases e' with ⟨xs,hx,e'⟩ | ⟨xs,hx,e'⟩ | ⟨kvs,hx,e'⟩
  ·subst e'
   obtain ⟨its,r,pl,hz⟩:=I.list hx
   have hlen:=r.length
   exact wpAny_truthy_list pl.isList (by simp only [List.size_toArray]; omega) ⟨H,I.tok _,by rw [PV r]; exact q⟩
  ·subst e'
   obtain ⟨its,r,pl,hz⟩:=I.tuple hx
   have hlen:=r.length
   exact truthy_tuple pl (by simp only [List.size_toArray]; omega) ⟨H,I.tok _,by rw [PV r]; exact q⟩
  ·subst e'
   obtain ⟨hz,hS,vs,r,m⟩:kvs.length<=sizeLine/\(p==sysModules)=false/\∃ vs,KV kvs vs/\s.heap.DictOf (LB X.prog X.w) p vs:=I.hok p _ hx
   have hlen:kvs.length=vs.length:=Paired.length r
   exact wpAny_truthy_dict hS m wF ⟨H,I.tok _,by rw [XS r]; exact q⟩
 | _=>exact (show False from e).elim
theorem UC (ha:PE X a ta) (he:∀ whole,isTrue a X.env whole=(do let v <- whole; standAt a.pos; holding [v] (truthy v))) :
  PT X a (λσ H Q=>ta σ H λx H'=>∃ k,Q4 X.K x H' k/\Q k H'):=by
 intro pins s σ H Q I h
 exact isTrue_plain (Ar (ha pins s σ H _ I h) λv s1 ⟨x,H1,I1,r1,q1⟩=>RS pins s1 σ H1 x v Q I1 r1 q1) (he _)
theorem Dx {x:V} {us:List Value} (r:AC [x] us):∃ u,us=[u]/\AV x u:=by
 cases r with
 | cons r1 r2=>cases r2; exact ⟨_,rfl,r1⟩
theorem Fx {x y:V} {us:List Value} (r:AC [x,y] us):∃ u w',us=[u,w']/\AV x u/\AV y w':=by
 cases r with
 | cons r1 r2=>
  cases r2 with
  | cons r3 r4=>cases r4; exact ⟨_,_,rfl,r1,r3⟩
theorem ZL:D4 X (.builtin "abs") (λxs H Q=>∃ i,xs=[.int i]/\Q (.int (if i<0 then -i else i)) H):=by
 intro pins s σ H xs us Q I r h
 obtain ⟨i,rfl,q⟩:=h
 obtain ⟨u,rfl,t,rfl⟩:=Dx r
 exact call_abs_int λu tk=>⟨.int (if i<0 then -i else i),H,I.tok _,⟨_,rfl⟩,q⟩
theorem ZC (hc:X.calm=true):D4 X (.builtin "max") (λxs H Q=>∃ i j,xs=[.int i,.int j]/\Q (.int (if j>i then j else i)) H):=by
 intro pins s σ H xs us Q I r h
 obtain ⟨i,j,rfl,q⟩:=h
 obtain ⟨u,w',rfl,⟨t,rfl⟩,⟨t',rfl⟩⟩:=Fx r
 refine max_two_ints (I.ok.hd hc) λh' tk k=>⟨_,H,I.kept k,?_,q⟩
 by_cases hj:j>i
 ·rw [if_pos hj,if_pos hj]; exact ⟨_,rfl⟩
 ·rw [if_neg hj,if_neg hj]; exact ⟨_,rfl⟩
theorem ZH:D4 X (.type "int") (λxs H Q=>(∃ i,xs=[.int i]/\Q (.int i) H)\/∃ k,xs=[.bl k]/\Q (.int (if k then 1 else 0)) H):=by
 intro pins s σ H xs us Q I r h
 rcases h with ⟨i,rfl,q⟩ | ⟨k,rfl,q⟩
 ·obtain ⟨u,rfl,t,rfl⟩:=Dx r
  exact call_int_int ⟨.int i,H,I,⟨_,rfl⟩,q⟩
 ·obtain ⟨u,rfl,r1⟩:=Dx r
  cases r1
  exact call_int_bool ⟨.int (if k then 1 else 0),H,I.tok _,⟨_,rfl⟩,q⟩
end
end L2
namespace L2
open PySem PySem.Spec PyProof.Rows
structure Fr (h:Heap) (x dx C:Addr) (mA:Str->Option Value):Prop where
 obj:h.get? x=some (PySem.W.instObj C dx)
 ns:h.Ns1 dx mA
 ne:dx≠x
theorem Xk {h:Heap} {dx:Addr} {mA:Str->Option Value} (n:h.Ns1 dx mA):∃ od,h.get? dx=some od/\∀ name,PySem.W.lookIn name od=some (mA name):=by
 obtain ⟨o,es,ep,ho,hd,hk,_,hm⟩:=n
 refine ⟨o,ho,λname=>?_⟩
 have e:=hm name
 unfold nsFind findBy at e
 rw [<- Array.find?_toList] at e
 unfold PySem.W.lookIn
 rw [hd]
 dsimp only
 split
 ·rename_i y q
  rw [q] at e
  exact congrArg some e
 ·rename_i q
  rw [q] at e
  have a:es.toList.any (·.refKey)=false:=by
   rw [List.any_eq_false]
   intro y hy
   obtain ⟨z,t,hkey⟩:=hk y (Array.mem_toList_iff.mp hy)
   simp [DictEntry.refKey,hkey]
  have a':¬ es.toList.any (·.refKey)=true:=by rw [a]; exact Bool.false_ne_true
  rw [if_neg a']
  exact congrArg some e
theorem Fr.look {h:Heap} {x dx C:Addr} {mA:Str->Option Value} (I:Fr h x dx C mA):∃ od,PySem.W.InstAt h x (PySem.W.instObj C dx) C (some od)/\∀ name,PySem.W.lookIn name od=some (mA name):=
 let ⟨od,ho,hl⟩:=Xk I.ns
 ⟨od,⟨I.obj,rfl,rfl,ho⟩,hl⟩
section
variable {prog:Program} {w:World} {A:Around} {E:Value->Shared->Prop} {s:Shared} {K:PySem.W.Frag} {x dx C f:Addr} {mA:Str->Option Value} {name:Str} {v:Value}
theorem Yn {expr:Bool} {Q:Value->Shared->Prop} (X:K.In s.heap) (I:Fr s.heap x dx C mA) (hg:PySem.W.plainGet K C name=true) (hh:PySem.W.hasDictIn K C=true)
  (ha:PySem.W.findIn K (.ref C) name=some none) (hv:mA name=some v) (hv':PySem.W.handedIn v=true) (h:Q v { s with toks:=s.toks+1 }) :
  wpAny (model prog w) A (getAttr (.ref x) name expr) Q E s:=by
 obtain ⟨od,J,hl⟩:=I.look
 exact PySem.W.get_value X J (PySem.W.plainGet_of hg).1 (PySem.W.findObj_own hh ha rfl (by rw [hl,hv])) hv' h
theorem Ym {pl:Sem Bool} {Q:Value×List Value->Shared->Prop} (X:K.In s.heap) (I:Fr s.heap x dx C mA) (hg:PySem.W.plainGet K C name=true)
  (hf:PySem.W.findIn K (.ref C) name=some (some (.ref f))) (ht:PySem.W.isFn K (.ref f)=true) (hv:mA name=none) (h:Q (.ref f,[.ref x]) s) :
  wpAny (model prog w) A (getMethod (.ref x) name pl) Q E s:=by
 obtain ⟨od,J,hl⟩:=I.look
 exact PySem.W.method_fn X J (PySem.W.plainGet_of hg).1 (PySem.W.plainGet_of hg).2 hf (beq_iff_eq.mp ht) (by show (PySem.W.lookIn name od).map (·.isSome)=some false; rw [hl,hv]; rfl) h
theorem SU {ns:List Str} {Q:Unit->Shared->Prop} (X:K.In s.heap) (I:Fr s.heap x dx C mA)
  (hs:PySem.W.findIn K (.ref C) "__setattr__" = some (some (.builtin "object.__setattr__"))) (hp:PySem.W.plainOver K C=true) (ht:PySem.W.takerIn K C name=some none) (hh:PySem.W.hasDictIn K C=true)
  (hw:PySem.Within mA ns) (hsz:ns.length<=sizeLine)
  (h:∀ h',Fr h' x dx C (λy=>if y=name then some v else mA y)->Heap.SameBut dx s.heap h'->Q () { s with heap:=h',toks:=s.toks+2 }) :
  wpAny (model prog w) A (setAttr (.ref x) name v) Q E s:=by
 obtain ⟨od,J,hl⟩:=I.look
 refine PySem.W.set_plain X J hs (PySem.W.osa_open (s:={ s with toks:=s.toks+1 }) (r:=none) X J hp ht λb=>?_)
 obtain ⟨cd,hc,hd'⟩:=PySem.W.any_some hh
 have hx:s.heap.get? x=some ⟨.ref C,some dx,.plain,#[]⟩:=I.obj
 refine wpAny_bind (wpAny_pure (wpAny_bind (wpAny_bind (wpAny_loadPart hx (wpAny_bind (PySem.W.Looks.here (s:={ s with toks:=s.toks+1 }) (PySem.W.looks_clsIn X hc) ?_))))))
 rw [hd']
 refine wpAny_pure (a:=some dx) (wpAny_bind (wpAny_pure (wpAny_bind ?_)))
 refine wpAny_nsSet1 (s:={ s with toks:=s.toks+1 }) I.ns λh' hn2 hs2=>?_
 obtain ⟨oD,esD,epD,hoD,hdD,hcD⟩:=hn2.count (PySem.Within.cons name v hw)
 refine wpAny_bind (wpAny_lookBehind hoD (by rw [hdD]; exact pastItsLine_dict (Nat.le_trans hcD (by rw [List.length_cons]; omega))) ?_)
 exact wpAny_pure (h _ ⟨(hs2.2 _ (Ne.symm I.ne)).trans I.obj,hn2,I.ne⟩ hs2)
theorem Xg {R:Result->Shared->Prop} {vs:List Value} {kw:List (Str×Value)} (X:K.In s.heap) (hm:PySem.W.makesIn K C=true)
  (hi:PySem.W.findIn K (.ref C) "__init__" = some (some (.ref f))) (hf:PySem.W.typeIn K (.ref f)=some (.type "function"))
  (h:codeAny (model prog w) (A.under (.builtin "type.__call__" ⟨.ref C::vs,kw⟩)) (.call (.ref f) ⟨.ref (s.heap.objs.size+1)::vs,kw⟩) (PySem.W.InitBack (s.heap.objs.size+1) R)
   { s with heap:=(s.heap.push PySem.W.emptyDict).push (PySem.W.instObj C s.heap.objs.size) }) :
  codeAny (model prog w) A (.call (.ref C) ⟨vs,kw⟩) R s:=by
 obtain ⟨hh,g,d,t,os⟩:=s
 exact PySem.W.make_core (PySem.W.makes_of X hm) (PySem.W.looks_findIn X hi) (λself=>PySem.W.bind_fn X self hf) (.inl rfl) h
end
def Cr (f:Str) (v:V):List (Str×V)->List (Str×V)
 | []=>[(f,v)]
 | (g,x)::r=>if g=f then (g,v)::r else (g,x)::Cr f v r
theorem Pt (f g:Str) (v:V):∀ fs:List (Str×V),(Cr f v fs).lookup g=if g=f then some v else fs.lookup g
 | []=>by
  show List.lookup g [(f,v)]=_
  by_cases h:g=f
  ·have hb:(g==f)=true:=beq_iff_eq.mpr h
   simp only [List.lookup,hb,if_pos h]
  ·have hb:(g==f)=false:=beq_eq_false_iff_ne.mpr h
   simp only [List.lookup,hb,if_neg h]
 | (k,x)::r=>by
  have ih:=Pt f g v r
  rw [show Cr f v ((k,x)::r)=(if k=f then (k,v)::r else (k,x)::Cr f v r) from rfl]
  by_cases hk:k=f
  ·rw [if_pos hk]
   by_cases h:g=k
   ·have hb:(g==k)=true:=beq_iff_eq.mpr h
    simp only [List.lookup,hb,if_pos (h.trans hk)]
   ·have hb:(g==k)=false:=beq_eq_false_iff_ne.mpr h
    simp only [List.lookup,hb,if_neg (λe:g=f=>h (e.trans hk.symm))]
  ·rw [if_neg hk]
   by_cases h:g=k
   ·have hb:(g==k)=true:=beq_iff_eq.mpr h
    simp only [List.lookup,hb,if_neg (λe:g=f=>hk (h.symm.trans e))]
   ·have hb:(g==k)=false:=beq_eq_false_iff_ne.mpr h
    simp only [List.lookup,hb]
    exact ih
theorem LM (f:Str) (v:V):∀ fs:List (Str×V),f∈(Cr f v fs).map (·.1)/\∀ g,g∈fs.map (·.1)->g∈(Cr f v fs).map (·.1)
 | []=>⟨by simp [Cr],λg h=>by simp at h⟩
 | (k,x)::r=>by
  obtain ⟨i1,i2⟩:=LM f v r
  rw [show Cr f v ((k,x)::r)=(if k=f then (k,v)::r else (k,x)::Cr f v r) from rfl]
  by_cases hk:k=f
  ·rw [if_pos hk]
   subst hk
   exact ⟨by simp,λg h=>by simpa using h⟩
  ·rw [if_neg hk]
   refine ⟨?_,λg h=>?_⟩
   ·rw [List.map_cons]
    exact List.mem_cons_of_mem _ i1
   ·rw [List.map_cons] at h ⊢
    rcases List.mem_cons.mp h with e | e
    ·exact List.mem_cons.mpr (.inl e)
    ·exact List.mem_cons_of_mem _ (i2 g e)
theorem Pu (f:Str) (v:V):∀ fs:List (Str×V),(Cr f v fs).length<=fs.length+1
 | []=>by simp [Cr]
 | (k,x)::r=>by
  have ih:=Pu f v r
  rw [show Cr f v ((k,x)::r)=(if k=f then (k,v)::r else (k,x)::Cr f v r) from rfl]
  by_cases hk:k=f
  ·rw [if_pos hk,List.length_cons,List.length_cons]; omega
  ·rw [if_neg hk,List.length_cons,List.length_cons]; omega
theorem D0.some_of {v:V} {o:Option Value} (r:D0 (some v) o):∃ u,o=some u/\AV v u:=by
 cases o with
 | none=>exact (show False from r).elim
 | some u=>exact ⟨u,rfl,r⟩
theorem D0.none_of {o:Option Value} (r:D0 none o):o=none:=by
 cases o with
 | none=>rfl
 | some u=>exact (show False from r).elim
theorem Yf {v:V} {u:Value} (r:AV v u):PySem.W.handedIn u=true:=by
 cases v with
 | non=>cases (show u=Value.none from r); rfl
 | bl b=>cases (show u=Value.bool b from r); rfl
 | int i=>obtain ⟨t,e⟩:=(show ∃ t,u=Value.int i t from r); cases e; rfl
 | str x=>obtain ⟨t,e⟩:=(show ∃ t,u=Value.str x t from r); cases e; rfl
 | byt b=>obtain ⟨t,e⟩:=(show ∃ t,u=Value.bytes b t from r); cases e; rfl
 | flt b=>obtain ⟨t,e⟩:=(show ∃ t,u=Value.float b t from r); cases e; rfl
 | ref a=>cases (show u=Value.ref a from r); rfl
 | ty n=>cases (show u=Value.type n from r); rfl
section
variable {P:Program} {w:World} {H H':Hp} {h h':Heap} {a C dx:Addr} {fs fs':List (Str×V)}
theorem IF (hok:BJ P w H h) (e:H a=some (.ins C dx fs)):∃ mA,Fr h a dx C mA/\(∀ f,D0 (fs.lookup f) (mA f))/\PySem.Within mA (fs.map (·.1))/\fs.length<=1000/\H dx=some (.own a):=by
 obtain ⟨d,z,ne,ob,mA,n,r,q⟩:=(show B3 P w H h a (.ins C dx fs) from hok a _ e)
 exact ⟨mA,⟨ob,n,ne⟩,r,q,z,d⟩
end
structure A7 (K:PySem.W.Frag) (C:Addr):Prop where
 pg:PySem.W.plainGet K C Str.empty=true
 hd:PySem.W.hasDictIn K C=true
 po:PySem.W.plainOver K C=true
 sa:PySem.W.findIn K (.ref C) "__setattr__" = some (some (.builtin "object.__setattr__"))
theorem A7.get {K:PySem.W.Frag} {C:Addr} (c:A7 K C) (f:Str):PySem.W.plainGet K C f=true:=c.pg
def Ap (K:PySem.W.Frag) (C:Addr) (f:Str):Prop:=PySem.W.findIn K (.ref C) f=some none
theorem Ap.taker {K:PySem.W.Frag} {C:Addr} {f:Str} (n:Ap K C f):PySem.W.takerIn K C f=some none:=by
 unfold PySem.W.takerIn
 rw [show PySem.W.findIn K (.ref C) f=some none from n]
 rfl
structure Jg (K:PySem.W.Frag) (C:Addr) (m:Str) (f:Addr):Prop where
 at_:PySem.W.findIn K (.ref C) m=some (some (.ref f))
 fn:PySem.W.isFn K (.ref f)=true
 kp:PySem.W.keepIn K (.ref f)=true
section
variable {X:Cx} {pins:List (Addr×Obj)} {σ:St} {H:Hp} {s:Shared} {a C dx:Addr} {fs:List (Str×V)} {f:Str} {v:V} {A:Around} {E:Value->Shared->Prop}
theorem Yl {b:Bool} {Q:Value->Shared->Prop} (I:Inv X pins σ H s) (e:H a=some (.ins C dx fs)) (c:A7 X.K C) (n:Ap X.K C f) (l:fs.lookup f=some v)
  (h:∀ u s',Inv X pins σ H s'->AV v u->Q u s'):wpAny (model X.prog X.w) A (getAttr (.ref a) f b) Q E s:=by
 obtain ⟨mA,O,r,_,_,_⟩:=IF I.hok e
 obtain ⟨u,hu,ru⟩:=D0.some_of (v:=v) (o:=mA f) (by rw [<- l]; exact r f)
 exact Yn I.kIn O (c.get f) c.hd n hu (Yf ru) (h u _ (I.tok _) ru)
theorem P2 {m:Str} {g:Addr} {pl:Sem Bool} {Q:Value×List Value->Shared->Prop} (I:Inv X pins σ H s) (e:H a=some (.ins C dx fs)) (c:A7 X.K C) (k:Jg X.K C m g) (l:fs.lookup m=none)
  (h:Q (.ref g,[.ref a]) s):wpAny (model X.prog X.w) A (getMethod (.ref a) m pl) Q E s:=by
 obtain ⟨mA,O,r,_,_,_⟩:=IF I.hok e
 have hn:mA m=none:=D0.none_of (by rw [<- l]; exact r m)
 exact Ym I.kIn O (c.get m) k.at_ k.fn hn h
theorem Of {y:V} {u:Value} {Q:Unit->Shared->Prop} (I:Inv X pins σ H s) (e:H a=some (.ins C dx fs)) (c:A7 X.K C) (n:Ap X.K C f) (hl:fs.length<1000) (ry:AV y u)
  (h:∀ s',Inv X pins σ (AN H a (.ins C dx (Cr f y fs))) s'->Q () s'):wpAny (model X.prog X.w) A (setAttr (.ref a) f u) Q E s:=by
 obtain ⟨mA,O,r,wi,_,ho⟩:=IF I.hok e
 have hz:(fs.map (·.1)).length<=sizeLine:=by rw [List.length_map,sizeLine_eq]; omega
 refine SU I.kIn O c.sa c.po n.taker c.hd wi hz λh' O' sb=>h _ ?_
 have hd:∃ o,h'.get? dx=some o:=let ⟨o,_,_,e',_⟩:=O'.ns; ⟨o,e'⟩
 refine I.write (x:=a) (e:=dx) (by rw [e]; exact True.intro) (.inr ho) (λb q hb z=>(sb.2 b hb).trans z) hd ?_
 refine ⟨by rw [A4 O.ne]; exact ho,?_,O.ne,O'.obj,_,O'.ns,λg=>?_,λg hg=>?_⟩
 ·have:=Pu f y fs; omega
 ·show D0 ((Cr f y fs).lookup g) (if g=f then some u else mA g)
  rw [Pt]
  by_cases q:g=f
  ·rw [if_pos q,if_pos q]; exact ry
  ·rw [if_neg q,if_neg q]; exact r g
 ·by_cases q:g=f
  ·rw [q]; exact (LM f y fs).1
  ·refine (LM f y fs).2 g (wi g λz=>hg ?_)
   show (if g=f then some u else mA g)=none
   rw [if_neg q]; exact z
theorem Inv.made (I:Inv X pins σ H s):Inv X pins σ (AN (AN H s.heap.objs.size (.own (s.heap.objs.size+1))) (s.heap.objs.size+1) (.ins C s.heap.objs.size []))
  { s with heap:=(s.heap.push PySem.W.emptyDict).push (PySem.W.instObj C s.heap.objs.size) }:=by
 have e1:(s.heap.push PySem.W.emptyDict).get? s.heap.objs.size=some PySem.W.emptyDict:=Heap.get?_push_size s.heap rfl
 have e2:((s.heap.push PySem.W.emptyDict).push (PySem.W.instObj C s.heap.objs.size)).get? (s.heap.objs.size+1)=some (PySem.W.instObj C s.heap.objs.size):=by
  have:=Heap.get?_push_size (s.heap.push PySem.W.emptyDict) (o:=PySem.W.instObj C s.heap.objs.size) rfl
  rwa [Heap.size_push] at this
 have e3:(s.heap.push PySem.W.emptyDict).Ns s.heap.objs.size (λ_=>none):=⟨PySem.W.emptyDict,#[],_,e1,rfl,(λe he=>absurd he (by simp)),λ_=>rfl⟩
 have I1:=I.laid (a:=s.heap.objs.size) (o:=.own (s.heap.objs.size+1)) (h':=s.heap.push PySem.W.emptyDict) (t':=s.toks) (λb u q=>Heap.get?_push_of_some _ q) (Nat.le_refl _) ⟨_,e1⟩
 refine I1.laid (a:=s.heap.objs.size+1) (o:=.ins C s.heap.objs.size []) (t':=s.toks) (λb u q=>Heap.get?_push_of_some _ q) (Nat.le_of_eq (Heap.size_push _ _)) ?_
 have ne:s.heap.objs.size≠s.heap.objs.size+1:=Nat.ne_of_lt (Nat.lt_succ_self _)
 refine ⟨by rw [A4 ne,BF],Nat.zero_le _,ne,e2,λ_=>none,(Heap.Ns1.of_empty e3).at λo q=>Heap.get?_push_of_some _ q,λ_=>True.intro,λy hy=>absurd rfl hy⟩
theorem Z0 {prog:Program} {w:World} {env:Env} {e:Expr} {f:Str} {pos:Pos} {s:Shared} {Q:Value->Shared->Prop} (hb:attributeBase e f env (eval e env)=eval e env)
  (h:wpAny (model prog w) A (eval e env) (λo s₁=>wpAny (model prog w) A (getAttr o f true) Q E s₁) E s):wpAny (model prog w) A (eval (.Attribute e f pos) env) Q E s:=
 Attribute_any_ h (by rw [arm_eval_Attribute,hb])
end
def Sk (K:PySem.W.Frag) (ta:TE) (f:Str):TE:=λσ H Q=>ta σ H λx H1=>∃ a C dx fs v,x=.ref a/\H1 a=some (.ins C dx fs)/\A7 K C/\Ap K C f/\fs.lookup f=some v/\Q v H1
section
variable {X:Cx} {o e value:Expr} {f:Str} {pos pos' tpos:Pos} {ta tv:TE}
theorem Vb (he:PE X e ta) (hb:attributeBase e f X.env (eval e X.env)=eval e X.env):PE X (.Attribute e f pos) (Sk X.K ta f):=by
 intro pins s σ H Q I h
 refine Z0 hb (Ar (he pins s σ H _ I h) λu s1 ⟨x,H1,I1,rx,a,C,dx,fs,v,ex,ea,c,n,l,q⟩=>?_)
 subst ex
 obtain rfl:u=Value.ref a:=rx
 exact Yl I1 ea c n l λu' s2 I2 ru=>⟨v,H1,I2,ru,q⟩
end
section
variable {X:Cx} {pins:List (Addr×Obj)} {σ:St} {H:Hp} {s:Shared} {A:Around} {E:Value->Shared->Prop} {Q:Value->Shared->Prop} {c:Value} {b:Bool}
inductive Ds (K:PySem.W.Frag) (H:Hp):V->Value->Prop where
 | non:Ds K H .non (.type "NoneType")
 | bl (x:Bool):Ds K H (.bl x) (.type "bool")
 | int (i:Int):Ds K H (.int i) (.type "int")
 | str (x:Str):Ds K H (.str x) (.type "str")
 | flt (x:UInt64):Ds K H (.flt x) (.type "float")
 | lst {a:Addr} {xs:List V} (e:H a=some (.lst xs)):Ds K H (.ref a) (.type "list")
 | frz {a:Addr} {o:Obj} {xs:List V} (e:H a=some (.frz o (.lst xs))):Ds K H (.ref a) (.type "list")
 | tup {a:Addr} {xs:List V} (e:H a=some (.tup xs)):Ds K H (.ref a) (.type "tuple")
 | dK {a:Addr} {kvs:List (A0×V)} (e:H a=some (.dK kvs)):Ds K H (.ref a) (.type "dict")
 | dT {a:Addr} {kvs:List (List A0×V)} (e:H a=some (.dT kvs)):Ds K H (.ref a) (.type "dict")
 | ins {a C dx:Addr} {fs:List (Str×V)} (e:H a=some (.ins C dx fs)) (cl:A7 K C) (ha:PySem.W.findIn K (.ref C) "__class__" = some (some (.builtin "object.__class__")))
   (hn:PySem.W.specialIn K (.builtin "object.__class__") "__get__" = some (some (.builtin "getset_descriptor.__get__"))) (htk:PySem.W.takesIn K (.builtin "object.__class__")=some true)
   (hm:PySem.W.mroIn K C (.type "object")=some true):Ds K H (.ref a) (.ref C)
theorem XO {x:V} {u t:Value} (I:Inv X pins σ H s) (rx:AV x u) (ty:Ds X.K H x t) (e:PySem.W.kitOne X.K t c=some b) (h:∀ tk,Q (.bool b) { s with toks:=tk }) :
  wpAny (model X.prog X.w) A (call (.builtin "isinstance") [u,c]) Q E s:=by
 cases ty with
 | non=>cases (show u=Value.none from rx); exact PySem.W.kia_one PySem.W.kitx_none I.kIn True.intro e (λz=>nomatch z) h
 | bl y=>cases (show u=Value.bool y from rx); exact PySem.W.kia_one PySem.W.kitx_bool I.kIn True.intro e (λz=>nomatch z) h
 | int i=>obtain ⟨t,q⟩:=(show ∃ t,u=Value.int i t from rx); cases q; exact PySem.W.kia_one PySem.W.kitx_int I.kIn True.intro e (λz=>nomatch z) h
 | str y=>obtain ⟨t,q⟩:=(show ∃ t,u=Value.str y t from rx); cases q; exact PySem.W.kia_one PySem.W.kitx_str I.kIn True.intro e (λz=>nomatch z) h
 | flt y=>obtain ⟨t,q⟩:=(show ∃ t,u=Value.float y t from rx); cases q; exact PySem.W.kia_one PySem.W.kitx_float I.kIn True.intro e (λz=>nomatch z) h
 | @lst a xs ea=>
  cases (show u=Value.ref a from rx)
  obtain ⟨_,_,n,_,h1⟩:=(show B3 X.prog X.w H s.heap a (.lst xs) from I.hok a _ ea)
  exact PySem.W.kia_one PySem.W.kitx_list I.kIn ⟨_,h1,rfl⟩ e (λz=>nomatch z) h
 | @frz a ob xs ea=>
  cases (show u=Value.ref a from rx)
  obtain ⟨_,_,_,n,_,h1⟩:=(show B3 X.prog X.w H s.heap a (.frz ob (.lst xs)) from I.hok a _ ea)
  exact PySem.W.kia_one PySem.W.kitx_list I.kIn ⟨_,h1,rfl⟩ e (λz=>nomatch z) h
 | @tup a xs ea=>
  cases (show u=Value.ref a from rx)
  obtain ⟨_,_,_,p⟩:=(show B3 X.prog X.w H s.heap a (.tup xs) from I.hok a _ ea)
  obtain ⟨o,h1,h2,_⟩:=p.t
  exact PySem.W.kia_one PySem.W.kitx_tuple I.kIn ⟨o,h1,h2⟩ e (λz=>nomatch z) h
 | @dK a kvs ea=>
  cases (show u=Value.ref a from rx)
  obtain ⟨_,_,vs,_,p⟩:=(show B3 X.prog X.w H s.heap a (.dK kvs) from I.hok a _ ea)
  obtain ⟨o,es,ep,h1,h2,_⟩:=p
  exact PySem.W.kia_one PySem.W.kitx_dict I.kIn ⟨o,h1,h2.1⟩ e (λz=>nomatch z) h
 | @dT a kvs ea=>
  cases (show u=Value.ref a from rx)
  obtain ⟨_,_,xs,_,o,es,ep,h1,h2,_⟩:=(show B3 X.prog X.w H s.heap a (.dT kvs) from I.hok a _ ea)
  exact PySem.W.kia_one PySem.W.kitx_dict I.kIn ⟨o,h1,h2.1⟩ e (λz=>nomatch z) h
 | @ins a C dx fs ea cl ha hn htk hm=>
  cases (show u=Value.ref a from rx)
  obtain ⟨mA,O,_⟩:=IF I.hok ea
  obtain ⟨od,J,_⟩:=O.look
  exact PySem.W.kia_one (PySem.W.kitx_own (cl.get _) cl.hd ha hn htk hm) I.kIn J e (λz=>nomatch z) h
end
end L2
namespace L2
open PySem PySem.Spec PyProof.Rows
structure AR (k:Nat) (A:Around):Prop where
 hd:A.handled=none
 dp:A.depth+3*k+5<recursionLimit
 un:A.units+16*k+200<cLine
theorem AR.mono {j k:Nat} {A:Around} (r:AR k A) (h:j<=k):AR j A:=⟨r.hd,by have:=r.dp; omega,by have:=r.un; omega⟩
theorem AR.deeper {k:Nat} {A:Around} (r:AR (k+1) A) (env:Env):AR k (A.deeper env):=
 ⟨r.hd,by have:=r.dp; show A.depth+1+3*k+5<_; omega,by have:=r.un; show A.units+3+16*k+200<_; omega⟩
theorem Xh {A:Around} {C:Addr} {us:List Value} {kw:List (Str×Value)}:(A.under (.builtin "type.__call__" ⟨.ref C::us,kw⟩)).depth=A.depth+1:=by
 first | rfl | simp [Around.under,Code.weight,Code.isCreation,Code.isGuard,Code.isCaller,Code.frames,Code.isFrame,guardIds]
theorem Xf {A:Around} {C:Addr} {us:List Value} {kw:List (Str×Value)}:(A.under (.builtin "type.__call__" ⟨.ref C::us,kw⟩)).units=A.units+1:=by
 first | rfl | simp [Around.under,Code.cUnits,Code.frames,Code.isFrame]
theorem AR.make {k:Nat} {A:Around} (r:AR (k+1) A) (C:Addr) (us:List Value) (kw:List (Str×Value)):AR k (A.under (.builtin "type.__call__" ⟨.ref C::us,kw⟩)):=
 ⟨r.hd,by have:=r.dp; rw [Xh]; omega,by have:=r.un; rw [Xf]; omega⟩
theorem AR.depth {k:Nat} {A:Around} (r:AR k A):A.depth<recursionLimit:=by have:=r.dp; omega
theorem AR.units {k:Nat} {A:Around} (r:AR k A):A.units+64<cLine:=by have:=r.un; omega
def Nd:TA:=λ_ H Q=>Q [] H
def Sn (ta:TE) (tr:TA):TA:=λσ H Q=>ta σ H λx H1=>tr σ H1 λxs H2=>Q (x::xs) H2
section
variable {X:Cx} {e:Expr} {es:List Expr} {te:TE} {t:TA} {pos:Pos}
theorem Io:PA X [] Nd:=λ_ _ _ _ H Q I h=>Calls.spliced_nil ⟨[],H,I,.nil,h⟩
theorem FY (ha:PE X e te) (hr:PA X es t) (hs:starEach (e::es) X.env=(false,eval e X.env)::starEach es X.env:=by rfl):PA X (e::es) (Sn te t):=by
 intro pos pins s σ H Q I h
 rw [hs]
 show wpAny _ _ (spliced ((false,eval e X.env)::backTo pos (starEach es X.env))) _ _ s
 refine Calls.spliced_cons (Ar (ha pins s σ H _ I h) λu s1 ⟨x,H1,I1,r1,q1⟩=>?_)
 exact Ar (hr pos pins s1 σ H1 _ I1 q1) λus s2 ⟨xs,H2,I2,r2,q2⟩=>⟨x::xs,H2,I2,.cons r1 r2,q2⟩
def R5 (t:TA):TE:=λσ H Q=>t σ H λxs H1=>xs.length<=sizeLine/\∀ p,H1 p=none->Q (.ref p) (AN H1 p (.tup xs))
def Sg (t:TA):TE:=λσ H Q=>t σ H λxs H1=>xs.length<=sizeLine/\∀ p,H1 p=none->Q (.ref p) (AN H1 p (.lst xs))
theorem U2 {x1} (h:PA X es t):PE X (.Tuple es x1 pos) (R5 t):=by
 intro pins s σ H Q I hq
 refine wpAny_Tuple_spliced (Ar (h pos pins s σ H _ I hq) λus s1 ⟨xs,H1,I1,r,z,q⟩=>⟨by rw [<- r.length]; exact z,?_⟩)
 have hf:H1 s1.heap.objs.size=none:=I1.hok.fresh (Nat.le_refl _)
 refine ⟨.ref s1.heap.objs.size,AN H1 s1.heap.objs.size (.tup xs),I1.laid (t':=s1.toks) (λb u e=>Heap.get?_push_of_some _ e) (Nat.le_refl _) ?_,rfl,q _ hf⟩
 exact ⟨z,us,r,En.new _ _⟩
theorem OU (h:PA X es t):PE X (.List es pos) (Sg t):=by
 intro pins s σ H Q I hq
 refine wpAny_List_spliced (Ar (h pos pins s σ H _ I hq) λus s1 ⟨xs,H1,I1,r,z,q⟩=>⟨by rw [<- r.length]; exact z,?_⟩)
 have hf:H1 s1.heap.objs.size=none:=I1.hok.fresh (Nat.le_refl _)
 refine ⟨.ref s1.heap.objs.size,AN H1 s1.heap.objs.size (.lst xs),I1.laid (t':=s1.toks) (λb u e=>Heap.get?_push_of_some _ e) (Nat.le_refl _) ?_,rfl,q _ hf⟩
 exact ⟨z,us,0,r,Heap.get?_push_size _ rfl⟩
end
abbrev Sp:=List V->Hp->VK->XK->Prop
abbrev C7:=List Env->Hp->Shared->XK->Value->Shared->Prop
structure Ft (P:Program) (w:World) (K:PySem.W.Frag) (mg:Str->Option Value) (base:Heap) (A:Around) (outer:List Env) (s:Shared) (H:Hp):Prop where
 frames:A.frames=some outer
 mod:Mod K mg base
 bs:∀ b o,base.get? b=some o->s.heap.get? b=some o/\H b=none
 bsz:base.objs.size<=s.heap.objs.size
 funs:s.heap.FunFrames base outer
 frf:∀ b∈C0 outer,H b=none
 hok:BJ P w H s.heap
 bare:AllBare s.gens
def CE (outer:List Env) (P:Program) (w:World) (H:Hp) (s:Shared) (Q:VK) (u:Value) (s':Shared):Prop:=
 ∃ v H',s'.os=s.os/\AllBare s'.gens/\Un (C0 outer) [] H H' s.heap s'.heap/\BJ P w H' s'.heap/\AV v u/\Q v H'
def CR (CX:C7) (outer:List Env) (P:Program) (w:World) (H:Hp) (s:Shared) (Q:VK) (E:XK) (r:Result) (s':Shared):Prop:=
 match r with
 | .ok (.ret u)=>CE outer P w H s Q u s'
 | .ok _=>False
 | .error e=>CX outer H s E e s'
structure AF (P:Program) (w:World) (K:PySem.W.Frag) (mg:Str->Option Value) (base:Heap) (CX:C7) (k:Nat) (f:Addr) (fd:FuncData) (ps:List Str) (sp:Sp):Prop where
 len:∀ vs H Q E,sp vs H Q E->vs.length=ps.length
 run:∀ (A:Around) (outer:List Env) (s:Shared) (H:Hp) (args:Args) (us:List Value) (vs:List V) (Q:VK) (E:XK),AR k A->Ft P w K mg base A outer s H->BindsTo s fd args (ps.zip us)->AC vs us->sp vs H Q E->
  codeAny (model P w) A (.call (.ref f) args) (CR CX outer P w H s Q E) s
theorem AF.mono {P:Program} {w:World} {K:PySem.W.Frag} {mg:Str->Option Value} {base:Heap} {CX:C7} {j k:Nat} {f:Addr} {fd:FuncData} {ps:List Str} {sp:Sp} (F:AF P w K mg base CX j f fd ps sp) (h:j<=k) :
  AF P w K mg base CX k f fd ps sp:=⟨F.len,λA outer s H args us vs Q E hr=>F.run A outer s H args us vs Q E (hr.mono h)⟩
theorem Ft.make {P:Program} {w:World} {K:PySem.W.Frag} {mg:Str->Option Value} {base:Heap} {A:Around} {outer:List Env} {s:Shared} {H:Hp} (e:Ft P w K mg base A outer s H) (C:Addr) (us:List Value) (kw:List (Str×Value)) :
  Ft P w K mg base (A.under (.builtin "type.__call__" ⟨.ref C::us,kw⟩)) outer s H:=⟨by first | exact e.frames | (simpa [Around.under,Code.envs,Code.isFrame,pushEnvs] using e.frames),e.mod,e.bs,e.bsz,e.funs,e.frf,e.hok,e.bare⟩
section
variable {X:Cx} {pins:List (Addr×Obj)} {σ:St} {H:Hp} {s s':Shared}
theorem Inv.env0 (I:Inv X pins σ H s):Ft X.prog X.w X.K X.mg X.base X.A X.stack s H:=
 ⟨I.ok.frames,I.ok.mod,I.bs,Nat.le_trans I.ok.bsz I.sz,I.stack,I.stkFree,I.hok,I.bare⟩
theorem Inv.after {Q:VK} {u:Value} (I:Inv X pins σ H s) (h:CE X.stack X.prog X.w H s Q u s'):EP X pins σ Q u s':=by
 obtain ⟨v,H',os,bare,un,hok,r,q⟩:=h
 obtain ⟨hh,g,d,t,os'⟩:=s'
 obtain rfl:os'=s.os:=os
 exact ⟨v,H',I.call (h':=hh) (g':=g) (d':=d) (t':=t) (ch:=[]) un hok bare (λb z=>absurd z (by simp)),r,q⟩
end
def So (sp:Sp) (dvs:List V) (E:XK) (t:TA):TE:=λσ H Q=>t σ H λvs H1=>sp (vs++dvs) H1 Q E
def Nf (C:Addr) (m:Str) (sp:Sp) (dvs:List V) (E:XK) (ta:TE) (t:TA):TE:=λσ H Q=>ta σ H λx H1=>∃ a dx fs,x=.ref a/\H1 a=some (.ins C dx fs)/\fs.lookup m=none /\
 t σ H1 λvs H2=>sp (x::(vs++dvs)) H2 Q E
def Sf (C:Addr) (sp:Sp) (dvs:List V) (E:XK) (t:TA):TE:=λσ H Q=>t σ H λvs H1=>∀ x dx,H1 x=none->H1 dx=none->dx≠x->
 sp (.ref x::(vs++dvs)) (AN (AN H1 dx (.own x)) x (.ins C dx [])) (λv H2=>v=.non/\Q (.ref x) H2) E
def Binds (K:PySem.W.Frag) (fd:FuncData) (ps:List Str) (ds:List Value):Prop:=
 ∀ (s:Shared) (us:List Value),K.In s.heap->(us++ds).length=ps.length->BindsTo s fd ⟨us,[]⟩ (ps.zip (us++ds))
theorem Binds.all {K:PySem.W.Frag} {fd:FuncData} {ps:List Str} (h:∀ us:List Value,us.length=ps.length->bindArgs fd ⟨us,[]⟩=pure (ps.zip us)):Binds K fd ps []:=λs us _ hl=>by
 rw [List.append_nil] at hl ⊢
 exact .of_eq (h us hl)
def Fq (CX:C7) (X:Cx) (E:XK):Prop:=∀ (pins:List (Addr×Obj)) (σ:St) (H:Hp) (s:Shared) (e:Value) (s':Shared),Inv X pins σ H s->CX X.stack H s E e s'->X.xe e s'
section
variable {X:Cx} {CX:C7} {k:Nat} {f C:Addr} {fd:FuncData} {ps:List Str} {sp:Sp} {dvs:List V} {ds:List Value} {E:XK} {x m:Str} {p pos apos:Pos} {e o:Expr} {es:List Expr} {ta:TE} {t:TA}
theorem Ig {pins:List (Addr×Obj)} {σ:St} {H:Hp} {s:Shared} {Q:VK} {us:List Value} {vs:List V} (F:AF X.prog X.w X.K X.mg X.base CX k f fd ps sp) (hr:AR k X.A) (hb:Binds X.K fd ps ds) (hd:AC dvs ds) (hx:Fq CX X E)
  (I:Inv X pins σ H s) (r:AC vs us) (h:sp (vs++dvs) H Q E):wpAny (model X.prog X.w) X.A (call (.ref f) us) (EP X pins σ Q) X.xe s:=by
 have r2:AC (vs++dvs) (us++ds):=r.append hd
 have hl:(us++ds).length=ps.length:=by rw [<- r2.length]; exact F.len _ _ _ _ h
 refine wpAny_call (codeAny_mono (F.run X.A X.stack s H ⟨us,[]⟩ (us++ds) (vs++dvs) Q E hr I.env0 (hb s us I.kIn hl) r2 h) λr s' hq=>?_)
 cases r with
 | error e=>exact hx pins σ H s e s' I hq
 | ok fl=>
  cases fl with
  | ret u=>exact I.after hq
  | next=>exact False.elim hq
  | brk=>exact False.elim hq
  | cont=>exact False.elim hq
theorem Vc (F:AF X.prog X.w X.K X.mg X.base CX k f fd ps sp) (hr:AR k X.A) (hg:Gl X x) (hm:X.mg x=some (.ref f)) (hk:PySem.W.keepIn X.K (.ref f)=true) (hb:Binds X.K fd ps ds) (hd:AC dvs ds) (hx:Fq CX X E)
  (ha:PA X (e::es) t) (hdb:(x==("__debug__" : Str))=false:=by decide) (he:starEach (e::es) X.env=(false,eval e X.env)::starEach es X.env:=by rfl) (hpl:(backTo pos (starEach es X.env)).any (·.1)=false:=by rfl) :
  PE X (.Call (.Name x p) (e::es) [] pos) (So sp dvs E t):=by
 intro pins s σ H Q I h
 refine wpAny_Call_Name_kw (ID I hg hm ?_ hdb)
 refine PySem.W.callWith_K (h₀:=X.base) I.ok.mod.kin hk (Ar (ha pos pins s σ H _ I h) λus s1 ⟨vs,H1,I1,r,q⟩=>⟨I1.kIn,?_⟩) he hpl
 exact Ig F hr hb hd hx I1 r q
theorem U9 {pl:Sem Bool} (he:PE X o ta) (c:A7 X.K C) (hm:Jg X.K C m f) (F:AF X.prog X.w X.K X.mg X.base CX k f fd ps sp) (hr:AR k X.A) (hb:Binds X.K fd ps ds) (hd:AC dvs ds) (hx:Fq CX X E) (ha:PA X (e::es) t)
  (hst:starEach (e::es) X.env=(false,eval e X.env)::starEach es X.env:=by rfl) (hpl:(backTo pos (starEach es X.env)).any (·.1)=false:=by rfl)
  (ht:eval (.Call (.Attribute o m apos) (e::es) [] pos) X.env=(do
   let ov <- eval o X.env
   standAt apos.atName
   let (f,first) <- holding [ov] (getMethod ov m pl)
   callWith pos f first (backTo pos (starEach (e::es) X.env)) (backToKw pos (keywordEach [] X.env))):=by rfl) :
  PE X (.Call (.Attribute o m apos) (e::es) [] pos) (Nf C m sp dvs E ta t):=by
 intro pins s σ H Q I h
 refine PySem.W.methodCall_KW (pl:=pl) (Ar (he pins s σ H _ I h) λu s1 ⟨x,H1,I1,rx,a,dx,fs,ex,ea,l,q⟩=>?_) ht
 subst ex
 obtain rfl:u=Value.ref a:=rx
 refine P2 I1 ea c hm l ?_
 refine PySem.W.callWith_K (first:=[.ref a]) (h₀:=X.base) I.ok.mod.kin hm.kp (Ar (ha pos pins s1 σ H1 _ I1 q) λus s2 ⟨vs,H2,I2,r,q2⟩=>⟨I2.kIn,?_⟩) hst hpl
 exact Ig (us:=.ref a::us) (vs:=.ref a::vs) F hr hb hd hx I2 (.cons rfl r) q2
theorem U8 {pl:Sem Bool} (he:PE X o ta) (c:A7 X.K C) (hm:Jg X.K C m f) (F:AF X.prog X.w X.K X.mg X.base CX k f fd ps sp) (hr:AR k X.A) (hb:Binds X.K fd ps ds) (hd:AC dvs ds) (hx:Fq CX X E)
  (ht:eval (.Call (.Attribute o m apos) [] [] pos) X.env=(do
   let ov <- eval o X.env
   standAt apos.atName
   let (f,first) <- holding [ov] (getMethod ov m pl)
   callWith pos f first (backTo pos (starEach [] X.env)) (backToKw pos (keywordEach [] X.env))):=by rfl) :
  PE X (.Call (.Attribute o m apos) [] [] pos) (Nf C m sp dvs E ta Nd):=by
 intro pins s σ H Q I h
 refine PySem.W.methodCall_KW (pl:=pl) (Ar (he pins s σ H _ I h) λu s1 ⟨x,H1,I1,rx,a,dx,fs,ex,ea,l,q⟩=>?_) ht
 subst ex
 obtain rfl:u=Value.ref a:=rx
 refine P2 I1 ea c hm l ?_
 exact PySem.W.callWith_K0 (first:=[.ref a]) I1.kIn hm.kp (Ig (us:=[.ref a]) (vs:=[.ref a]) F hr hb hd hx I1 (.cons rfl .nil) q)
structure Mk (K:PySem.W.Frag) (C f:Addr):Prop where
 makes:PySem.W.makesIn K C=true
 init:PySem.W.findIn K (.ref C) "__init__" = some (some (.ref f))
 fn:PySem.W.isFn K (.ref f)=true
 kp:PySem.W.keepIn K (.ref C)=true
theorem T7 {pins:List (Addr×Obj)} {σ:St} {H:Hp} {s:Shared} {Q:VK} {us:List Value} {vs:List V} (M:Mk X.K C f) (F:AF X.prog X.w X.K X.mg X.base CX k f fd ps sp) (hr:AR (k+1) X.A) (hb:Binds X.K fd ps ds) (hd:AC dvs ds)
  (hx:Fq CX X E) (I:Inv X pins σ H s) (r:AC vs us)
  (h:∀ x dx,H x=none->H dx=none->dx≠x->sp (.ref x::(vs++dvs)) (AN (AN H dx (.own x)) x (.ins C dx [])) (λv H2=>v=.non/\Q (.ref x) H2) E) :
  wpAny (model X.prog X.w) X.A (call (.ref C) us) (EP X pins σ Q) X.xe s:=by
 have hq:=h (s.heap.objs.size+1) s.heap.objs.size (I.hok.fresh (Nat.le_succ _)) (I.hok.fresh (Nat.le_refl _)) (Nat.ne_of_lt (Nat.lt_succ_self _))
 have I2:=Inv.made (C:=C) I
 have r2:AC (V.ref (s.heap.objs.size+1)::(vs++dvs)) (Value.ref (s.heap.objs.size+1)::(us++ds)):=.cons rfl (r.append hd)
 have hl:(Value.ref (s.heap.objs.size+1)::us++ds).length=ps.length:=by
  have e:=r2.length
  rw [F.len _ _ _ _ hq] at e
  exact e.symm
 refine wpAny_call (Xg (f:=f) I.kIn M.makes M.init (beq_iff_eq.mp M.fn) (codeAny_mono (F.run _ X.stack _ _ ⟨Value.ref (s.heap.objs.size+1)::us,[]⟩ (Value.ref (s.heap.objs.size+1)::(us++ds)) _ _ E (hr.make C us [])
  (I2.env0.make C us []) (hb _ (Value.ref (s.heap.objs.size+1)::us) I2.kIn hl) r2 hq) λr s' hq'=>?_))
 cases r with
 | error e=>exact hx pins σ _ _ e s' I2 hq'
 | ok fl=>
  cases fl with
  | ret u=>
   obtain ⟨v,H',I3,rv,ev,q3⟩:=I2.after hq'
   subst ev
   exact ⟨rv,⟨V.ref (s.heap.objs.size+1),H',I3,rfl,q3⟩⟩
  | next=>exact False.elim hq'
  | brk=>exact False.elim hq'
  | cont=>exact False.elim hq'
theorem OT (M:Mk X.K C f) (F:AF X.prog X.w X.K X.mg X.base CX k f fd ps sp) (hr:AR (k+1) X.A) (hg:Gl X x) (hm:X.mg x=some (.ref C)) (hb:Binds X.K fd ps ds) (hd:AC dvs ds) (hx:Fq CX X E)
  (ha:PA X (e::es) t) (hdb:(x==("__debug__" : Str))=false:=by decide) (he:starEach (e::es) X.env=(false,eval e X.env)::starEach es X.env:=by rfl) (hpl:(backTo pos (starEach es X.env)).any (·.1)=false:=by rfl) :
  PE X (.Call (.Name x p) (e::es) [] pos) (Sf C sp dvs E t):=by
 intro pins s σ H Q I h
 refine wpAny_Call_Name_kw (ID I hg hm ?_ hdb)
 refine PySem.W.callWith_K (h₀:=X.base) I.ok.mod.kin M.kp (Ar (ha pos pins s σ H _ I h) λus s1 ⟨vs,H1,I1,r,q⟩=>⟨I1.kIn,?_⟩) he hpl
 exact T7 M F hr hb hd hx I1 r q
end
section
variable {X:Cx} {CX:C7} {k:Nat} {f C:Addr} {fd:FuncData} {ps ks:List Str} {sp:Sp} {E:XK} {x m:Str} {p pos apos kpos:Pos} {e o:Expr} {es:List Expr} {kws:List Keyword} {te ta:TE} {t tk:TA} {nm:Option Str}
variable {g:List Value->List Value->List Value} {gV:List V->List V->List V}
end
structure AB (N P:List Str) (sc:Scope):Prop where
 kind:sc.kind=.function
 co:sc.isCoroutine=false
 gen:sc.isGenerator=false
 nd:N.Nodup
 pre:N.take P.length=P
 par:∀ x∈P,sc.names.lookup x=some .local\/sc.names.lookup x=some .cell
 nofree:∀ y∈sc.names,y.2≠.free
theorem QM {kindOf:Str->Option NameKind} {x:Str}:∀ {binds:List (Str×Value)} {m:Str->Option Value},(∀ v,(x,v)∉binds)->bindL kindOf binds m x=m x
 | [],_,_=>rfl
 | (n,v)::r,m,h=>by
  unfold bindL
  rw [QM λw hw=>h w (List.mem_cons_of_mem _ hw)]
  split
  ·have:x≠n:=by rintro rfl; exact h v List.mem_cons_self
   simp [this]
  ·rfl
theorem QO {kindOf:Str->Option NameKind} {x:Str}:∀ {binds:List (Str×Value)} {m:Str->Option Value},(∀ v,(x,v)∉binds)->bindC kindOf binds m x=m x
 | [],_,_=>rfl
 | (n,v)::r,m,h=>by
  unfold bindC
  rw [QO λw hw=>h w (List.mem_cons_of_mem _ hw)]
  split
  ·rfl
  ·have:x≠n:=by rintro rfl; exact h v List.mem_cons_self
   simp [this]
theorem QN {kindOf:Str->Option NameKind} {x:Str} {v:Value}:∀ {P:List Str} {vs:List Value} {i:Nat} {m:Str->Option Value},P.Nodup->P[i]?=some x->vs[i]?=some v->kindOf x=some .local->
  bindL kindOf (P.zip vs) m x=some v
 | [],_,_,_,_,h,_,_=>by simp at h
 | _::_,[],_,_,_,_,h,_=>by simp at h
 | p::P,w::vs,0,m,nd,h1,h2,hk=>by
  simp at h1 h2; subst h1; subst h2
  show bindL kindOf ((p,w)::P.zip vs) m p=_
  unfold bindL
  rw [QM λv hv=>(List.nodup_cons.mp nd).1 (List.of_mem_zip hv).1,if_pos hk]
  simp
 | p::P,w::vs,i+1,m,nd,h1,h2,hk=>by
  show bindL kindOf ((p,w)::P.zip vs) m x=_
  unfold bindL
  exact QN (i:=i) (List.nodup_cons.mp nd).2 (by simpa using h1) (by simpa using h2) hk
theorem QP {kindOf:Str->Option NameKind} {x:Str} {v:Value}:∀ {P:List Str} {vs:List Value} {i:Nat} {m:Str->Option Value},P.Nodup->P[i]?=some x->vs[i]?=some v->kindOf x≠some .local->
  bindC kindOf (P.zip vs) m x=some v
 | [],_,_,_,_,h,_,_=>by simp at h
 | _::_,[],_,_,_,_,h,_=>by simp at h
 | p::P,w::vs,0,m,nd,h1,h2,hk=>by
  simp at h1 h2; subst h1; subst h2
  show bindC kindOf ((p,w)::P.zip vs) m p=_
  unfold bindC
  rw [QO λv hv=>(List.nodup_cons.mp nd).1 (List.of_mem_zip hv).1,if_neg hk]
  simp
 | p::P,w::vs,i+1,m,nd,h1,h2,hk=>by
  show bindC kindOf ((p,w)::P.zip vs) m x=_
  unfold bindC
  exact QP (i:=i) (List.nodup_cons.mp nd).2 (by simpa using h1) (by simpa using h2) hk
def start (N:List Str) (vs:List V):St:=vs.map some++List.replicate (N.length-vs.length) none
def El (CX:C7) (P:Program) (w:World) (K:PySem.W.Frag) (mg:Str->Option Value) (base:Heap) (N:List Str) (qual:Str) (scope:Scope) (f:Addr) (cd:Value) (A:Around) (outer:List Env) (s:Shared) (H:Hp) (E:XK):Cx where
 prog:=P
 w:=w
 K:=K
 mg:=mg
 base:=base
 A:=A.deeper (envOfC qual scope s.heap.objs.size f cd)
 N:=N
 s₀:=s
 H₀:=H
 env:=envOfC qual scope s.heap.objs.size f cd
 outer:=outer
 stack:=envOfC qual scope s.heap.objs.size f cd::outer
 ex:=[]
 calm:=true
 fn:=λ_=>true
 pn:=[]
 xe:=λe s'=>wpAny (model P w) (A.deeper (envOfC qual scope s.heap.objs.size f cd)) (leaving (envOfC qual scope s.heap.objs.size f cd) e) (λ_ s''=>CX outer H s E e s'') (λe' s''=>CX outer H s E e' s'') s'
theorem QG {sc:Scope} {n:Nat} {x:Str} (h:sc.names.lookup x=some .cell):∃ c,(cellsFrom n sc.names []).lookup x=some c:=by
 have q:=PySem.W.cellsFrom_some sc.names n [] (.inl h)
 exact Option.isSome_iff_exists.mp q
theorem XT {CX:C7} {P:Program} {w:World} {K:PySem.W.Frag} {mg:Str->Option Value} {base:Heap} {N ps:List Str} {qual:Str} {scope:Scope} {f:Addr} {cd:Value} {A:Around} {outer:List Env} {s s1:Shared} {H:Hp} {E:XK} {us:List Value} {vs:List V}
  (S:AB N ps scope) (hd:A.handled=none) (e0:Ft P w K mg base A outer s H) (hl:vs.length=ps.length) (r:AC vs us)
  (x:InCallC s s.heap.objs.size (bindL (envOfC qual scope s.heap.objs.size f cd).kindOf (ps.zip us) λ_=>none) (cellsFrom (s.heap.objs.size+1) scope.names []) (bindC (envOfC qual scope s.heap.objs.size f cd).kindOf (ps.zip us) λ_=>none) s1) :
  Inv (El CX P w K mg base N qual scope f cd A outer s H E) [] (start N vs) H s1:=by
 have hpl:ps.length<=N.length:=by have:=congrArg List.length S.pre; rw [List.length_take] at this; omega
 obtain ⟨h1,tk,rfl,hk⟩:=x.done
 have noA:∀ b:Addr,b∉(El CX P w K mg base N qual scope f cd A outer s H E).ex:=λb z=>absurd (show b∈([]:List Addr) from z) (by simp)
 refine ⟨⟨e0.mod,S.kind,rfl,rfl,Nat.le_refl _,λy z c h1 h2=>?_,λy hy=>?_,λy c _ h=>?_,λ_=>hd,Around.frames_deeper e0.frames,.inr ⟨rfl,rfl⟩,λb z=>absurd z (noA b),e0.bs,e0.bsz,λb _ _=>noA b,λb z=>absurd z (noA b),e0.funs,e0.frf⟩,
  rfl,e0.bare,Un.kept hk,⟨_,x.toInCall.ns,λi y v h1 h2 h3=>?_⟩,λy c h=>⟨_,x.cell y c h⟩,e0.hok.fresh (Nat.le_refl _),λy c h=>?_,λp hp=>absurd (show p∈([]:List (Addr×Obj)) from hp) (by simp),e0.hok.kept hk,?_⟩
 ·exact name_of_addr x.apart (PySem.mem_of_lookup h1) (PySem.mem_of_lookup h2)
 ·have hy:scope.names.lookup y=some .cell\/scope.names.lookup y=some .free:=hy
  rcases hy with hy | hy
  ·exact QG hy
  ·exact absurd rfl (S.nofree _ (PySem.mem_of_lookup hy))
 ·exact Nat.le_of_lt (x.above y c (PySem.mem_of_lookup h))
 ·have hi:i<vs.length:=by
   unfold start at h2
   by_cases hi:i<vs.length
   ·exact hi
   ·rw [List.getElem?_append_right (by simpa using hi)] at h2
    rw [List.getElem?_replicate] at h2
    split at h2 <;> cases h2
  have ha:vs[i]?=some v:=by
   unfold start at h2
   rw [List.getElem?_append_left (by simpa using hi),List.getElem?_map] at h2
   cases e:vs[i]? with
   | none=>rw [e] at h2; cases h2
   | some a=>rw [e] at h2; cases h2; rfl
  obtain ⟨u,hu,rv⟩:=r.get ha
  have hp:ps[i]?=some y:=by
   rw [<- S.pre,List.getElem?_take_of_lt wF]; exact h1
  have ndP:ps.Nodup:=by rw [<- S.pre]; exact S.nd.sublist (List.take_sublist _ _)
  refine ⟨u,rv,?_⟩
  rcases S.par y (List.mem_of_getElem? hp) with k | k
  ·exact .inl ⟨k,QN ndP hp hu k⟩
  ·obtain ⟨c,e⟩:=QG (n:=s.heap.objs.size+1) k
   refine .inr ⟨.inl k,c,e,?_⟩
   have q:=x.cell y c e
   rw [QP ndP hp hu (by show scope.names.lookup y≠_; rw [k]; decide)] at q
   exact q
 ·exact e0.hok.fresh (Nat.le_of_lt (x.above y c (PySem.mem_of_lookup h)))
 ·unfold start
  show _=N.length
  rw [List.length_append,List.length_map,List.length_replicate]
  omega
theorem Qa {CX:C7} {P:Program} {w:World} {K:PySem.W.Frag} {mg:Str->Option Value} {base:Heap} {k:Nat} {f:Addr} {name qual:Str} {params:Arguments} {body:List Stmt} {scope:Scope} {dV kV doc pm cdv ct oc:Value} {an od:Option Addr}
  {osl:Array (Option Value)} {N ps:List Str} {sp:Sp} (lk:K.lookup f=some ⟨oc,od,.func (PySem.W.fnOf name qual params body scope dV kV doc pm an cdv ct),osl⟩) (hcd:PySem.W.codeIn K cdv qual=true) (S:AB N ps scope)
  (len:∀ vs H Q E,sp vs H Q E->vs.length=ps.length)
  (hbody:∀ (A:Around) (outer:List Env) (s:Shared) (H:Hp) (vs:List V) (Q:VK) (E:XK),AR k (A.deeper (envOfC qual scope s.heap.objs.size f cdv))->sp vs H Q E->
   ∃ t,PSs (El CX P w K mg base N qual scope f cdv A outer s H E) body t/\t { nx:=λ_ H'=>Q .non H',rt:=Q } (start N vs) H) :
  AF P w K mg base CX (k+1) f (PySem.W.fnOf name qual params body scope dV kV doc pm an cdv ct) ps sp:=by
 refine ⟨len,λA outer s H args us vs Q E hr e0 hb r hsp=>?_⟩
 have hl:=len _ _ _ _ hsp
 have KX:K.In s.heap:=e0.mod.kin.keeps λb o e=>(e0.bs b o e).1
 have lim:s.heap.NoLimit:=e0.mod.nolimit.keeps λb o e=>(e0.bs b o e).1
 have hkind:∀ y∈ps.zip us,scope.names.lookup y.1=some .local\/(scope.names.lookup y.1=some .cell/\((cellsFrom (s.heap.objs.size+1) scope.names []).lookup y.1).isSome=true):=λ⟨n,v⟩ hy=>by
  rcases S.par n (List.of_mem_zip hy).1 with q | q
  ·exact .inl q
  ·exact .inr ⟨q,PySem.W.cellsFrom_some _ _ _ (.inl q)⟩
 refine codeAny_call_function hr.depth (KX _ _ lk) rfl S.co S.gen rfl (PySem.W.codeRec_of KX hcd) (hb _ _ _ _ ?_)
 refine wpAny_newFunctionEnv_cells S.kind hkind λenv he s1 x=>?_
 subst he
 refine ⟨lim.keeps x.toInCall.keep,codeAny_func ?_⟩
 obtain ⟨t,ht,hq⟩:=hbody A outer s H vs Q E (hr.deeper _) hsp
 have I:Inv (El CX P w K mg base N qual scope f cdv A outer s H E) [] (start N vs) H s1:=XT S hr.hd e0 hl r x
 refine wpAny_mono (ht [] s1 (start N vs) H _ I hq) (λfl s' hs=>?_) λe s' hs=>hs
 have fin:∀ {σ':St} {H':Hp} {v:V} {u:Value},Inv (El CX P w K mg base N qual scope f cdv A outer s H E) [] σ' H' s'->AV v u->Q v H'->CE outer P w H s Q u s':=
  λ{σ' H' v u} J rv q=>⟨v,H',J.os,J.bare,J.base,J.hok,rv,q⟩
 cases fl with
 | ret u=>
  obtain ⟨v,σ',H',J,rv,q⟩:=hs
  exact fin J rv q
 | next=>
  obtain ⟨σ',H',J,q⟩:=hs
  exact fin (v:=V.non) (u:=Value.none) J rfl q
 | brk=>
  obtain ⟨_,_,_,q⟩:=hs
  exact False.elim q
 | cont=>
  obtain ⟨_,_,_,q⟩:=hs
  exact False.elim q
end L2
namespace L2
open PySem PySem.Spec PyProof.Rows
section
variable {X:Cx} {x:Str} {p pos:Pos} {e:Expr} {es:List Expr} {t:TA} {id T:String} {r:List V->Hp->VK->Prop}
def tCB (r:List V->Hp->VK->Prop) (t:TA):TE:=λσ H Q=>t σ H λvs H1=>r vs H1 Q
theorem OY (hc:D4 X (.builtin id) r) (hg:Gl X x) (hm:X.mg x=none) (hv:bootBuiltins x=some (.builtin id)) (ha:PA X (e::es) t) (hn:x ≠ "__name__" := by decide) (hdb:(x==("__debug__" : Str))=false:=by decide)
  (he:starEach (e::es) X.env=(false,eval e X.env)::starEach es X.env:=by rfl) (hpl:(backTo pos (starEach es X.env)).any (·.1)=false:=by rfl):PE X (.Call (.Name x p) (e::es) [] pos) (tCB r t):=by
 intro pins s σ H Q I h
 refine wpAny_Call_Name_kw (EE I hg hm hv ?_ hn hdb)
 exact PyProof.Rows.callWith_builtin1 (Ar (ha pos pins s σ H _ I h) λus s1 ⟨vs,H1,I1,r1,q1⟩=>hc pins s1 σ H1 vs us Q I1 r1 q1) he hpl
theorem OX (hc:D4 X (.type T) r) (hg:Gl X x) (hm:X.mg x=none) (hv:bootBuiltins x=some (.type T)) (ha:PA X (e::es) t) (hn:x ≠ "__name__" := by decide) (hdb:(x==("__debug__" : Str))=false:=by decide)
  (he:starEach (e::es) X.env=(false,eval e X.env)::starEach es X.env:=by rfl) (hpl:(backTo pos (starEach es X.env)).any (·.1)=false:=by rfl):PE X (.Call (.Name x p) (e::es) [] pos) (tCB r t):=by
 intro pins s σ H Q I h
 refine wpAny_Call_Name_kw (EE I hg hm hv ?_ hn hdb)
 exact PyProof.Rows.callWith_type1 (Ar (ha pos pins s σ H _ I h) λus s1 ⟨vs,H1,I1,r1,q1⟩=>hc pins s1 σ H1 vs us Q I1 r1 q1) he hpl
end
end L2
namespace HT
open PySem PyProof.Rows
def Xl:List Int->List Int->Bool
 | [],[]=>false
 | [],_::_=>true
 | _::_,[]=>false
 | x::xs,y::ys=>if x=y then Xl xs ys else decide (x<y)
section
open PySem.SeqAt
open PySem.AutoSeq1 (wpAny_loadPart')
open PySem.MeetsSeq PySem.MeetsSeq2 PySem.MeetsSeq3
end
section
variable {prog:Program} {w:World} {A:Around} {E:Value->Shared->Prop} {s:Shared}
def sIx (n d:Nat):Option Int->Nat
 | none=>d
 | some v=>if v<0 then (v+(n:Int)).toNat else min v.toNat n
end
end HT
namespace L2
open PySem PySem.Spec PyProof.Rows
abbrev TO:=St->Hp->(Option Int->Hp->Prop)->Prop
def PO (X:Cx) (e:Option Expr) (t:TO):Prop:=
 ∀ (pins:List (Addr×Obj)) (s:Shared) (σ:St) (H:Hp) (Q:Option Int->Hp->Prop),Inv X pins σ H s->t σ H Q->
  wpAny (model X.prog X.w) X.A (evalPart e X.env) (λu s'=>∃ o H',Inv X pins σ H' s'/\IsPart u o/\Q o H') X.xe s
def Sd:TO:=λ_ H Q=>Q none H
def R9 (t:TE):TO:=λσ H Q=>t σ H λx H1=>∃ i,x=.int i/\Q (some i) H1
section
variable {X:Cx} {e:Expr} {te:TE} {lo hi:Option Expr} {tl th:TO} {pos p2:Pos}
theorem UR:PO X none Sd:=by
 intro pins s σ H Q I h
 rw [evalPart_none]
 exact wpAny_pure ⟨none,H,I,.none,h⟩
theorem UQ (h:PE X e te):PO X (some e) (R9 te):=by
 intro pins s σ H Q I hw
 rw [evalPart_some]
 refine Ar (h pins s σ H _ I hw) λu s1 ⟨x,H1,I1,r1,q1⟩=>?_
 obtain ⟨i,rfl,q⟩:=q1
 obtain ⟨t,rfl⟩:=r1
 exact ⟨some i,H1,I1,.int i t,q⟩
def SlR (X:Cx) (r:V->Option Int->Option Int->Hp->VK->Prop):Prop:=
 ∀ (pins:List (Addr×Obj)) (s:Shared) (σ:St) (H:Hp) (x:V) (v vl vu:Value) (lo hi:Option Int) (sl:Addr) (Q:VK),Inv X pins σ H s->AV x v->s.heap.IsSliceOf sl vl vu .none->IsPart vl lo->IsPart vu hi->r x lo hi H Q->
  ∃ T id,typeLookup (.type T) "__getitem__" = pure (some (.builtin id))/\s.TypeIs v T/\wpAny (model X.prog X.w) X.A (getItem v (.ref sl)) (EP X pins σ Q) X.xe s
def tSl (r:V->Option Int->Option Int->Hp->VK->Prop) (te:TE) (tl th:TO):TE:=λσ H Q=>te σ H λx H1=>tl σ H1 λl H2=>th σ H2 λu H3=>r x l u H3 Q
theorem U4 {r:V->Option Int->Option Int->Hp->VK->Prop} (hr:SlR X r) (he:PE X e te) (hl:PO X lo tl) (hu:PO X hi th):PE X (.Subscript e (.Slice lo hi none p2) pos) (tSl r te tl th):=by
 intro pins s σ H Q I h
 refine Subscript_ (Ar (he pins s σ H _ I h) λv s1 ⟨x,H1,I1,r1,q1⟩=>?_)
 refine wpAny_Slice (Ar (hl pins s1 σ H1 _ I1 q1) λvl s2 ⟨l,H2,I2,pl,q2⟩=>Ar (hu pins s2 σ H2 _ I2 q2) λvu s3 ⟨u,H3,I3,pu,q3⟩=>?_)
 rw [evalPart_none]
 refine wpAny_pure ?_
 have I4:Inv X pins σ H3 { s3 with heap:=s3.heap.push { cls:=.type "slice",data:=.fields #[vl,vu,.none] } }:=I3.kept (t':=s3.toks) λb ob q=>Heap.get?_push_of_some _ q
 obtain ⟨T,id,hT,ht,hg⟩:=hr pins { s3 with heap:=s3.heap.push { cls:=.type "slice",data:=.fields #[vl,vu,.none] } } σ H3 x v vl vu l u s3.heap.objs.size Q I4 r1 (Heap.IsSliceOf.new ..) pl pu q3
 show wpAny (model X.prog X.w) X.A (subscriptTail e (.Slice lo hi none p2) v (.ref s3.heap.objs.size)) (EP X pins σ Q) X.xe { s3 with heap:=s3.heap.push { cls:=.type "slice",data:=.fields #[vl,vu,.none] } }
 exact tail_any (ops:=[.ref s3.heap.objs.size,v]) ht hT hg (by with_unfolding_all rfl)
def Fi (xs:List V) (lo hi:Option Int):List V:=(xs.drop (HT.sIx xs.length 0 lo)).take (HT.sIx xs.length xs.length hi-HT.sIx xs.length 0 lo)
theorem Zf (xs:List V) (lo hi:Option Int):(Fi xs lo hi).length<=xs.length:=by
 unfold Fi
 rw [List.length_take,List.length_drop]
 omega
end
end L2
namespace L2
open PySem PySem.Spec PyProof.Rows
def DS (n:Nat) (i:Int):Option Nat:=if 0<=i then (if i<n then some i.toNat else none) else if -(n:Int)<=i then some (i+n).toNat else none
def BO {α:Type} (xs:List α) (i:Int):Option α:=(DS xs.length i).bind λj=>xs[j]?
theorem PK {n:Nat} {i:Int} {j:Nat} (h:DS n i=some j):seqIndex? i n=some j/\j<n/\-(n:Int)<=i/\i<n:=by
 unfold DS at h
 by_cases h0:0<=i
 ·rw [if_pos h0] at h
  by_cases h1:i<n
  ·rw [if_pos h1] at h
   have e:i.toNat=j:=Option.some.inj h
   exact ⟨by rw [seqIndex_of h0 h1,e],by omega,by omega,h1⟩
  ·rw [if_neg h1] at h; cases h
 ·rw [if_neg h0] at h
  by_cases h1:-(n:Int)<=i
  ·rw [if_pos h1] at h
   have e:(i+n).toNat=j:=Option.some.inj h
   exact ⟨by rw [seqIndex_neg wF h1,e],by omega,h1,by omega⟩
  ·rw [if_neg h1] at h; cases h
theorem QX {α:Type} {xs:List α} {i:Int} {v:α} (h:BO xs i=some v):∃ j,seqIndex? i xs.length=some j/\xs[j]?=some v/\j<xs.length/\-(xs.length:Int)<=i/\i<xs.length:=by
 unfold BO at h
 cases e:DS xs.length i with
 | none=>rw [e] at h; cases h
 | some j=>
  rw [e] at h
  obtain ⟨h1,h2,h3,h4⟩:=PK e
  exact ⟨j,h1,h,h2,h3,h4⟩
theorem Fl {α:Type} {xs:List α} {j:Nat} {v:α} (h:xs[j]?=some v):BO xs (j:Int)=some v:=by
 have hj:j<xs.length:=(List.getElem?_eq_some_iff.mp h).1
 have e:DS xs.length (j:Int)=some j:=by
  unfold DS
  rw [if_pos wF,if_pos wF]; simp
 unfold BO; rw [e]; exact h
def Q6 (b:Expr):Prop:=∀ o i,subscripted b false o i=operate [o,i] (getItem o i)
def IxR (X:Cx) (r:R2):Prop:=
 ∀ (value slice:Expr) (pins:List (Addr×Obj)) (s:Shared) (σ:St) (H:Hp) (x y:V) (v u:Value) (Q:VK),Inv X pins σ H s->AV x v->AV y u->r x y H Q->
  subscripted slice false v u=operate [v,u] (getItem v u)->wpAny (model X.prog X.w) X.A (subscriptTail value slice v u) (EP X pins σ Q) X.xe s
def MtR (X:Cx) (id:String) (r:V->List V->Hp->VK->Prop):Prop:=
 ∀ (pins:List (Addr×Obj)) (s:Shared) (σ:St) (H:Hp) (x:V) (xs:List V) (v:Value) (us:List Value) (Q:VK),Inv X pins σ H s->AV x v->AC xs us->r x xs H Q->
  wpAny (model X.prog X.w) X.A (call (.builtin id) (v::us)) (EP X pins σ Q) X.xe s
section
variable {X:Cx} {a b:Expr} {ta tb:TE} {pos:Pos}
def Uh (K:PySem.W.Frag):R2:=λx y H Q=>∃ p xs i v,x=.ref p/\y=.int i/\Ba K H p xs/\BO xs i=some v/\Q v H
def Ug (K:PySem.W.Frag):R2:=λx y H Q=>∃ p xs i v,x=.ref p/\y=.int i/\Bu K H p xs/\BO xs i=some v/\Q v H
theorem XH:IxR X (Uh X.K):=by
 intro value slice pins s σ H x y v u Q I rx ry h hs
 obtain ⟨p,xs,i,z,rfl,rfl,hq,he,q⟩:=h
 cases rx
 obtain ⟨t,rfl⟩:=ry
 obtain ⟨its,r,pl,hz⟩:=I.list hq
 obtain ⟨j,h1,h2,h3,h4,h5⟩:=QX he
 obtain ⟨w,ew,rw'⟩:=r.get h2
 have hl:=r.length
 have hn:=GS
 have fin:EP X pins σ Q w s:=⟨z,H,I,rw',q⟩
 by_cases h0:0<=i
 ·have hj:i.toNat=j:=by
   rw [seqIndex_of h0 h5] at h1
   exact Option.some.inj h1
  exact item_listR pl.isList h0 wF (by rw [hj]; simpa using ew) fin hs
 ·have hj:(i+(its.toArray.size:Int)).toNat=j:=by
   rw [seqIndex_neg wF h4] at h1
   rw [List.size_toArray,<- hl]
   exact Option.some.inj h1
  exact subscriptTail_builtinR (x:=w) pl.isList.typeIs slot_list_getitem.lookup
   (wpAny_getItem_list_neg (Q:=λr s'=>r=w/\EP X pins σ Q r s') pl.isList wF (by rw [List.size_toArray] <;> omega) wF (by rw [hj]; simpa using ew) ⟨rfl,fin⟩) hs
theorem XG:IxR X (Ug X.K):=by
 intro value slice pins s σ H x y v u Q I rx ry h hs
 obtain ⟨p,xs,i,z,rfl,rfl,hq,he,q⟩:=h
 cases rx
 obtain ⟨t,rfl⟩:=ry
 obtain ⟨its,r,pl,hz⟩:=I.tuple hq
 obtain ⟨j,h1,h2,h3,h4,h5⟩:=QX he
 obtain ⟨w,ew,rw'⟩:=r.get h2
 have hl:=r.length
 have hn:=GS
 have fin:EP X pins σ Q w s:=⟨z,H,I,rw',q⟩
 exact subscriptTail_builtinR (x:=w) pl.typeIs slot_tuple_getitem.lookup
  (getItem_tuple (j:=j) (Q:=λr s'=>r=w/\EP X pins σ Q r s') pl wF wF (by rw [List.size_toArray,<- hl]; exact h1) (by simpa using ew) ⟨rfl,fin⟩) hs
theorem Xe (its:List Value) (n j:Nat) (u:Value):Obj.mapSeq (·.setIfInBounds j u) { cls:=.type "list",data:=.seq its.toArray n }={ cls:=.type "list",data:=.seq (its.set j u).toArray n }:=by
 simp [Obj.mapSeq]
theorem Inv.lst {pins:List (Addr×Obj)} {σ:St} {H:Hp} {s:Shared} {p:Addr} {xs:List V} (I:Inv X pins σ H s) (h:H p=some (.lst xs)) :
  ∃ (its:List Value) (n:Nat),AC xs its/\s.heap.get? p=some { cls:=.type "list",data:=.seq its.toArray n }/\xs.length<=sizeLine:=by
 obtain ⟨z,its,n,r,e⟩:=I.hok p _ h
 exact ⟨its,n,r,e,z⟩
theorem Inv.lstUpd {pins:List (Addr×Obj)} {σ:St} {H:Hp} {s:Shared} {p:Addr} {xs ys:List V} {its its':List Value} {n n':Nat} {f:Obj->Obj} (I:Inv X pins σ H s) (h:H p=some (.lst xs))
  (ho:s.heap.get? p=some { cls:=.type "list",data:=.seq its.toArray n }) (hf:f { cls:=.type "list",data:=.seq its.toArray n }={ cls:=.type "list",data:=.seq its'.toArray n' }) (r:AC ys its') (hz:ys.length<=sizeLine) (t:Nat) :
  Inv X pins σ (AN H p (.lst ys)) { s with heap:=s.heap.update p f,toks:=t }:=by
 have e:(s.heap.update p f).get? p=some { cls:=.type "list",data:=.seq its'.toArray n' }:=by
  rw [Heap.get?_update_self f ho (by rw [hf] <;> rfl),hf]
 refine I.write (x:=p) (e:=p) (by rw [h]; trivial) (.inl rfl) (λb u hb q=>(Heap.get?_update_other _ _ (Ne.symm hb)).trans q) ⟨_,e⟩ ?_
 exact ⟨hz,its',n',r,e⟩
def Ue:V->V->V->Hp->(Hp->Prop)->Prop:=λo i v H Q=>∃ p xs k j,o=.ref p/\i=.int k/\H p=some (.lst xs)/\DS xs.length k=some j/\Q (AN H p (.lst (xs.set j v)))
theorem SV:Q7 X Ue:=by
 intro pins s σ H o i v ov iv u Q I ro ri rv h
 obtain ⟨p,xs,k,j,rfl,rfl,hp,hj,q⟩:=h
 cases ro
 obtain ⟨t,rfl⟩:=ri
 obtain ⟨its,n,r,ho,hz⟩:=I.lst hp
 obtain ⟨h1,h2,h3,h4⟩:=PK hj
 have hl:=r.length
 have hn:=GS
 have I':Inv X pins σ (AN H p (.lst (xs.set j v))) { s with heap:=s.heap.update p (Obj.mapSeq (·.setIfInBounds j u)) }:=
  I.lstUpd hp ho (Xe its n j u) (r.set rv j) (by rw [List.length_set]; exact hz) s.toks
 by_cases h0:0<=k
 ·have hk:k.toNat=j:=by
   rw [seqIndex_of h0 h4] at h1
   exact Option.some.inj h1
  exact PySem.W.ki_setAt ho h0 wF (by rw [List.size_toArray,<- hl]; exact h4) (by rw [hk]; exact ⟨_,I',q⟩)
 ·have hk:(k+(its.toArray.size:Int)).toNat=j:=by
   rw [seqIndex_neg wF h3] at h1
   rw [List.size_toArray,<- hl]
   exact Option.some.inj h1
  exact PySem.W.ki_setBack ho wF (by rw [List.size_toArray,<- hl]; exact h3) wF (by rw [hk]; exact ⟨_,I',q⟩)
theorem SQ (lo hi:Option Int) (n:Nat):(sliceBounds lo hi none n).1=((HT.sIx n 0 lo:Nat):Int)/\(sliceBounds lo hi none n).2.1=((HT.sIx n n hi:Nat):Int)/\(sliceBounds lo hi none n).2.2=1:=by
 refine ⟨?_,?_,rfl⟩
 ·cases lo with
  | none=>simp [sliceBounds,HT.sIx]
  | some i=>
   simp only [sliceBounds,HT.sIx,Option.getD_none,show (1:Int)>0 by decide,if_true]
   by_cases h:i<0
   ·simp only [h,if_true] <;> omega
   ·simp only [h,if_false] <;> omega
 ·cases hi with
  | none=>simp [sliceBounds,HT.sIx]
  | some i=>
   simp only [sliceBounds,HT.sIx,Option.getD_none,show (1:Int)>0 by decide,if_true]
   by_cases h:i<0
   ·simp only [h,if_true] <;> omega
   ·simp only [h,if_false] <;> omega
theorem SR (its:List Value) (lo hi:Option Int):slicePick its.toArray lo hi none=((its.drop (HT.sIx its.length 0 lo)).take (HT.sIx its.length its.length hi-HT.sIx its.length 0 lo)).toArray:=by
 obtain ⟨h1,h2,h3⟩:=SQ lo hi its.toArray.size
 unfold slicePick
 rw [h1,h2,h3]
 simp only [sliceRange_one,pick_run,List.size_toArray] <;> rfl
def Ud (K:PySem.W.Frag):V->Option Int->Option Int->Hp->VK->Prop:=λx lo hi H Q=>∃ a xs,x=.ref a/\Ba K H a xs/\∀ p,H p=none->Q (.ref p) (AN H p (.lst (Fi xs lo hi)))
theorem SS:SlR X (Ud X.K):=by
 intro pins s σ H x v vl vu lo hi sl Q I rx hs pl pu h
 obtain ⟨a,xs,rfl,hx,q⟩:=h
 cases rx
 obtain ⟨its,r,ht,hz⟩:=I.list hx
 have hlen:=r.length
 refine ⟨"list",_,slot_list_getitem.lookup,ht.isList.typeIs,?_⟩
 refine wpAny_getItem_list_slice ht.isList hs pl pu .none (by simp) ?_ (by rw [List.size_toArray] <;> omega)
 rw [SR,<- hlen]
 refine ⟨.ref s.heap.objs.size,_,I.laid (t':=s.toks) (o:=.lst (Fi xs lo hi)) (λb ob q=>Heap.get?_push_of_some _ q) (Nat.le_refl _) ?_,rfl,q _ (I.hok.fresh (Nat.le_refl _))⟩
 exact ⟨Nat.le_trans (Zf xs lo hi) hz,_,0,(r.drop (HT.sIx xs.length 0 lo)).take (HT.sIx xs.length xs.length hi-HT.sIx xs.length 0 lo),Heap.get?_push_size _ rfl⟩
def Eh:V->Bool
 | .non=>true
 | .bl _=>true
 | .int _=>true
 | .str _=>true
 | _=>false
def DV:V->V->Bool
 | .non,.non=>true
 | .bl a,.bl b=>a==b
 | .bl a,.int b=>(if a then 1 else 0)==b
 | .int a,.bl b=>a==(if b then 1 else 0)
 | .int a,.int b=>a==b
 | .str a,.str b=>a==b
 | _,_=>false
theorem YW {A:Around} {s:Shared} {y x:V} {u v:Value} (ry:AV y u) (rx:AV x v) (fy:Eh y=true) (fx:Eh x=true):SeqAt.EqAt A s u v (DV y x):=by
 cases y with
 | non=>
  cases ry
  cases x with
  | non=>cases rx; exact SeqAt.EqAt.same _
  | bl b=>cases rx; exact SeqAt.EqAt.none_bool b
  | int b=>obtain ⟨t,rfl⟩:=rx; exact SeqAt.EqAt.none_int b t
  | str b=>obtain ⟨t,rfl⟩:=rx; exact SeqAt.EqAt.none_str b t
  | _=>exact absurd (show false=true from fx) Bool.false_ne_true
 | bl a=>
  cases ry
  cases x with
  | non=>cases rx; exact SeqAt.EqAt.bool_none a
  | bl b=>cases rx; exact SeqAt.EqAt.bool_bool a b
  | int b=>obtain ⟨t,rfl⟩:=rx; exact SeqAt.EqAt.bool_int a b t
  | str b=>obtain ⟨t,rfl⟩:=rx; exact SeqAt.EqAt.bool_str a b t
  | _=>exact absurd (show false=true from fx) Bool.false_ne_true
 | int a=>
  obtain ⟨t',rfl⟩:=ry
  cases x with
  | non=>cases rx; exact SeqAt.EqAt.int_none a t'
  | bl b=>cases rx; exact SeqAt.EqAt.int_bool a t' b
  | int b=>obtain ⟨t,rfl⟩:=rx; exact SeqAt.EqAt.int_int a t' b t
  | str b=>obtain ⟨t,rfl⟩:=rx; exact SeqAt.EqAt.int_str a t' b t
  | _=>exact absurd (show false=true from fx) Bool.false_ne_true
 | str a=>
  obtain ⟨t',rfl⟩:=ry
  cases x with
  | non=>cases rx; exact SeqAt.EqAt.str_none a t'
  | bl b=>cases rx; exact SeqAt.EqAt.str_bool a t' b
  | int b=>obtain ⟨t,rfl⟩:=rx; exact SeqAt.EqAt.str_int a t' b t
  | str b=>obtain ⟨t,rfl⟩:=rx; exact SeqAt.EqAt.str_str a t' b t
  | _=>exact absurd (show false=true from fx) Bool.false_ne_true
 | _=>exact absurd (show false=true from fy) Bool.false_ne_true
def Ej (x:V) (u:Value):Bool:=match u with
 | .none=>DV .non x
 | .bool b=>DV (.bl b) x
 | .int i _=>DV (.int i) x
 | .str z _=>DV (.str z) x
 | _=>false
theorem Ql {x y:V} {u:Value} (r:AV y u) (f:Eh y=true):Ej x u=DV y x:=by
 cases y with
 | non=>cases r; rfl
 | bl b=>cases r; rfl
 | int i=>obtain ⟨t,rfl⟩:=r; rfl
 | str z=>obtain ⟨t,rfl⟩:=r; rfl
 | _=>exact absurd (show false=true from f) Bool.false_ne_true
theorem Mq {x:V}:∀ {xs:List V} {us:List Value},AC xs us->xs.all Eh=true->us.any (Ej x)=xs.any λy=>DV y x
 | _,_,.nil,_=>rfl
 | y::xs,u::us,.cons r t,f=>by
  rw [List.all_cons,Bool.and_eq_true] at f
  rw [List.any_cons,List.any_cons,Ql r f.1,Mq t f.2]
theorem LE {A:Around} {s:Shared} {x:V} {v:Value} (rx:AV x v) (fx:Eh x=true):∀ {xs:List V} {us:List Value},AC xs us->xs.all Eh=true->∀ u∈us,SeqAt.EqAt A s u v (Ej x u)
 | _,_,.nil,_=>λu hu=>by cases hu
 | y::xs,u::us,.cons r t,f=>λu' hu=>by
  rw [List.all_cons,Bool.and_eq_true] at f
  rcases List.mem_cons.mp hu with rfl | hu
  ·rw [Ql r f.1]; exact YW r rx f.1 fx
  ·exact LE rx fx t f.2 u' hu
def IG (x:V) (xs:List V):Bool:=xs.any λy=>DV y x
def rIn (K:PySem.W.Frag) (neg:Bool):R2:=λx y H Q=>∃ p xs,y=.ref p/\(Ba K H p xs\/Bu K H p xs)/\Eh x=true/\xs.all Eh=true/\Q (.bl (if neg then !IG x xs else IG x xs)) H
theorem Vn:B2 X (compareOp .In) (rIn X.K false):=by
 intro pins s σ H x y v u Q I rx ry h
 obtain ⟨p,xs,rfl,hq,fx,fs,q⟩:=h
 cases ry
 rcases hq with hq | hq
 ·obtain ⟨its,r,pl,hz⟩:=I.list hq
  refine SeqAt.in_listAt (Ej x) pl.isList (λw hw=>LE rx fx r fs w (by simpa using hw)) ⟨.bl _,H,I,rfl,?_⟩
  rw [show its.toArray.any (Ej x)=its.any (Ej x) by simp,Mq r fs]
  exact q
 ·obtain ⟨its,r,pl,hz⟩:=I.tuple hq
  refine SeqAt.in_tupleAt (Ej x) pl (λw hw=>LE rx fx r fs w (by simpa using hw)) ⟨.bl _,H,I,rfl,?_⟩
  rw [show its.toArray.any (Ej x)=its.any (Ej x) by simp,Mq r fs]
  exact q
theorem ZG:D4 X (.builtin "len") (λxs H Q=>∃ p ys,xs=[.ref p]/\(Ba X.K H p ys\/Bu X.K H p ys)/\Q (.int ys.length) H):=by
 intro pins s σ H xs us Q I r h
 obtain ⟨p,ys,rfl,hq,q⟩:=h
 obtain ⟨u,rfl,rx⟩:=Dx r
 cases rx
 have hn:=GS
 rcases hq with hq | hq
 ·obtain ⟨its,r',pl,hz⟩:=I.list hq
  have hlen:=r'.length
  exact Calls.call_len_list pl.isList (by simp only [List.size_toArray] <;> omega) ⟨.int ys.length,H,I.tok _,⟨s.toks+1,by rw [List.size_toArray,hlen]⟩,q⟩
 ·obtain ⟨its,r',pl,hz⟩:=I.tuple hq
  have hlen:=r'.length
  exact len_tuple pl (by simp only [List.size_toArray] <;> omega) ⟨.int ys.length,H,I.tok _,⟨s.toks+1,by rw [List.size_toArray,hlen]⟩,q⟩
theorem ZD:D4 X (.type "list") (λxs H Q=>∃ p ys,xs=[.ref p]/\(Ba X.K H p ys\/Bu X.K H p ys)/\∀ l,H l=none->Q (.ref l) (AN H l (.lst ys))):=by
 intro pins s σ H xs us Q I r h
 obtain ⟨p,ys,rfl,hq,q⟩:=h
 obtain ⟨u,rfl,rx⟩:=Dx r
 cases rx
 have fin:∀ (its:List Value),AC ys its->ys.length<=sizeLine->∀ (h':Heap) (c':Nat),(∀ b o',s.heap.get? b=some o'->h'.get? b=some o')->
   h'.get? s.heap.objs.size=some { cls:=.type "list",dict:=none,data:=.seq its.toArray c',slots:=#[] }->EP X pins σ Q (.ref s.heap.objs.size) { s with heap:=h' }:=λits r' hz h' c' kp e=>
  ⟨.ref s.heap.objs.size,_,I.laid (t':=s.toks) kp (Nat.le_refl _) (show B3 X.prog X.w _ h' _ (.lst ys) from ⟨hz,its,c',r',e⟩),rfl,q _ (I.hok.fresh (Nat.le_refl _))⟩
 rcases hq with hq | hq
 ·obtain ⟨its,r',pl,hz⟩:=I.list hq
  have hlen:=r'.length
  obtain ⟨o,ho,hc,n,hd⟩:=pl.isList
  exact call_list_seq p (.inl rfl) ho hc hd (λh' c' kp e=>fin its r' hz h' c' kp e) (by simp only [List.size_toArray] <;> omega)
 ·obtain ⟨its,r',pl,hz⟩:=I.tuple hq
  have hlen:=r'.length
  obtain ⟨o,ho,hc,n,hd⟩:=pl
  exact call_list_seq p (.inr rfl) ho hc hd (λh' c' kp e=>fin its r' hz h' c' kp e) (by simp only [List.size_toArray] <;> omega)
theorem Zy:D4 X (.type "tuple") (λxs H Q=>∃ p ys,xs=[.ref p]/\((Ba X.K H p ys/\∀ l,H l=none->Q (.ref l) (AN H l (.tup ys)))\/(Bu X.K H p ys/\Q (.ref p) H))):=by
 intro pins s σ H xs us Q I r h
 obtain ⟨p,ys,rfl,h⟩:=h
 obtain ⟨u,rfl,rx⟩:=Dx r
 cases rx
 rcases h with ⟨hq,q⟩ | ⟨hq,q⟩
 ·obtain ⟨its,r',pl,hz⟩:=I.list hq
  have hlen:=r'.length
  refine call_tuple_list pl.isList (λh' kp=>?_) (by simp only [List.size_toArray] <;> omega)
  have I1:Inv X pins σ H { s with heap:=h' }:=I.kept (t':=s.toks) kp
  have I2:Inv X pins σ (AN H h'.objs.size (.tup ys)) { s with heap:=h'.push { cls:=.type "tuple",data:=.seq its.toArray } }:=
   I1.laid (t':=s.toks) (λb o e=>Heap.get?_push_of_some _ e) (Nat.le_refl _) (show B3 X.prog X.w _ _ _ (.tup ys) from ⟨hz,its,r',En.new _ _⟩)
  exact ⟨.ref h'.objs.size,_,I2,rfl,q _ (I1.hok.fresh (Nat.le_refl _))⟩
 ·obtain ⟨its,r',pl,hz⟩:=I.tuple hq
  exact call_tuple_same pl ⟨.ref p,H,I,rfl,q⟩
def tyV (K:PySem.W.Frag) (T:String) (x:V) (H:Hp):Prop:=match x with
 | .str _=>T = "str"
 | .int _=>T = "int"
 | .ref p=>(T = "list" /\ ∃ xs,Ba K H p xs)\/(T = "tuple" /\ ∃ xs,Bu K H p xs) \/
   (T = "dict" /\ ((∃ kvs,H p=some (.dK kvs))\/∃ kvs,H p=some (.dT kvs)))\/(T = "set" /\ ∃ S n,H p=some (.set S n))
 | _=>False
theorem RI {pins:List (Addr×Obj)} {σ:St} {H:Hp} {s:Shared} {T:String} {x:V} {v:Value} (I:Inv X pins σ H s) (r:AV x v) (ty:tyV X.K T x H) :
  s.TypeIs v T/\∀ a,v=.ref a->∃ ob,s.heap.get? a=some ob/\ob.dict=none:=by
 cases x with
 | str z=>
  obtain ⟨t,rfl⟩:=r
  cases (show T = "str" from ty)
  exact ⟨typeIs_str s z t,λ_ e=>nomatch e⟩
 | int i=>
  obtain ⟨t,rfl⟩:=r
  cases (show T = "int" from ty)
  exact ⟨typeIs_int s i t,λ_ e=>nomatch e⟩
 | ref p=>
  cases r
  rcases ty with ⟨rfl,xs,hq⟩ | ⟨rfl,xs,hq⟩ | ⟨rfl,hk⟩ | ⟨rfl,S,n,hk⟩
  ·obtain ⟨its,_,pl,_⟩:=I.list hq
   refine ⟨pl.isList.typeIs,λa e=>?_⟩
   cases e
   obtain ⟨o,n,e,c,hd,_⟩:=pl
   exact ⟨o,e,hd⟩
  ·obtain ⟨its,_,⟨o,e1,hd,hc,_⟩,_⟩:=I.tupN hq
   refine ⟨⟨o,e1,hc⟩,λa e=>?_⟩
   cases e
   exact ⟨o,e1,hd⟩
  ·have z:∃ o,s.heap.get? p=some o/\o.ExactDict:=by
    rcases hk with ⟨kvs,hk⟩ | ⟨kvs,hk⟩
    ·obtain ⟨_,_,_,_,o,_,_,e,ex,_⟩:=I.hok p _ hk
     exact ⟨o,e,ex⟩
    ·obtain ⟨_,_,_,_,o,_,_,e,ex,_⟩:=I.hok p _ hk
     exact ⟨o,e,ex⟩
   obtain ⟨o,e,ex⟩:=z
   refine ⟨⟨o,e,ex.1⟩,λa e2=>?_⟩
   cases e2
   exact ⟨o,e,ex.2.1⟩
  ·obtain ⟨o,_,_,_,e,ex,_⟩:=I.hok p _ hk
   refine ⟨⟨o,e,ex.1⟩,λa e2=>?_⟩
   cases e2
   exact ⟨o,e,ex.2.1⟩
 | _=>exact False.elim ty
def tBM (K:PySem.W.Frag) (T:String) (r:V->List V->Hp->VK->Prop) (to:TE) (t:TA):TE:=λσ H Q=>to σ H λx H1=>tyV K T x H1/\t σ H1 λxs H2=>r x xs H2 Q
variable {o e:Expr} {es:List Expr} {to:TE} {t:TA} {name:Str} {apos cpos:Pos} {T id:String} {r:V->List V->Hp->VK->Prop}
theorem OZ (pa:PlainAttrs T) (slot:Slot T name id) (hty:typeOf (.builtin id)=pure (.type "method_descriptor")) (hm:MtR X id r) (ho:PE X o to) (ha:PA X (e::es) t)
  (hbase:attributeBase o name X.env (eval o X.env)=eval o X.env:=by rfl)
  (hfew:((backTo cpos (starEach (e::es) X.env)).all (λx=>!x.1)&&(backToKw cpos (keywordEach [] X.env)).all (λx=>x.1.isSome)
   && decide ((e::es).length+([]:List Keyword).length+(if ([]:List Keyword).isEmpty then 0 else 1)<30))=true:=by rfl)
  (hline:(apos.endLine==cpos.line)=true:=by rfl) (hs:starEach (e::es) X.env=(false,eval e X.env)::starEach es X.env:=by rfl) (hplain:(backTo cpos (starEach es X.env)).any (·.1)=false:=by rfl) :
  PE X (.Call (.Attribute o name apos) (e::es) [] cpos) (tBM X.K T r to t):=by
 intro pins s σ H Q I h
 refine wpAny_Call_method_late hbase hfew hline rfl (Ar (ho pins s σ H _ I h) λv s1 ⟨x,H1,I1,r1,ty,q1⟩=>?_)
 obtain ⟨h1,h2⟩:=RI I1 r1 ty
 refine ⟨T,id,pa,slot,hty,h1,h2,?_⟩
 have hA:=ha cpos pins s1 σ H1 _ I1 q1
 rw [hs] at hA ⊢
 refine Calls.callWith_builtin (by show (false||(backTo cpos (starEach es X.env)).any (·.1))=false; rw [hplain] <;> rfl) (Calls.evalArgs_plain ?_)
 exact Ar hA λus s2 ⟨vs,H2,I2,r2,q2⟩=>hm pins s2 σ H2 x vs v us Q I2 r1 r2 q2
end
end L2
namespace L2
open PySem PySem.Spec PyProof.Rows
def MtM (X:Cx) (id:String) (r:V->List V->Hp->VK->Prop):Prop:=
 ∀ (pins:List (Addr×Obj)) (s:Shared) (σ:St) (H:Hp) (x:V) (xs:List V) (v:Value) (us:List Value) (Q:VK),Inv X pins σ H s->AV x v->AC xs us->r x xs H Q->
  wpAny (model X.prog X.w) X.A (call (.builtin id) (v::us)) (EP X pins σ Q) X.xe s
theorem AC.one:∀ {x:V} {us:List Value},AC [x] us->∃ u,us=[u]/\AV x u
 | _,_,.cons r .nil=>⟨_,rfl,r⟩
theorem AC.rep {xs:List V} {us:List Value} (h:AC xs us):∀ k:Nat,AC (List.replicate k xs).flatten (List.replicate k us).flatten
 | 0=>.nil
 | k+1=>by
  rw [List.replicate_succ,List.replicate_succ,List.flatten_cons,List.flatten_cons]
  exact AC.append h (AC.rep h k)
theorem P8 (its:List Value):∀ (k:Nat) (acc:List Value),
  List.foldl (λx1 x2=>x1++x2) acc.toArray (List.replicate k its.toArray)=(acc++(List.replicate k its).flatten).toArray
 | 0,acc=>by simp
 | k+1,acc=>by
  have e:acc.toArray++its.toArray=(acc++its).toArray:=by simp
  have e2:(acc++its)++(List.replicate k its).flatten=acc++(List.replicate (k+1) its).flatten:=by
   rw [List.replicate_succ,List.flatten_cons,List.append_assoc]
  rw [<- e2,<- P8 its k (acc++its),<- e,List.replicate_succ,List.foldl_cons]
section
variable {X:Cx} {pins:List (Addr×Obj)} {σ:St} {H:Hp} {s:Shared} {l b:Addr} {xs ys zs:List V}
theorem Inv.lset {its its':List Value} {n:Nat} {f:Array Value->Array Value} {t':Nat} (I:Inv X pins σ H s) (hH:H l=some (.lst xs))
  (e:s.heap.get? l=some { cls:=.type "list",data:=.seq its.toArray n }) (hf:f its.toArray=its'.toArray) (hv:AC ys its') (hz:ys.length<=sizeLine) :
  Inv X pins σ (AN H l (.lst ys)) { s with heap:=s.heap.update l (Obj.mapSeq f),toks:=t' }:=by
 have q:=PySem.IsL.update e f
 rw [hf] at q
 refine I.write (x:=l) (e:=l) (by rw [hH]; exact trivial) (.inl rfl) (λb' u hb hu=>(Heap.get?_update_other s.heap (Obj.mapSeq f) (Ne.symm hb)).trans hu) ⟨_,q⟩ ?_
 exact ⟨hz,its',_,hv,q⟩
theorem Inv.lstM (I:Inv X pins σ H s) (hH:H l=some (.lst xs)):xs.length<=sizeLine/\∃ (its:List Value) (n:Nat),AC xs its/\xs.length=its.length/\s.heap.get? l=some { cls:=.type "list",data:=.seq its.toArray n }:=by
 obtain ⟨z,its,n,r,e⟩:=I.hok l _ hH
 exact ⟨z,its,n,r,r.length,e⟩
end
section
variable {X:Cx}
def Uk:V->List V->Hp->VK->Prop:=λx vs H Q=>∃ l xs y,x=.ref l/\vs=[y]/\H l=some (.lst xs)/\xs.length<sizeLine/\Q .non (AN H l (.lst (xs++[y])))
theorem Pp:MtM X "list.append" Uk:=by
 intro pins s σ H x vs v us Q I rx rv h
 obtain ⟨l,xs,y,rfl,rfl,hH,hz,q⟩:=h
 cases rx
 obtain ⟨u,rfl,ru⟩:=rv.one
 obtain ⟨z,its,n,r,hl,e⟩:=I.lstM hH
 refine call_meets F.slot_list_append ⟨_,e,rfl⟩ F.entry_list_append (F.args_list_append_2 _ _) (PySem.list_append l its.toArray n u (by rw [List.size_toArray]; omega)) ⟨e,?_⟩
 refine ⟨.non,_,I.lset (its':=its++[u]) hH e (by simp) (r.append (.cons ru .nil)) ?_,rfl,q⟩
 rw [List.length_append,List.length_singleton]
 omega
theorem Pv {α:Type} (xs:List α) (k:Nat):(List.replicate k xs).flatten.length=k*xs.length:=by
 induction k with
 | zero=>simp
 | succ k ih=>rw [List.replicate_succ,List.flatten_cons,List.length_append,ih,Nat.succ_mul,Nat.add_comm]
end
section
variable {prog:Program} {w:World} {A:Around} {E:Value->Shared->Prop} {s:Shared}
end
section
variable {X:Cx}
end
end L2
namespace Att
open PySem PySem.W PySem.Calls PyProof.Rows
theorem XV {P:Params} {h:Heap}:∀ (ns:List Int) (vs:List Value),WellAll P h vs (ns.map WData.int)->IntsAre vs ns:=by
 intro ns
 induction ns with
 | nil=>
  intro vs w
  rw [List.map_nil] at w
  cases w
  exact .nil
 | cons n ns ih=>
  intro vs w
  rw [List.map_cons] at w
  cases w with
  | cons a b=>
   cases a
   exact .cons _ _ (ih _ b)
theorem SX {l:OpenLaw} {n:Nat} (hn:l.most=some n) {P:Params} {h:Heap} {args:List WData} {vals:List Value}
  (hpre:l.row.toRowW.claim.pre args=true) (hwl:WellAll P h vals args) :
  ∃ a vs ns,vals=[Value.ref a]/\args=[WData.list (ns.map WData.int)]/\h.get? a=some { cls:=.type "list",data:=.seq vs.toArray }/\IntsAre vs ns/\ns.length<=n:=by
 have hsh:WShape.hasAll [] args [.list .int]=true:=(pre_splitW hpre).1
 have hc:l.pre.holds [] { args:=args }=true:=(pre_splitW hpre).2
 obtain ⟨d,r,rfl,h1,h2⟩:=hasAllW_cons hsh
 obtain rfl:=hasAllW_nil h2
 obtain ⟨xs,rfl,h3⟩:=hasW_list h1
 obtain ⟨ns,rfl⟩:=items_int h3
 have hlen:ns.length<=n:=by
  unfold OpenLaw.pre at hc
  have h4:(WTm.not (.lt (.lit (.int (n:Int))) (.len (.arg 0)))).holds [] { args:=[.list (ns.map .int)] }=true:=by
   have h4:=(holds_andW hc).1
   rw [hn] at h4
   exact h4
  have h5:=condW_of h4 (w_not (w_lt w_lit (w_len_list (w_arg rfl))))
  rw [List.length_map] at h5
  refine Nat.le_of_not_lt λq=>?_
  have q':(n:Int)<((ns.length:Nat):Int):=by omega
  first
   | (rw [decide_eq_true q'] at h5; exact absurd h5 wE)
   | (simp at h5; omega)
 cases hwl with
 | cons w1 w2=>
  cases w2
  cases w1 with
  | list ho hall=>exact ⟨_,_,ns,rfl,rfl,ho,XV ns _ hall,hlen⟩
theorem UP (l:OpenLaw) (args:List WData):l.row.toRowW.claim.post args (.bool true) args=true:=
 postW_of (r:=l.row.toRowW) (X:=(true==true))
  (show WShape.has [] (.bool true) .bool=true by first | rfl | decide | simp [WShape.has,WShape.arms,WShape.armsAll])
  (show (WTm.eq .res (.lit (.bool true))).value [] { args:=args,res:=some (.bool true),after:=args }=some (.bool (true==true)) from w_eq_bool (w_res rfl) w_lit) rfl
theorem attach_call {l:OpenLaw} {n:Nat} {q:Program} {loose:List Str} {XP:(Str->Option Value)->Heap->Prop} {YP:World->Heap->Prop} {d:DefRec}
  (hn:l.most=some n) (hdf:d.params.defaults=[])
  (call:∀ (w:World) (s₀ s₁:Shared) (mg mb:Str->Option Value) (fa:Addr) (o:Obj) (pm cd doc:Value) (a:Addr) (vs:List Value) (ns:List Int),
   Ground q loose [] XP w s₀ mg mb s₁.heap->YP w s₁.heap->
   s₁.heap.get? fa=some o->o.data=.func (docDef d.name d.params d.body d.scope pm cd doc)->s₁.heap.CodeRec cd d.name->mg d.name=some (.ref fa)->
   s₁.heap.get? a=some { cls:=.type "list",data:=.seq vs.toArray }->IntsAre vs ns->ns.length<=n->s₁.gens=#[]->
   codeAny (model l.prog w) callerA (.call (.ref fa) ⟨[.ref a],[]⟩) (λr s'=>r=.ok (.ret (.bool true))/\OldK s₁.heap s'.heap/\s'.os=s₁.os/\AllBare s'.gens) s₁) :
  WalkO q loose XP YP l.row.toRowW d [] (λf vs=>PySem.call f vs):=by
 intro w s₀ s₁ mg mb G Y fa o pm cd doc dV kV ho hd hcd hD hmg hg args vals as hpre hlay hrd hwl hlo
 obtain rfl:dV=.none:=Dflts.none hD hdf
 obtain rfl:kV=.none:=Dflts.noKw hD
 obtain ⟨a,vs,ns,rfl,rfl,hobj,hints,hlen⟩:=SX hn hpre hwl
 refine enter_call (codeAny_mono (call w s₀ s₁ mg mb fa o pm cd doc a vs ns G Y ho (fd_plain hd) hcd hmg hobj hints hlen hg) λr s' hq=>?_)
 obtain ⟨rfl,h2,h3,h4⟩:=hq
 exact ⟨.inl ⟨.bool true,.bool true,[],rfl,λ_=>rfl,.bool true,UP l _,λ_=>⟨List.Pairwise.nil,λ_ hm=>(nomatch hm)⟩⟩,h2,h3,h4⟩
section
variable {prog:Program} {w:World} {A:Around} {E:Value->Shared->Prop} {s:Shared} {K:Frag}
end
end Att
namespace L2
open PySem PySem.Spec PyProof.Rows
theorem MX:∀ {vs:List Value} {ns:List Int},IntsAre vs ns->AC (ns.map V.int) vs
 | _,_,.nil=>.nil
 | _,_,.cons n t h=>.cons ⟨t,rfl⟩ (MX h)
def Mw (H:Hp):Prop:=∀ b,H b=none\/∃ o xs,H b=some (.frz o (.lst xs))
theorem Xw {P:Program} {w:World} {K:PySem.W.Frag} {mg mb:Str->Option Value} {CX:C7} {k:Nat} {fa a:Addr} {fd:FuncData} {x:Str} {sp:Sp} {s₁:Shared} {vs:List Value} {ns:List Int}
  (KX:K.In s₁.heap) (hns:s₁.heap.Ns mainGlobals mg) (hb:s₁.heap.Ns builtinsNs mb) (hbb:∀ x:Str,x ≠ "__name__" -> mb x=bootBuiltins x) (hlim:s₁.heap.NoLimit) (hg:s₁.gens=#[])
  (ha:s₁.heap.get? a=some { cls:=.type "list",data:=.seq vs.toArray }) (hi:IntsAre vs ns) (hl:ns.length<=sizeLine) (hr:AR k callerA)
  (F:∀ base:Heap,K.In base->base.Ns mainGlobals mg->AF P w K mg base CX k fa fd [x] sp) (hbind:∀ (s:Shared) (u:Value),BindsTo s fd ⟨[u],[]⟩ [(x,u)])
  (hsp:∀ H:Hp,Mw H->Ba K H a (ns.map V.int)->sp [.ref a] H (λv _=>v=.bl true) λ_ _ _=>False)
  (hCX:∀ H e s',CX [] H s₁ (λ_ _ _=>False) e s'->False) :
  codeAny (model P w) callerA (.call (.ref fa) ⟨[.ref a],[]⟩) (λr s'=>r=.ok (.ret (.bool true))/\OldK s₁.heap s'.heap/\s'.os=s₁.os/\AllBare s'.gens) s₁:=by
 have rv:=MX hi
 have lenV:=hi.length
 -- from an abstract heap in which nothing but the script may be tracked
 have core:∀ H:Hp,Mw H->Ba K H a (ns.map V.int)->BJ P w H s₁.heap->(∀ b,H b≠none->b=a)->(H a≠none->K.lookup a=none)->
   codeAny (model P w) callerA (.call (.ref fa) ⟨[.ref a],[]⟩) (λr s'=>r=.ok (.ret (.bool true))/\OldK s₁.heap s'.heap/\s'.os=s₁.os/\AllBare s'.gens) s₁:=by
  intro H hO hS hok hA hK
  have base_of:∀ {b:Addr} {o:Obj},s₁.heap.get? b=some o->H b=none->(Ef s₁.heap H).get? b=some o:=λe n=>Yd e n
  have noA:∀ {b:Addr} {o:Obj} {es:Array DictEntry} {ep:Nat},s₁.heap.get? b=some o->o.data=.dict es ep->H b=none:=λ{b o es ep} e d=>by
   cases q:H b with
   | none=>rfl
   | some u=>
    have e':b=a:=hA b (by rw [q]; simp)
    subst e'
    rw [ha] at e; cases e
    have d':Data.seq vs.toArray _=Data.dict es ep:=d
    cases d'
  have nsK:∀ {b:Addr} {m:Str->Option Value},s₁.heap.Ns b m->(Ef s₁.heap H).Ns b m:=λ{b m} ⟨o,es,ep,e,d,r⟩=>⟨o,es,ep,base_of e (noA e d),d,r⟩
  have hKb:K.In (Ef s₁.heap H):=λb o e=>base_of (KX b o e) (by
   cases q:H b with
   | none=>rfl
   | some u=>
    have e':b=a:=hA b (by rw [q]; simp)
    subst e'
    rw [hK (by rw [q]; simp)] at e; cases e)
  have hM:Mod K mg (Ef s₁.heap H):=⟨hKb,nsK hns,⟨mb,nsK hb,hbb⟩,let ⟨mc,h1,h2⟩:=hlim; ⟨mc,nsK h1,h2⟩⟩
  have e0:Ft P w K mg (Ef s₁.heap H) callerA [] s₁ H:=⟨rfl,hM,λb o e=>WO e,Nat.le_of_eq (Yc _ _),trivial,λb hb=>absurd (show b∈([]:List Addr) from hb) (by simp),hok,.of_eq hg⟩
  refine codeAny_mono ((F _ hKb (nsK hns)).run callerA [] s₁ H ⟨[.ref a],[]⟩ [.ref a] [.ref a] _ _ hr e0 (hbind s₁ (.ref a)) (.cons rfl .nil) (hsp H hO hS)) λr s' h=>?_
  cases r with
  | error e=>exact (hCX H e s' h).elim
  | ok fl=>
   cases fl with
   | next=>exact False.elim h
   | brk=>exact False.elim h
   | cont=>exact False.elim h
   | ret u=>
    obtain ⟨v,H',os,bare,un,hok',r',q⟩:=h
    have q':v=.bl true:=q
    subst q'
    obtain rfl:u=Value.bool true:=r'
    refine ⟨rfl,OldK.of_keep λb o e=>?_,os,bare⟩
    cases q:H b with
    | none=>exact un.keep b o e q (by intro z; exact absurd (show b∈([]:List Addr) from z) (by simp)) (by simp)
    | some u=>
     rcases hO b with z | ⟨ob,xs,z⟩
     ·rw [q] at z; cases z
     ·have z2:=un.frzs b ob _ z
      obtain ⟨e1,_⟩:=hok b _ z
      obtain ⟨e2,_⟩:=hok' b _ z2
      rw [e] at e1; cases e1
      exact e2
 cases hk:K.lookup a with
 | some o=>
  -- the script is one of the module's own objects
  have e:=KX a o hk
  rw [ha] at e
  cases e
  refine core (λ_=>none) (λ_=>.inl rfl) (.inr ⟨_,vs.toArray,_,hk,rfl,rfl,rfl,by rw [List.size_toArray,lenV]; exact hl,by simpa using rv⟩) (λb u z=>by have z':(none:Option HO)=some u:=z; cases z') (λb z=>absurd rfl z) λz=>absurd rfl z
 | none=>
  refine core (λb=>if b=a then some (.frz { cls:=.type "list",data:=.seq vs.toArray } (.lst (ns.map V.int))) else none) (λb=>?_) (.inl (.inr ⟨{ cls:=.type "list",data:=.seq vs.toArray },if_pos rfl⟩)) (λb u z=>?_) (λb z=>?_) λ_=>hk
  ·by_cases hb:b=a
   ·exact .inr ⟨_,_,if_pos hb⟩
   ·exact .inl (if_neg hb)
  ·by_cases hb:b=a
   ·have z':=(if_pos hb).symm.trans z
    cases z'
    subst hb
    exact ⟨ha,by rw [List.length_map]; exact hl,vs,_,rv,ha⟩
   ·have z':=(if_neg hb).symm.trans z
    cases z'
  ·by_cases hb:b=a
   ·exact hb
   ·exact absurd (if_neg hb) z
end L2
namespace L2
open PySem PySem.Spec PyProof.Rows
theorem walk_of {l:PySem.W.OpenLaw} {n k:Nat} {q:Program} {loose:List Str} {XP:(Str->Option Value)->Heap->Prop} {YP:World->Heap->Prop} {d:DefRec} {K:Params->PySem.W.Frag} {CX:World->C7} {sp:World->Sp} {x:Str}
  (hn:l.most=some n) (hn2:n<=sizeLine) (hdf:d.params.defaults=[]) (hr:AR k callerA)
  (hY:∀ (w:World) (h:Heap),YP w h->(K w.params).In h)
  (F:∀ (w:World) (mg:Str->Option Value) (fa:Addr) (h:Heap),(K w.params).In h->h.Ns mainGlobals mg->mg d.name=some (.ref fa)->
   ∃ fd:FuncData,(∀ (s:Shared) (u:Value),BindsTo s fd ⟨[u],[]⟩ [(x,u)]) /\
    ∀ base:Heap,(K w.params).In base->base.Ns mainGlobals mg->AF l.prog w (K w.params) mg base (CX w) k fa fd [x] (sp w))
  (hsp:∀ (w:World) (H:Hp) (a:Addr) (ns:List Int),ns.length<=n->Mw H->Ba (K w.params) H a (ns.map V.int)->sp w [.ref a] H (λv _=>v=.bl true) λ_ _ _=>False)
  (hCX:∀ (w:World) (H:Hp) (s:Shared) (e:Value) (s':Shared),CX w [] H s (λ_ _ _=>False) e s'->False) :
  PySem.W.WalkO q loose XP YP l.row.toRowW d [] (λf vs=>PySem.call f vs):=by
 refine Att.attach_call hn hdf λw s₀ s₁ mg mb fa o pm cd doc a vs ns G Y ho hd hcd hmg hobj hints hlen hg=>?_
 have KX:=hY w _ Y
 obtain ⟨fd,hb,hF⟩:=F w mg fa _ KX G.T.g hmg
 exact Xw KX G.T.g G.T.b G.T.builtins G.T.nolimit hg hobj hints (Nat.le_trans hlen hn2) hr hF hb (λH hO hS=>hsp w H a ns hlen hO hS) λH e s'=>hCX w H s₁ e s'
end L2
namespace L2
open PySem PySem.Spec PyProof.Rows
def Bt (s:Stmt) (j:Nat):Stmt:=match s with
 | .ClassDef _ _ _ body _ _ _ _ _ _ _=>body.getD j (.Pass ⟨0,0,0,0⟩)
 | _=>.Pass ⟨0,0,0,0⟩
def De (s:Stmt):Arguments:=match s with
 | .FunctionDef _ a _ _ _ _ _ _ _ _=>a
 | _=>{ posonlyargs:=[],args:=[],vararg:=none,kwonlyargs:=[],kw_defaults:=[],kwarg:=none,defaults:=[] }
def CC (s:Stmt):List Stmt:=match s with
 | .FunctionDef _ _ b _ _ _ _ _ _ _=>b
 | _=>[]
def An (s:Stmt):Scope:=match s with
 | .FunctionDef _ _ _ _ _ _ sc _ _ _=>sc
 | _=>{ kind:=.function,names:=[],isGenerator:=false,isCoroutine:=false }
abbrev AL:C7:=λ_ _ _ _ _ _=>False
abbrev E0:XK:=λ_ _ _=>False
theorem FX {X:Cx}:Fq AL X E0:=λ_ _ _ _ _ _ _ h=>h.elim
structure Av (K:PySem.W.Frag) (x qual:Str) (st:Stmt) (f:Addr) (fd:FuncData):Prop where
 ex:∃ (oc:Value) (od:Option Addr) (kV doc pm:Value) (an:Option Addr) (cdv ct:Value) (osl:Array (Option Value)),
  fd=PySem.W.fnOf x qual (De st) (CC st) (An st) .none kV doc pm an cdv ct/\K.lookup f=some ⟨oc,od,.func fd,osl⟩/\PySem.W.codeIn K cdv qual=true
 kp:PySem.W.keepIn K (.ref f)=true
section
variable {P:Program} {w:World} {K:PySem.W.Frag} {mg:Str->Option Value} {base:Heap}
theorem Av.ok {x qual:Str} {st:Stmt} {f:Addr} {fd:FuncData} {N ps:List Str} {k:Nat} {sp:Sp} (F:Av K x qual st f fd) (S:AB N ps (An st)) (len:∀ vs H Q E,sp vs H Q E->vs.length=ps.length)
  (hbody:∀ (cdv:Value) (A:Around) (outer:List Env) (s:Shared) (H:Hp) (vs:List V) (Q:VK) (E:XK),AR k (A.deeper (envOfC qual (An st) s.heap.objs.size f cdv))->sp vs H Q E->
   ∃ t,PSs (El AL P w K mg base N qual (An st) f cdv A outer s H E).nox (CC st) t/\t { nx:=λ_ H'=>Q .non H',rt:=Q } (start N vs) H):AF P w K mg base AL (k+1) f fd ps sp:=by
 obtain ⟨oc,od,kV,doc,pm,an,cdv,ct,osl,rfl,lk,hcd⟩:=F.ex
 refine Qa lk hcd S len λA outer s H vs Q E hr hsp=>?_
 obtain ⟨t,h,q⟩:=hbody cdv A outer s H vs Q E hr hsp
 exact ⟨t,h.nox,q⟩
theorem Av.binds {x qual:Str} {st:Stmt} {f:Addr} {fd:FuncData} {ps:List Str} (F:Av K x qual st f fd)
  (h:∀ (kV doc pm:Value) (an:Option Addr) (cdv ct:Value) (us:List Value),us.length=ps.length->bindArgs (PySem.W.fnOf x qual (De st) (CC st) (An st) .none kV doc pm an cdv ct) ⟨us,[]⟩=pure (ps.zip us)):Binds K fd ps []:=by
 obtain ⟨oc,od,kV,doc,pm,an,cdv,ct,osl,rfl,lk,hcd⟩:=F.ex
 exact .all (h kV doc pm an cdv ct)
theorem P6 {x qual:Str} {st:Stmt} {f:Addr} {oc:Value} {od an:Option Addr} {osl:Array (Option Value)} {kV doc pm cdv ct:Value} (l:K.lookup f=some ⟨oc,od,.func (PySem.W.fnOf x qual (De st) (CC st) (An st) .none kV doc pm an cdv ct),osl⟩)
  (c:PySem.W.codeIn K cdv qual=true) (k:PySem.W.keepIn K (.ref f)=true):Av K x qual st f (PySem.W.fnOf x qual (De st) (CC st) (An st) .none kV doc pm an cdv ct):=⟨⟨oc,od,kV,doc,pm,an,cdv,ct,osl,rfl,l,c⟩,k⟩
end
theorem X9 {A:Around} {k:Nat} (hr:AR k A):A.units+1<cLine:=Nat.lt_of_le_of_lt (Nat.add_le_add_left (by decide:1<=64) _) hr.units
section
variable {X:Cx}
end
theorem LP {A B:Prop} (h:B):if false=true then A else B:=by
 rw [if_neg Bool.false_ne_true]
 exact h
theorem LO {A B:Prop} (h:A):if true=true then A else B:=by
 rw [if_pos rfl]
 exact h
def Bw (H H':Hp):Prop:=∀ b o,H b=some o->H' b=some o
theorem Bw.refl (H:Hp):Bw H H:=λ_ _ h=>h
theorem Bw.trans {H H1 H2:Hp} (a:Bw H H1) (b:Bw H1 H2):Bw H H2:=λc o h=>b c o (a c o h)
theorem Bw.free {H H':Hp} (e:Bw H H') {l:Addr} (h:H' l=Option.none):H l=Option.none:=by
 cases q:H l with
 | none=>rfl
 | some o=>
  rw [e l o q] at h
  cases h
theorem Bw.seq {K:PySem.W.Frag} {H H':Hp} {a:Addr} {xs:List V} (e:Bw H H') (h:Ba K H a xs):Ba K H' a xs:=by
 rcases h with (h | ⟨o,h⟩) | h
 ·exact .inl (.inl (e _ _ h))
 ·exact .inl (.inr ⟨o,e _ _ h⟩)
 ·exact .inr h
end L2
namespace L2
open PySem PySem.Spec PyProof.Rows
section
variable {κ:Type} [DecidableEq κ]
end
section
variable {P:Program} {w:World} {H:Hp} {h:Heap} {a:Addr}
end
section
variable {X:Cx} {pins:List (Addr×Obj)} {σ:St} {H:Hp} {s:Shared} {a:Addr} {y v:V} {u r:Value} {o:Option V} {A:Around} {E:Value->Shared->Prop}
end
section
variable {X:Cx} {pins:List (Addr×Obj)} {σ:St} {H:Hp} {s:Shared} {a:Addr} {kvs:List (A0×V)} {k:A0} {u:Value} {A:Around} {E:Value->Shared->Prop}
end
section
variable {X:Cx} {o i e value:Expr} {pos pos' tpos:Pos} {td ty tv:TE}
end
section
variable {X:Cx} {pos:Pos}
end
def Sa:List (TE×TE)->St->Hp->(List (V×V)->Hp->Prop)->Prop
 | [],_,H,Q=>Q [] H
 | (tk,tv)::r,σ,H,Q=>tk σ H λx H1=>tv σ H1 λy H2=>Sa r σ H2 λps H3=>Q ((x,y)::ps) H3
structure M1 (X:Cx) (o:Expr) (m:Str) (apos:Pos) (e:Expr) (cpos:Pos):Prop where
 base:attributeBase o m X.env (eval o X.env)=eval o X.env
 L1:((backTo cpos (starEach [e] X.env)).all (λx=>!x.1)&&(backToKw cpos (keywordEach [] X.env)).all (λx=>x.1.isSome)
  && decide (([e]:List Expr).length+([]:List Keyword).length+(if ([]:List Keyword).isEmpty then 0 else 1)<30))=true
 line:(apos.endLine==cpos.line)=true
 trees:backTo cpos (starEach [e] X.env)=[(false,eval e X.env)]
structure M2 (X:Cx) (o:Expr) (m:Str) (apos:Pos) (e f:Expr) (cpos:Pos):Prop where
 base:attributeBase o m X.env (eval o X.env)=eval o X.env
 L1:((backTo cpos (starEach [e,f] X.env)).all (λx=>!x.1)&&(backToKw cpos (keywordEach [] X.env)).all (λx=>x.1.isSome)
  && decide (([e,f]:List Expr).length+([]:List Keyword).length+(if ([]:List Keyword).isEmpty then 0 else 1)<30))=true
 line:(apos.endLine==cpos.line)=true
 trees:backTo cpos (starEach [e,f] X.env)=[(false,eval e X.env),(false,eval f X.env)]
section
variable {X:Cx} {pins:List (Addr×Obj)} {σ:St} {H:Hp} {s:Shared} {a:Addr} {y d:V} {u r:Value} {o:Option V} {A:Around} {E:Value->Shared->Prop}
end
section
variable {X:Cx} {o e f:Expr} {apos cpos:Pos} {td ty tx:TE}
end
section
variable {X:Cx} {pins:List (Addr×Obj)} {σ:St} {H:Hp} {s:Shared} {a:Addr} {kvs:List (A0×V)} {A:Around} {E:Value->Shared->Prop}
end
section
variable {X:Cx} {pins:List (Addr×Obj)} {σ:St} {H:Hp} {s:Shared} {a:Addr} {y:V} {u:Value} {A:Around} {E:Value->Shared->Prop}
end
section
variable {X:Cx}
end
section
variable {κ:Type} [DecidableEq κ]
end
end L2
namespace DL
open PySem PySem.Spec PyProof.Rows L2
inductive D where
 | non | bl (b:Bool) | int (i:Int) | str (x:Str) | tup (xs:List D) | lst (xs:List D) | scr (xs:List D) | ptr (n:Nat) | ty (n:String) | fn (a:Addr) | dct (ks:List A0) (xs:List D)
structure Wd where
 g:Hp
 l:List Addr
structure Ah (G G':Wd):Prop where
 g:Bw G.g G'.g
 l:∃ t,G'.l=G.l++t
theorem Ah.refl (G:Wd):Ah G G:=⟨Bw.refl _,[],(List.append_nil _).symm⟩
theorem Ah.trans {G G' G'':Wd} (a:Ah G G') (b:Ah G' G''):Ah G G'':=⟨a.g.trans b.g,by
 obtain ⟨t,e⟩:=a.l; obtain ⟨u,e'⟩:=b.l; exact ⟨t++u,by rw [e',e,List.append_assoc]⟩⟩
theorem Ah.at {G G':Wd} {n:Nat} {a:Addr} (e:Ah G G') (h:G.l[n]?=some a):G'.l[n]?=some a:=by
 obtain ⟨t,e⟩:=e.l
 rw [e,List.getElem?_append_left (List.getElem?_eq_some_iff.mp h).1,h]
mutual
inductive Is (K:PySem.W.Frag) (G:Wd):D->V->Prop
 | non:Is K G .non .non
 | bl (b:Bool):Is K G (.bl b) (.bl b)
 | int (i:Int):Is K G (.int i) (.int i)
 | str (x:Str):Is K G (.str x) (.str x)
 | tup {a:Addr} {ds:List D} {vs:List V} (h:Bu K G.g a vs) (r:Am K G ds vs):Is K G (.tup ds) (.ref a)
 | lst {a:Addr} {ds:List D} {vs:List V} (h:G.g a=some (.lst vs)) (r:Am K G ds vs):Is K G (.lst ds) (.ref a)
 | scr {a:Addr} {ds:List D} {vs:List V} (h:Ba K G.g a vs) (r:Am K G ds vs):Is K G (.scr ds) (.ref a)
 | ptr {a:Addr} (n:Nat) (h:G.l[n]?=some a):Is K G (.ptr n) (.ref a)
 | ty (n:String):Is K G (.ty n) (.ty n)
 | fn (a:Addr):Is K G (.fn a) (.ref a)
 | dct {a:Addr} {ks:List A0} {ds:List D} {vs:List V} {ob:Obj} (h:G.g a=some (.frz ob (.dK (ks.zip vs)))) (hl:ks.length=vs.length) (r:Am K G ds vs):Is K G (.dct ks ds) (.ref a)
inductive Am (K:PySem.W.Frag) (G:Wd):List D->List V->Prop
 | nil:Am K G [] []
 | cons {d:D} {v:V} {ds:List D} {vs:List V} (h:Is K G d v) (r:Am K G ds vs):Am K G (d::ds) (v::vs)
end
theorem Dj {K:PySem.W.Frag} {H H':Hp} {a:Addr} {xs:List V} (e:Bw H H') (h:Bu K H a xs):Bu K H' a xs:=by
 rcases h with (h | ⟨o,h⟩) | h
 ·exact .inl (.inl (e _ _ h))
 ·exact .inl (.inr ⟨o,e _ _ h⟩)
 ·exact .inr h
mutual
theorem Is.ext {K:PySem.W.Frag} {G G':Wd} (e:Ah G G'):∀ {d:D} {v:V},Is K G d v->Is K G' d v
 | _,_,.non=>.non
 | _,_,.bl b=>.bl b
 | _,_,.int i=>.int i
 | _,_,.str x=>.str x
 | _,_,.tup h r=>.tup (Dj e.g h) (Am.ext e r)
 | _,_,.lst h r=>.lst (e.g _ _ h) (Am.ext e r)
 | _,_,.scr h r=>.scr (e.g.seq h) (Am.ext e r)
 | _,_,.ptr n h=>.ptr n (e.at h)
 | _,_,.ty n=>.ty n
 | _,_,.fn n=>.fn n
 | _,_,.dct h hl r=>.dct (e.g _ _ h) hl (Am.ext e r)
theorem Am.ext {K:PySem.W.Frag} {G G':Wd} (e:Ah G G'):∀ {ds:List D} {vs:List V},Am K G ds vs->Am K G' ds vs
 | _,_,.nil=>.nil
 | _,_,.cons h r=>.cons (Is.ext e h) (Am.ext e r)
end
section
variable {K:PySem.W.Frag} {G G':Wd}
theorem Am.length:∀ {ds:List D} {vs:List V},Am K G ds vs->ds.length=vs.length
 | _,_,.nil=>rfl
 | _,_,.cons _ r=>by rw [List.length_cons,List.length_cons,r.length]
theorem Am.append:∀ {ds es:List D} {vs us:List V},Am K G ds vs->Am K G es us->Am K G (ds++es) (vs++us)
 | _,_,_,_,.nil,q=>q
 | _,_,_,_,.cons h r,q=>.cons h (Am.append r q)
theorem Am.get:∀ {ds:List D} {vs:List V} {i:Nat} {d:D},Am K G ds vs->ds[i]?=some d->∃ v,vs[i]?=some v/\Is K G d v
 | _,_,_,_,.nil,e=>by simp at e
 | _,_,0,_,.cons h r,e=>by simp at e; subst e; exact ⟨_,rfl,h⟩
 | _,_,i+1,d,.cons h r,e=>by
  obtain ⟨v,e1,h1⟩:=Am.get (i:=i) (d:=d) r (by simpa using e)
  exact ⟨v,by simpa using e1,h1⟩
theorem Am.getV:∀ {ds:List D} {vs:List V} {i:Nat} {v:V},Am K G ds vs->vs[i]?=some v->∃ d,ds[i]?=some d/\Is K G d v
 | _,_,_,_,.nil,e=>by simp at e
 | _,_,0,_,.cons h r,e=>by simp at e; subst e; exact ⟨_,rfl,h⟩
 | _,_,i+1,d,.cons h r,e=>by
  obtain ⟨v,e1,h1⟩:=Am.getV (i:=i) (v:=d) r (by simpa using e)
  exact ⟨v,by simpa using e1,h1⟩
theorem Am.take:∀ {ds:List D} {vs:List V} (n:Nat),Am K G ds vs->Am K G (ds.take n) (vs.take n)
 | _,_,0,_=>.nil
 | _,_,_+1,.nil=>.nil
 | _,_,n+1,.cons h r=>.cons h (Am.take n r)
theorem Am.drop:∀ {ds:List D} {vs:List V} (n:Nat),Am K G ds vs->Am K G (ds.drop n) (vs.drop n)
 | _,_,0,h=>h
 | _,_,_+1,.nil=>.nil
 | _,_,n+1,.cons h r=>Am.drop n r
theorem Am.set {d:D} {v:V} (q:Is K G d v):∀ {ds:List D} {vs:List V} (i:Nat),Am K G ds vs->Am K G (ds.set i d) (vs.set i v)
 | _,_,_,.nil=>.nil
 | _,_,0,.cons _ r=>.cons q r
 | _,_,i+1,.cons h r=>.cons h (Am.set q i r)
theorem Am.ints:∀ {ns:List Int},Am K G (ns.map D.int) (ns.map V.int)
 | []=>.nil
 | n::ns=>.cons (.int n) (Am.ints (ns:=ns))
theorem Am.toInts:∀ {ns:List Int} {vs:List V},Am K G (ns.map D.int) vs->vs=ns.map V.int
 | [],_,.nil=>rfl
 | n::ns,_,.cons h r=>by cases h; rw [Am.toInts r]; rfl
end
def _root_.L2.ctxOf (o:Obj):Option Value:=match o.data with | .fields vs=>vs[2]? | _=>none
inductive MO where
 | lst (xs:List D)
 | ins (C:Addr) (fs:List (Str×D))
 | exc (C:Addr) (fs:List (Str×D)) (h:Option Addr:=none)
 | dct (ks:List A0) (xs:List D)
 | pin (ob:Obj) (vs:List V) (ks:List A0) (xs:List D)
abbrev Ad:=List (Option MO)
inductive BA (K:PySem.W.Frag) (G:Wd):List (Str×D)->List (Str×V)->Prop
 | nil:BA K G [] []
 | cons {f:Str} {d:D} {v:V} {fs:List (Str×D)} {vs:List (Str×V)} (h:Is K G d v) (r:BA K G fs vs):BA K G ((f,d)::fs) ((f,v)::vs)
theorem BA.ext {K:PySem.W.Frag} {G G':Wd} (e:Ah G G'):∀ {fs:List (Str×D)} {vs:List (Str×V)},BA K G fs vs->BA K G' fs vs
 | _,_,.nil=>.nil
 | _,_,.cons h r=>.cons (h.ext e) (BA.ext e r)
def EM (K:PySem.W.Frag) (G:Wd) (H:Hp) (p:Addr):MO->Prop
 | .lst xs=>∃ vs,H p=some (.lst vs)/\Am K G xs vs
 | .ins C fs=>∃ dx vs,H p=some (.ins C dx vs)/\BA K G fs vs
 | .exc C fs h=>∃ ob,H p=some (.ext λh=>h.get? p=some ob)/\(ob.cls=.ref C/\∃ ws,ob.data=.fields ws)/\(fs=[]\/∃ dx vs,ob.dict=some dx/\G.g dx=some (.xd vs)/\BA K G fs vs)/\∀ a,h=some a->p=a/\L2.ctxOf ob=some .none
 | .dct ks xs=>∃ vs,H p=some (.dK (ks.zip vs))/\ks.length=vs.length/\Am K G xs vs
 | .pin ob vs ks xs=>H p=some (.frz ob (.dK (ks.zip vs)))/\ks.length=vs.length/\Am K G xs vs
structure SA (K:PySem.W.Frag) (G:Wd) (H:Hp) (O:Ad):Prop where
 sub:Bw G.g H
 len:G.l.length=O.length
 nd:G.l.Nodup
 liv:∀ a∈G.l,∃ o,H a=some o
 mt:∀ (n:Nat) (m:MO),O[n]?=some (some m)->∃ a,G.l[n]?=some a/\G.g a=none/\EM K G H a m
section
variable {K:PySem.W.Frag} {G G':Wd} {H H':Hp} {O:Ad}
theorem EM.ext {p:Addr} {m:MO} (e:Ah G G') (q:H' p=H p) (h:EM K G H p m):EM K G' H' p m:=by
 cases m with
 | lst xs=>obtain ⟨vs,h1,h2⟩:=h; exact ⟨vs,by rw [q]; exact h1,h2.ext e⟩
 | ins C fs=>obtain ⟨dx,vs,h1,h2⟩:=h; exact ⟨dx,vs,by rw [q]; exact h1,h2.ext e⟩
 | exc C fs ha=>
  obtain ⟨ob,h1,h2,h3,h4⟩:=h
  refine ⟨ob,by rw [q]; exact h1,h2,h3.imp id ?_,h4⟩
  rintro ⟨dx,vs,a1,a2,a3⟩
  exact ⟨dx,vs,a1,e.g _ _ a2,a3.ext e⟩
 | dct ks xs=>obtain ⟨vs,h1,hl,h2⟩:=h; exact ⟨vs,by rw [q]; exact h1,hl,h2.ext e⟩
 | pin ob vs ks xs=>obtain ⟨h1,hl,h2⟩:=h; exact ⟨by rw [q]; exact h1,hl,h2.ext e⟩
theorem EM.some {p:Addr} {m:MO} (h:EM K G H p m):∃ o,H p=some o:=by
 cases m with
 | lst xs=>obtain ⟨vs,h1,h2⟩:=h; exact ⟨_,h1⟩
 | ins C fs=>obtain ⟨dx,vs,h1,h2⟩:=h; exact ⟨_,h1⟩
 | exc C fs ha=>obtain ⟨ob,h1,_⟩:=h; exact ⟨_,h1⟩
 | dct ks xs=>obtain ⟨vs,h1,_⟩:=h; exact ⟨_,h1⟩
 | pin ob vs ks xs=>exact ⟨_,h.1⟩
theorem SA.free {p:Addr} (s:SA K G H O) (h:H p=none):G.g p=none:=s.sub.free h
theorem SA.grow (s:SA K G H O) (e:Bw H H'):SA K G H' O:=
 ⟨s.sub.trans e,s.len,s.nd,λa ha=>let ⟨o,h⟩:=s.liv a ha; ⟨o,e _ _ h⟩,λn m h=>by
  obtain ⟨a,h1,h2,h3⟩:=s.mt n m h
  obtain ⟨o,h4⟩:=h3.some
  exact ⟨a,h1,h2,h3.ext (Ah.refl _) (by rw [h4,e _ _ h4])⟩⟩
theorem GJ {p:Addr} {o:HO} (h:H p=none):Bw H (AN H p o):=λb u q=>by
 rw [A4]; exact q
 rintro rfl; rw [h] at q; cases q
theorem SA.laid {p:Addr} {o:HO} (s:SA K G H O) (h:H p=none):Ah G ⟨AN G.g p o,G.l⟩/\SA K ⟨AN G.g p o,G.l⟩ (AN H p o) O:=by
 have e:Ah G ⟨AN G.g p o,G.l⟩:=⟨GJ (s.free h),[],(List.append_nil _).symm⟩
 refine ⟨e,⟨λb u q=>?_,s.len,s.nd,λa ha=>let ⟨o,q⟩:=s.liv a ha; ⟨o,GJ h _ _ q⟩,λn m hq=>?_⟩⟩
 ·by_cases hb:b=p
  ·subst hb
   have q:AN G.g b o b=some u:=q
   rw [BF] at q; rw [BF]; exact q
  ·have q:AN G.g p o b=some u:=q
   rw [A4 hb] at q ⊢; exact s.sub b u q
 ·obtain ⟨a,h1,h2,h3⟩:=s.mt n m hq
  have ne:a≠p:=by
   rintro rfl; obtain ⟨o,h4⟩:=h3.some; rw [h] at h4; cases h4
  exact ⟨a,h1,by show AN G.g p o a=none; rw [A4 ne]; exact h2,h3.ext e (A4 ne)⟩
theorem SA.new {p:Addr} {o:HO} {m:MO} (s:SA K G H O) (h:H p=none) (r:EM K ⟨G.g,G.l++[p]⟩ (AN H p o) p m):Ah G ⟨G.g,G.l++[p]⟩/\SA K ⟨G.g,G.l++[p]⟩ (AN H p o) (O++[some m]):=by
 have e:Ah G ⟨G.g,G.l++[p]⟩:=⟨Bw.refl _,[p],rfl⟩
 have hp:p∉G.l:=λz=>by obtain ⟨o,q⟩:=s.liv p z; rw [h] at q; cases q
 refine ⟨e,⟨s.sub.trans (GJ h),?_,?_,?_,?_⟩⟩
 ·simp [s.len]
 ·exact List.nodup_append.mpr ⟨s.nd,List.nodup_cons.mpr ⟨List.not_mem_nil,List.nodup_nil⟩,λa ha b hb=>by
   rw [List.mem_singleton] at hb; subst hb; rintro rfl; exact hp ha⟩
 ·intro a ha
  rcases List.mem_append.mp ha with ha | ha
  ·obtain ⟨u,q⟩:=s.liv a ha; exact ⟨u,GJ h _ _ q⟩
  ·rw [List.mem_singleton] at ha; subst ha; exact ⟨_,BF⟩
 ·intro n m' hq
  by_cases hn:n<O.length
  ·rw [List.getElem?_append_left hn] at hq
   obtain ⟨a,h1,h2,h3⟩:=s.mt n m' hq
   have ne:a≠p:=by rintro rfl; exact hp (List.mem_of_getElem? h1)
   exact ⟨a,e.at h1,h2,h3.ext e (A4 ne)⟩
  ·have e1:n=O.length:=by
    have:=(List.getElem?_eq_some_iff.mp hq).1
    rw [List.length_append,List.length_singleton] at this
    omega
   subst e1
   rw [List.getElem?_append_right (Nat.le_refl _),Nat.sub_self] at hq
   cases hq
   exact ⟨p,by show (G.l++[p])[O.length]?=_; rw [<- s.len,List.getElem?_append_right (Nat.le_refl _),Nat.sub_self]; rfl,s.free h,r⟩
theorem SA.put {n:Nat} {p:Addr} {o:HO} {m m':MO} (s:SA K G H O) (h:O[n]?=some (some m)) (hp:G.l[n]?=some p) (r:EM K G (AN H p o) p m'):SA K G (AN H p o) (O.set n (some m')):=by
 obtain ⟨a,h1,h2,h3⟩:=s.mt n m h
 obtain rfl:p=a:=Option.some.inj (hp.symm.trans h1)
 refine ⟨λb u q=>?_,by simp [s.len],s.nd,λb hb=>?_,λk m2 hk=>?_⟩
 ·rw [A4]; exact s.sub b u q
  rintro rfl; rw [h2] at q; cases q
 ·by_cases hbp:b=p
  ·subst hbp; exact ⟨_,BF⟩
  ·obtain ⟨u,q⟩:=s.liv b hb; exact ⟨u,by rw [A4 hbp]; exact q⟩
 ·by_cases hkn:n=k
  ·subst hkn
   rw [List.getElem?_set_self (List.getElem?_eq_some_iff.mp h).1] at hk
   cases hk
   exact ⟨p,hp,h2,r⟩
  ·rw [List.getElem?_set_ne hkn] at hk
   obtain ⟨b,g1,g2,g3⟩:=s.mt k m2 hk
   have ne:b≠p:=by
    rintro rfl
    exact hkn ((List.getElem?_inj (List.getElem?_eq_some_iff.mp hp).1 s.nd).mp (hp.trans g1.symm))
   exact ⟨b,g1,g2,g3.ext (Ah.refl _) (A4 ne)⟩
end
abbrev Aj:=List (Option D)
structure AH (K:PySem.W.Frag) (G:Wd) (σ:L2.St) (ρ:Aj):Prop where
 len:σ.length=ρ.length
 get:∀ (i:Nat) (d:D),ρ[i]?=some (some d)->∃ v,σ[i]?=some (some v)/\Is K G d v
theorem AH.ext {K:PySem.W.Frag} {G G':Wd} {σ:L2.St} {ρ:Aj} (e:Ah G G') (h:AH K G σ ρ):AH K G' σ ρ:=
 ⟨h.len,λi d q=>let ⟨v,h1,h2⟩:=h.get i d q; ⟨v,h1,h2.ext e⟩⟩
theorem AH.set {K:PySem.W.Frag} {G:Wd} {σ:L2.St} {ρ:Aj} {d:D} {v:V} (i:Nat) (h:AH K G σ ρ) (q:Is K G d v):AH K G (σ.set i (some v)) (ρ.set i (some d)):=by
 refine ⟨by simp [h.len],λj e hj=>?_⟩
 by_cases hij:i=j
 ·subst hij
  by_cases hl:i<ρ.length
  ·rw [List.getElem?_set_self hl] at hj
   cases hj
   exact ⟨v,List.getElem?_set_self (by rw [h.len]; exact hl),q⟩
  ·rw [List.getElem?_eq_none (by simp; omega)] at hj; cases hj
 ·rw [List.getElem?_set_ne hij] at hj ⊢
  exact h.get j e hj
def Ev (X:Cx) (ρ:Aj) (O:Ad) (e:Expr) (R:D->Ad->Prop):Prop:=
 ∀ G,PE X e (λσ H Q=>SA X.K G H O/\AH X.K G σ ρ/\∀ v d O' G' H',Ah G G'->SA X.K G' H' O'->Is X.K G' d v->R d O'->Q v H')
def Ae (X:Cx) (ρ:Aj) (O:Ad) (e:Expr) (d:D):Prop:=
 ∀ G,PE X e (λσ H Q=>SA X.K G H O/\AH X.K G σ ρ/\∀ v G' H',Ah G G'->SA X.K G' H' O->Is X.K G' d v->Q v H')
def AU (X:Cx) (ρ:Aj) (O:Ad) (e:Expr) (b:Bool):Prop:=
 ∀ G,PT X e (λσ H Q=>SA X.K G H O/\AH X.K G σ ρ/\∀ G' H',Ah G G'->SA X.K G' H' O->Q b H')
def BB (X:Cx) (ρ:Aj) (O:Ad) (e:Expr) (b:Bool):Prop:=
 ∀ G,PW X e (λσ H Q=>SA X.K G H O/\AH X.K G σ ρ/\∀ G' H',Ah G G'->SA X.K G' H' O->Q b H')
def Fs (X:Cx) (ρ:Aj) (O:Ad) (es:List Expr) (R:List D->Ad->Prop):Prop:=
 ∀ G,PA X es (λσ H Q=>SA X.K G H O/\AH X.K G σ ρ/\∀ vs ds O' G' H',Ah G G'->SA X.K G' H' O'->Am X.K G' ds vs->R ds O'->Q vs H')
theorem _root_.L2.PE.imp {X:Cx} {e:Expr} {t u:TE} (h:PE X e t) (k:∀ σ H Q,u σ H Q->t σ H Q):PE X e u:=λpins s σ H Q I q=>h pins s σ H Q I (k _ _ _ q)
theorem _root_.L2.PT.imp {X:Cx} {e:Expr} {t u:TT} (h:PT X e t) (k:∀ σ H Q,u σ H Q->t σ H Q):PT X e u:=λpins s σ H Q I q=>h pins s σ H Q I (k _ _ _ q)
theorem _root_.L2.PA.imp {X:Cx} {es:List Expr} {t u:TA} (h:PA X es t) (k:∀ σ H Q,u σ H Q->t σ H Q):PA X es u:=λpos pins s σ H Q I q=>h pos pins s σ H Q I (k _ _ _ q)
theorem _root_.L2.PS.imp {X:Cx} {e:Stmt} {t u:TS} (h:PS X e t) (k:∀ D σ H,u D σ H->t D σ H):PS X e u:=λpins s σ H D I q=>h pins s σ H D I (k _ _ _ q)
theorem _root_.L2.PSs.imp {X:Cx} {e:List Stmt} {t u:TS} (h:PSs X e t) (k:∀ D σ H,u D σ H->t D σ H):PSs X e u:=λpins s σ H D I q=>h pins s σ H D I (k _ _ _ q)
section
variable {X:Cx} {ρ:Aj} {O:Ad} {e a b c:Expr} {d da db:D} {R:D->Ad->Prop} {pos:Pos}
theorem Ae.ev (h:Ae X ρ O e d) (r:R d O):Ev X ρ O e R:=λG=>(h G).imp λσ H Q ⟨s,n,k⟩=>⟨s,n,λv G' H' e1 s' i=>k v d O G' H' e1 s' i r⟩
theorem Ev.evp (h:Ev X ρ O e λd' O'=>d'=d/\O'=O):Ae X ρ O e d:=λG=>(h G).imp λσ H Q ⟨s,n,k⟩=>⟨s,n,λv d' O' G' H' e1 s' i r=>by obtain ⟨rfl,rfl⟩:=r; exact k v G' H' e1 s' i⟩
theorem Ae.cast {d':D} (h:Ae X ρ O e d) (q:d=d'):Ae X ρ O e d':=q ▸ h
theorem BB.t (h:BB X ρ O e b'):AU X ρ O e b':=λG=>(h G).pt
theorem AU.cast {k k':Bool} (h:AU X ρ O e k) (q:k=k'):AU X ρ O e k':=q ▸ h
theorem Aa (i:Nat) {x:Str} {p:Pos} (hr:ρ[i]?=some (some d):=by rfl) (hN:X.N[i]?=some x:=by rfl) (hv:Em X.env.scope x:=by first | exact Or.inl rfl | exact Or.inr (Or.inl rfl) | exact Or.inr (Or.inr rfl))
  (hd:(x==("__debug__" : Str))=false:=by decide) (hcd:(x==("__classdict__" : Str))=false:=by decide):Ae X ρ O (.Name x p) d:=λG=>
 PE.imp (U1 hN hv hd hcd) λσ H Q ⟨s,n,k⟩=>by
  obtain ⟨v,e1,i1⟩:=n.get i d hr
  exact ⟨v,e1,k v G H (Ah.refl _) s i1⟩
theorem Ag {i:Int} {j:Nat}:Ae X ρ O (.Constant (.int i) j pos) (.int i):=λG=>PE.imp Va λσ H Q ⟨s,n,k⟩=>k _ G H (Ah.refl _) s (.int i)
theorem IP {i:Bool} {j:Nat}:Ae X ρ O (.Constant (.bool i) j pos) (.bl i):=λG=>PE.imp Ve λσ H Q ⟨s,n,k⟩=>k _ G H (Ah.refl _) s (.bl i)
theorem Dd {j:Nat}:Ae X ρ O (.Constant .none j pos) .non:=λG=>PE.imp U7 λσ H Q ⟨s,n,k⟩=>k _ G H (Ah.refl _) s .non
theorem Fe {x:Str} {j:Nat}:Ae X ρ O (.Constant (.str x) j pos) (.str x):=λG=>PE.imp U3 λσ H Q ⟨s,n,k⟩=>k _ G H (Ah.refl _) s (.str x)
def BE (X:Cx) (O:Ad) (f:Value->Value->Sem Value) (da db d:D):Prop:=
 ∀ G,B2 X f (λv u H Q=>SA X.K G H O/\Is X.K G da v/\Is X.K G db u/\∀ w G' H',Ah G G'->SA X.K G' H' O->Is X.K G' d w->Q w H')
theorem BE.of {f:Value->Value->Sem Value} {r:R2} (ho:B2 X f r)
  (k:∀ G v u H Q,SA X.K G H O->Is X.K G da v->Is X.K G db u->(∀ w G' H',Ah G G'->SA X.K G' H' O->Is X.K G' d w->Q w H')->r v u H Q):BE X O f da db d:=
 λG pins s σ H x y v u Q I rx ry ⟨h1,h2,h3,h4⟩=>ho pins s σ H x y v u Q I rx ry (k G _ _ _ _ h1 h2 h3 h4)
theorem Ai {op:Operator} (ha:Ae X ρ O a da) (hb:Ae X ρ O b db) (ho:BE X O (binaryOp op) da db d):Ae X ρ O (.BinOp a op b pos) d:=λG pins s σ H Q I ⟨h1,h2,h3⟩=>
 wpAny_BinOp (IZ (ta:=λσ H Q=>SA X.K G H O/\AH X.K G σ ρ/\∀ v G' H',Ah G G'->SA X.K G' H' O->Is X.K G' da v->Q v H') (ha G)
  (tb:=λσ H Q=>∃ G1 v0,SA X.K G1 H O/\AH X.K G1 σ ρ/\∀ v G' H',Ah G1 G'->SA X.K G' H' O->Is X.K G' db v->Q v H') (λpins s σ H Q I ⟨G1,_,q⟩=>hb G1 pins s σ H Q I q) I
  (R:=λx y H2=>∃ G2,Ah G G2/\SA X.K G2 H2 O/\Is X.K G2 da x/\Is X.K G2 db y)
  ⟨h1,h2,λv G1 H1 e1 s1 i1=>⟨G1,(0:Nat),s1,h2.ext e1,λu G2 H2 e2 s2 i2=>⟨G2,e1.trans e2,s2,i1.ext e2,i2⟩⟩⟩
  λv u s2 x y H2 I2 rx ry ⟨G2,e2,s2',i1,i2⟩=>ho G2 pins s2 σ H2 x y v u Q I2 rx ry ⟨s2',i1,i2,λw G3 H3 e3 s3 i3=>h3 w G3 H3 (e2.trans e3) s3 i3⟩)
theorem Pj {f:Value->Value->Sem Value} {g:Int->Int->Int} {i j:Int} (ho:B2 X f (DO λi j=>.int (g i j))):BE X O f (.int i) (.int j) (.int (g i j)):=
 .of ho λG v u H Q s h1 h2 k=>by cases h1; cases h2; exact ⟨i,j,rfl,rfl,k _ G H (Ah.refl _) s (.int _)⟩
theorem Lz {f:Value->Value->Sem Value} {C:Int->Int->Prop} {g:Int->Int->Int} {i j:Int} (ho:B2 X f (rI C λi j=>.int (g i j))) (hc:C i j):BE X O f (.int i) (.int j) (.int (g i j)):=
 .of ho λG v u H Q s h1 h2 k=>by cases h1; cases h2; exact ⟨i,j,rfl,rfl,hc,k _ G H (Ah.refl _) s (.int _)⟩
theorem Iu {f:Value->Value->Sem Value} {g:Int->Int->Bool} {i j:Int} (ho:B2 X f (DO λi j=>.bl (g i j))):BE X O f (.int i) (.int j) (.bl (g i j)):=
 .of ho λG v u H Q s h1 h2 k=>by cases h1; cases h2; exact ⟨i,j,rfl,rfl,k _ G H (Ah.refl _) s (.bl _)⟩
theorem Bl {i j:Int}:BE X O (binaryOp .Add) (.int i) (.int j) (.int (i+j)):=Pj Vs
theorem Dm {i j:Int}:BE X O (binaryOp .Sub) (.int i) (.int j) (.int (i-j)):=Pj Vf
theorem Vi:B2 X (binaryOp .Mult) (rI IntMulOk λi j=>.int (i*j)):=Ly λ_ _ _ _ _ _ _ hc q=>mul_int q hc
theorem BH {i j:Int} (h:IntMulOk i j):BE X O (binaryOp .Mult) (.int i) (.int j) (.int (i*j)):=Lz Vi h
theorem B6 {i j:Int} (h:Rh i j):BE X O (binaryOp .FloorDiv) (.int i) (.int j) (.int (i/j)):=Lz Vq h
theorem Bh {i j:Int} (h:0<j):BE X O (binaryOp .Mod) (.int i) (.int j) (.int (i%j)):=Lz (C:=λ_ j=>0<j) Vj h
theorem Ge {i j:Int}:BE X O (compareOp .Lt) (.int i) (.int j) (.bl (decide (i<j))):=Iu Vk
theorem EH {i j:Int}:BE X O (compareOp .LtE) (.int i) (.int j) (.bl (decide (i<=j))):=Iu Vl
theorem EI {i j:Int}:BE X O (compareOp .Gt) (.int i) (.int j) (.bl (decide (j<i))):=Iu Vo
theorem Zu {i j:Int}:BE X O (compareOp .GtE) (.int i) (.int j) (.bl (decide (j<=i))):=Iu Vp
theorem QA {i j:Int}:decide (V.int i=V.int j)=decide (i=j):=by
 by_cases h:i=j
 ·subst h; rw [decide_eq_true rfl,decide_eq_true rfl]
 ·rw [decide_eq_false h,decide_eq_false]; intro z; injection z with z; exact h z
theorem A5 {i j:Int}:BE X O (compareOp .Eq) (.int i) (.int j) (.bl (decide (i=j))):=
 .of Vr λG v u H Q s h1 h2 k=>by cases h1; cases h2; exact ⟨rfl,by rw [QA]; exact k _ G H (Ah.refl _) s (.bl _)⟩
theorem Gd {i j:Int}:BE X O (compareOp .NotEq) (.int i) (.int j) (.bl (!decide (i=j))):=
 .of Vh λG v u H Q s h1 h2 k=>by cases h1; cases h2; exact ⟨rfl,by rw [QA]; exact k _ G H (Ah.refl _) s (.bl _)⟩
def Cv:D->Bool
 | .non=>true
 | _=>false
theorem PU {K:PySem.W.Frag} {G:Wd} {v:V} (h:Is K G d v):decide (v=V.non)=Cv d:=by
 cases h <;> first | rfl | exact decide_eq_false (λz=>by cases z)
theorem Fk:BE X O (compareOp .Is) da .non (.bl (Cv da)):=
 .of Vm λG v u H Q s h1 h2 k=>by cases h2; exact ⟨rfl,by rw [PU h1]; exact k _ G H (Ah.refl _) s (.bl _)⟩
theorem IY:BE X O (compareOp .IsNot) da .non (.bl (!Cv da)):=
 .of Vg λG v u H Q s h1 h2 k=>by cases h2; exact ⟨rfl,by rw [PU h1]; exact k _ G H (Ah.refl _) s (.bl _)⟩
theorem C3 {op:CmpOp} (ha:Ae X ρ O a da) (hb:Ae X ρ O b db) (ho:BE X O (compareOp op) da db d) (hm:behindInMarks op b=false:=by first | exact Pk _ | (with_unfolding_all rfl)):Ae X ρ O (.Compare a [op] [b] pos) d:=λG pins s σ H Q I ⟨h1,h2,h3⟩=>
 wpAny_Compare1 (IZ (ta:=λσ H Q=>SA X.K G H O/\AH X.K G σ ρ/\∀ v G' H',Ah G G'->SA X.K G' H' O->Is X.K G' da v->Q v H') (ha G)
  (tb:=λσ H Q=>∃ G1 v0,SA X.K G1 H O/\AH X.K G1 σ ρ/\∀ v G' H',Ah G1 G'->SA X.K G' H' O->Is X.K G' db v->Q v H') (λpins s σ H Q I ⟨G1,_,q⟩=>hb G1 pins s σ H Q I q) I
  (R:=λx y H2=>∃ G2,Ah G G2/\SA X.K G2 H2 O/\Is X.K G2 da x/\Is X.K G2 db y)
  ⟨h1,h2,λv G1 H1 e1 s1 i1=>⟨G1,(0:Nat),s1,h2.ext e1,λu G2 H2 e2 s2 i2=>⟨G2,e1.trans e2,s2,i1.ext e2,i2⟩⟩⟩
  λv u s2 x y H2 I2 rx ry ⟨G2,e2,s2',i1,i2⟩=>ho G2 pins s2 σ H2 x y v u Q I2 rx ry ⟨s2',i1,i2,λw G3 H3 e3 s3 i3=>h3 w G3 H3 (e2.trans e3) s3 i3⟩) hm
theorem AM {op:CmpOp} {k:Bool} (ha:Ae X ρ O a da) (hb:Ae X ρ O b db) (ho:BE X O (compareOp op) da db (.bl k)) (hm:behindInMarks op b=false:=by first | exact Pk _ | (with_unfolding_all rfl)):AU X ρ O (.Compare a [op] [b] pos) k:=λG pins s σ H Q I ⟨h1,h2,h3⟩=>by
 refine wpAny_isTrue_Compare1 (Ar (ha G pins s σ H _ I ⟨h1,h2,λv G1 H1 e1 s1 i1=>(⟨G1,e1,s1,i1⟩:∃ G1,Ah G G1/\SA X.K G1 H1 O/\Is X.K G1 da v)⟩) λv s1 ⟨x,H1,I1,r1,G1,e1,sa1,i1⟩=>
  Ar (hb G1 pins s1 σ H1 _ I1 ⟨sa1,h2.ext e1,λu G2 H2 e2 s2 i2=>(⟨G2,e2,s2,i2⟩:∃ G2,Ah G1 G2/\SA X.K G2 H2 O/\Is X.K G2 db u)⟩) λu s2 ⟨y,H2,I2,r2,G2,e2,sa2,i2⟩=>
  Ar (ho G2 pins s2 σ H2 x y v u _ I2 r1 r2 ⟨sa2,i1.ext e2,i2,λw G3 H3 e3 s3 i3=>(⟨G3,e3,s3,i3⟩:∃ G3,Ah G2 G3/\SA X.K G3 H3 O/\Is X.K G3 (.bl k) w)⟩) λc s3 ⟨z,H3,I3,r3,G3,e3,sa3,i3⟩=>?_) hm
 cases i3
 cases r3
 exact wpAny_truthy_bool ⟨H3,I3,h3 G3 H3 ((e1.trans e2).trans e3) sa3⟩
theorem Cz {k:Bool} (ha:Ae X ρ O a (.bl k)) (he:∀ whole,isTrue a X.env whole=(do let v <- whole; standAt a.pos; holding [v] (truthy v)):=by intro _; rfl):AU X ρ O a k:=λG=>
 (UC (ha G) he).imp λσ H Q ⟨h1,h2,h3⟩=>⟨h1,h2,λv G' H' e1 s1 i1=>by cases i1; exact ⟨k,rfl,h3 G' H' e1 s1⟩⟩
theorem CQ {k:Bool} (ha:AU X ρ O a k):AU X ρ O (.UnaryOp .Not a pos) (!k):=λG=>
 (UD (ha G)).imp λσ H Q ⟨h1,h2,h3⟩=>⟨h1,h2,λG' H' e1 s1=>h3 G' H' e1 s1⟩
theorem EF {k:Bool} (ha:AU X ρ O a k):BB X ρ O (.BoolOp .And [a] pos) k:=λG=>Um (ha G)
theorem Dp {k:Bool} (ha:AU X ρ O a k):BB X ρ O (.BoolOp .Or [a] pos) k:=λG=>Ul (ha G)
theorem Ei {k l:Bool} {rest:List Expr} (ha:AU X ρ O a k) (hb:k=true->BB X ρ O (.BoolOp .And (b::rest) pos) l):BB X ρ O (.BoolOp .And (a::b::rest) pos) (k&&l):=λG wh pins s σ H Q I ⟨h1,h2,h3⟩=>by
 refine isTrue_and (Ar (ha G pins s σ H (λc H1=>c=k/\∃ G1,Ah G G1/\SA X.K G1 H1 O) I ⟨h1,h2,λG1 H1 e1 s1=>⟨rfl,G1,e1,s1⟩⟩) ?_)
 rintro c s1 ⟨H1,I1,rfl,G1,e1,sa1⟩
 cases c with
 | false=>exact ⟨H1,I1,h3 G1 H1 e1 sa1⟩
 | true=>exact hb rfl G1 wh pins s1 σ H1 Q I1 ⟨sa1,h2.ext e1,λG2 H2 e2 s2=>h3 G2 H2 (e1.trans e2) s2⟩
theorem Dc {k l:Bool} {rest:List Expr} (ha:AU X ρ O a k) (hb:k=false->BB X ρ O (.BoolOp .Or (b::rest) pos) l):BB X ρ O (.BoolOp .Or (a::b::rest) pos) (k||l):=λG wh pins s σ H Q I ⟨h1,h2,h3⟩=>by
 refine isTrue_or (Ar (ha G pins s σ H (λc H1=>c=k/\∃ G1,Ah G G1/\SA X.K G1 H1 O) I ⟨h1,h2,λG1 H1 e1 s1=>⟨rfl,G1,e1,s1⟩⟩) ?_)
 rintro c s1 ⟨H1,I1,rfl,G1,e1,sa1⟩
 cases c with
 | true=>exact ⟨H1,I1,h3 G1 H1 e1 sa1⟩
 | false=>exact hb rfl G1 wh pins s1 σ H1 Q I1 ⟨sa1,h2.ext e1,λG2 H2 e2 s2=>h3 G2 H2 (e1.trans e2) s2⟩
theorem DC {op:BoolOp} (ha:Ae X ρ O a d):Ae X ρ O (.BoolOp op [a] pos) d:=λG=>U5 (ha G)
theorem DE {k l:Bool} {rest:List Expr} (ha:Ae X ρ O a (.bl k)) (hb:k=true->Ae X ρ O (.BoolOp .And (b::rest) pos) (.bl l)):Ae X ρ O (.BoolOp .And (a::b::rest) pos) (.bl (k&&l)):=λG pins s σ H Q I ⟨h1,h2,h3⟩=>by
 refine BoolOp_and (Ar (ha G pins s σ H (λv H1=>∃ G1,Ah G G1/\SA X.K G1 H1 O/\Is X.K G1 (.bl k) v) I ⟨h1,h2,λv G1 H1 e1 s1 i1=>⟨G1,e1,s1,i1⟩⟩) ?_)
 rintro v s1 ⟨x,H1,I1,r1,G1,e1,sa1,i1⟩
 cases i1
 cases r1
 refine wpAny_truthy_bool ?_
 cases k with
 | false=>exact ⟨.bl false,H1,I1,rfl,h3 _ G1 H1 e1 sa1 (.bl _)⟩
 | true=>exact hb rfl G1 pins s1 σ H1 Q I1 ⟨sa1,h2.ext e1,λw G2 H2 e2 s2 i2=>h3 w G2 H2 (e1.trans e2) s2 i2⟩
theorem Qh {k l:Bool} {rest:List Expr} (ha:Ae X ρ O a (.bl k)) (hb:k=false->Ae X ρ O (.BoolOp .Or (b::rest) pos) (.bl l)):Ae X ρ O (.BoolOp .Or (a::b::rest) pos) (.bl (k||l)):=λG pins s σ H Q I ⟨h1,h2,h3⟩=>by
 refine BoolOp_or (Ar (ha G pins s σ H (λv H1=>∃ G1,Ah G G1/\SA X.K G1 H1 O/\Is X.K G1 (.bl k) v) I ⟨h1,h2,λv G1 H1 e1 s1 i1=>⟨G1,e1,s1,i1⟩⟩) ?_)
 rintro v s1 ⟨x,H1,I1,r1,G1,e1,sa1,i1⟩
 cases i1
 cases r1
 refine wpAny_truthy_bool ?_
 cases k with
 | true=>exact ⟨.bl true,H1,I1,rfl,h3 _ G1 H1 e1 sa1 (.bl _)⟩
 | false=>exact hb rfl G1 pins s1 σ H1 Q I1 ⟨sa1,h2.ext e1,λw G2 H2 e2 s2 i2=>h3 w G2 H2 (e1.trans e2) s2 i2⟩
theorem L3 {k:Bool} (ha:Ae X ρ O a (.bl k)):Ae X ρ O (.UnaryOp .Not a pos) (.bl (!k)):=λG=>(U6 (ha G)).imp λσ H Q ⟨h1,h2,h3⟩=>⟨h1,h2,λv G1 H1 e1 s1 i1=>by
 cases i1
 exact ⟨k,rfl,h3 _ G1 H1 e1 s1 (.bl _)⟩⟩
theorem L5 {k:Bool} (hc:AU X ρ O c k) (ha:k=true->Ae X ρ O a da) (hb:k=false->Ae X ρ O b db):Ae X ρ O (.IfExp c a b pos) (if k=true then da else db):=λG pins s σ H Q I ⟨h1,h2,h3⟩=>by
 cases k with
 | true=>
  exact (OV (tA:=λσ H Q=>SA X.K G H O/\AH X.K G σ ρ/\∀ G' H',Ah G G'->SA X.K G' H' O->Q true H') (hc G) (λpins s σ H Q I (q:∃ G1,SA X.K G1 H O/\AH X.K G1 σ ρ/\∀ v G' H',Ah G1 G'->SA X.K G' H' O->Is X.K G' da v->Q v H')=>let ⟨G1,q⟩:=q; ha rfl G1 pins s σ H Q I q)
   (λpins s σ H Q I (q:False)=>q.elim)) pins s σ H Q I ⟨h1,h2,λG1 H1 e1 s1=>LO ⟨G1,s1,h2.ext e1,λv G2 H2 e2 s2 i2=>h3 v G2 H2 (e1.trans e2) s2 i2⟩⟩
 | false=>
  exact (OV (tA:=λσ H Q=>SA X.K G H O/\AH X.K G σ ρ/\∀ G' H',Ah G G'->SA X.K G' H' O->Q false H') (hc G) (λpins s σ H Q I (q:False)=>q.elim)
   (λpins s σ H Q I (q:∃ G1,SA X.K G1 H O/\AH X.K G1 σ ρ/\∀ v G' H',Ah G1 G'->SA X.K G' H' O->Is X.K G' db v->Q v H')=>let ⟨G1,q⟩:=q; hb rfl G1 pins s σ H Q I q)) pins s σ H Q I ⟨h1,h2,λG1 H1 e1 s1=>LP ⟨G1,s1,h2.ext e1,λv G2 H2 e2 s2 i2=>h3 v G2 H2 (e1.trans e2) s2 i2⟩⟩
theorem YM {op op':CmpOp} {k l:Bool} {dc:D} (ha:Ae X ρ O a da) (hb:Ae X ρ O b db) (hc:Ae X ρ O c dc) (ho:BE X O (compareOp op) da db (.bl k)) (ho':k=true->BE X O (compareOp op') db dc (.bl l))
  (hm:lastMarks [op,op'] [b,c]=false:=by with_unfolding_all rfl):Ae X ρ O (.Compare a [op,op'] [b,c] pos) (.bl (k&&l)):=λG pins s σ H Q I ⟨h1,h2,h3⟩=>by
 refine Compare_chain (Ar (ha G pins s σ H (λv H1=>∃ G1,Ah G G1/\SA X.K G1 H1 O/\Is X.K G1 da v) I ⟨h1,h2,λv G1 H1 e1 s1 i1=>⟨G1,e1,s1,i1⟩⟩) ?_) hm
 rintro v s1 ⟨x,H1,I1,r1,G1,e1,sa1,i1⟩
 refine chain_link (Ar (hb G1 pins s1 σ H1 (λv H2=>∃ G2,Ah G1 G2/\SA X.K G2 H2 O/\Is X.K G2 db v) I1 ⟨sa1,h2.ext e1,λv G2 H2 e2 s2 i2=>⟨G2,e2,s2,i2⟩⟩) ?_)
 rintro u s2 ⟨y,H2,I2,r2,G2,e2,sa2,i2⟩
 refine Ar (ho G2 pins s2 σ H2 x y v u (λw H3=>∃ G3,Ah G2 G3/\SA X.K G3 H3 O/\Is X.K G3 (.bl k) w) I2 r1 r2 ⟨sa2,i1.ext e2,i2,λw G3 H3 e3 s3 i3=>⟨G3,e3,s3,i3⟩⟩) ?_
 rintro w s3 ⟨z,H3,I3,r3,G3,e3,sa3,i3⟩
 cases i3
 cases r3
 refine wpAny_truthy_bool ?_
 cases k with
 | false=>exact ite_ff ⟨.bl false,H3,I3,rfl,h3 _ G3 H3 ((e1.trans e2).trans e3) sa3 (.bl _)⟩
 | true=>
  refine ite_tt (chain_last (Ar (hc G3 pins s3 σ H3 (λv H4=>∃ G4,Ah G3 G4/\SA X.K G4 H4 O/\Is X.K G4 dc v) I3 ⟨sa3,h2.ext ((e1.trans e2).trans e3),λv G4 H4 e4 s4 i4=>⟨G4,e4,s4,i4⟩⟩) ?_))
  rintro q s4 ⟨z',H4,I4,r4,G4,e4,sa4,i4⟩
  exact ho' rfl G4 pins s4 σ H4 y z' u q Q I4 r2 r4 ⟨sa4,i2.ext (e3.trans e4),i4,λw G5 H5 e5 s5 i5=>h3 w G5 H5 ((((e1.trans e2).trans e3).trans e4).trans e5) s5 i5⟩
theorem YS {op op':CmpOp} {k l:Bool} {dc:D} (ha:Ae X ρ O a da) (hb:Ae X ρ O b db) (hc:Ae X ρ O c dc) (ho:BE X O (compareOp op) da db (.bl k)) (ho':k=true->BE X O (compareOp op') db dc (.bl l))
  (hm:lastMarks [op,op'] [b,c]=false:=by with_unfolding_all rfl):AU X ρ O (.Compare a [op,op'] [b,c] pos) (k&&l):=λG pins s σ H Q I ⟨h1,h2,h3⟩=>by
 refine isTrue_chain (Ar (ha G pins s σ H (λv H1=>∃ G1,Ah G G1/\SA X.K G1 H1 O/\Is X.K G1 da v) I ⟨h1,h2,λv G1 H1 e1 s1 i1=>⟨G1,e1,s1,i1⟩⟩) ?_) hm
 rintro v s1 ⟨x,H1,I1,r1,G1,e1,sa1,i1⟩
 refine test_link (Ar (hb G1 pins s1 σ H1 (λv H2=>∃ G2,Ah G1 G2/\SA X.K G2 H2 O/\Is X.K G2 db v) I1 ⟨sa1,h2.ext e1,λv G2 H2 e2 s2 i2=>⟨G2,e2,s2,i2⟩⟩) ?_)
 rintro u s2 ⟨y,H2,I2,r2,G2,e2,sa2,i2⟩
 refine Ar (ho G2 pins s2 σ H2 x y v u (λw H3=>∃ G3,Ah G2 G3/\SA X.K G3 H3 O/\Is X.K G3 (.bl k) w) I2 r1 r2 ⟨sa2,i1.ext e2,i2,λw G3 H3 e3 s3 i3=>⟨G3,e3,s3,i3⟩⟩) ?_
 rintro w s3 ⟨z,H3,I3,r3,G3,e3,sa3,i3⟩
 cases i3
 cases r3
 refine wpAny_truthy_bool ?_
 cases k with
 | false=>exact ite_ff ⟨H3,I3,h3 G3 H3 ((e1.trans e2).trans e3) sa3⟩
 | true=>
  refine ite_tt (test_last (Ar (hc G3 pins s3 σ H3 (λv H4=>∃ G4,Ah G3 G4/\SA X.K G4 H4 O/\Is X.K G4 dc v) I3 ⟨sa3,h2.ext ((e1.trans e2).trans e3),λv G4 H4 e4 s4 i4=>⟨G4,e4,s4,i4⟩⟩) ?_))
  rintro q s4 ⟨z',H4,I4,r4,G4,e4,sa4,i4⟩
  refine Ar (ho' rfl G4 pins s4 σ H4 y z' u q (λw H5=>∃ G5,Ah G4 G5/\SA X.K G5 H5 O/\Is X.K G5 (.bl l) w) I4 r2 r4 ⟨sa4,i2.ext (e3.trans e4),i4,λw G5 H5 e5 s5 i5=>⟨G5,e5,s5,i5⟩⟩) ?_
  rintro q' s5 ⟨z2,H5,I5,r5,G5,e5,sa5,i5⟩
  cases i5
  cases r5
  exact wpAny_truthy_bool ⟨H5,I5,h3 G5 H5 ((((e1.trans e2).trans e3).trans e4).trans e5) sa5⟩
end
def LV (O:Ad) (d:D) (xs:List D):Prop:=d=.lst xs\/d=.scr xs\/∃ n,d=.ptr n/\O[n]?=some (some (.lst xs))
def LT (O:Ad) (d:D) (xs:List D):Prop:=LV O d xs\/d=.tup xs
theorem LV.sq {K:PySem.W.Frag} {G:Wd} {H:Hp} {O:Ad} {d:D} {xs:List D} {v:V} (h:LV O d xs) (s:SA K G H O) (i:Is K G d v):∃ a vs,v=.ref a/\Ba K H a vs/\Am K G xs vs:=by
 rcases h with rfl | rfl | ⟨p,rfl,h⟩
 ·cases i with | lst h r=>exact ⟨_,_,rfl,Ba.of (s.sub _ _ h),r⟩
 ·cases i with | scr h r=>exact ⟨_,_,rfl,s.sub.seq h,r⟩
 ·cases i with
  | ptr _ q=>
   obtain ⟨a,e,_,vs,h1,h2⟩:=s.mt p _ h
   obtain rfl:=Option.some.inj (q.symm.trans e)
   exact ⟨_,vs,rfl,Ba.of h1,h2⟩
theorem Fy {K:PySem.W.Frag} {G:Wd} {H:Hp} {O:Ad} {xs:List D} {v:V} (s:SA K G H O) (i:Is K G (.tup xs) v):∃ a vs,v=.ref a/\Bu K H a vs/\Am K G xs vs:=by
 cases i with | tup h r=>exact ⟨_,_,rfl,Dj s.sub h,r⟩
def BZ (X:Cx) (ρ:Aj) (O:Ad) (es:List Expr) (ds:List D):Prop:=
 ∀ G,PA X es (λσ H Q=>SA X.K G H O/\AH X.K G σ ρ/\∀ vs G' H',Ah G G'->SA X.K G' H' O->Am X.K G' ds vs->Q vs H')
section
variable {X:Cx} {ρ:Aj} {O:Ad} {e a b c:Expr} {es:List Expr} {d da db:D} {ds:List D} {R:D->Ad->Prop} {pos p:Pos} {x:Str}
theorem Af:BZ X ρ O [] []:=λG=>PA.imp Io λσ H Q ⟨h1,h2,h3⟩=>h3 _ G H (Ah.refl _) h1 .nil
theorem Ab (he:Ae X ρ O e d) (hs:BZ X ρ O es ds) (hst:starEach (e::es) X.env=(false,eval e X.env)::starEach es X.env:=by rfl):BZ X ρ O (e::es) (d::ds):=λG=>
 PA.imp (FY (he G) (t:=λσ H Q=>∃ G1,SA X.K G1 H O/\AH X.K G1 σ ρ/\∀ vs G' H',Ah G1 G'->SA X.K G' H' O->Am X.K G' ds vs->Q vs H') (λpos pins s σ H Q I ⟨G1,q⟩=>hs G1 pos pins s σ H Q I q) hst)
  λσ H Q ⟨h1,h2,h3⟩=>⟨h1,h2,λv G1 H1 e1 s1 i1=>⟨G1,s1,h2.ext e1,λvs G2 H2 e2 s2 i2=>h3 _ G2 H2 (e1.trans e2) s2 (.cons (i1.ext e2) i2)⟩⟩
theorem Hb {R:List D->Ad->Prop} (he:Ev X ρ O e λd O1=>Fs X ρ O1 es λds O2=>R (d::ds) O2) (hst:starEach (e::es) X.env=(false,eval e X.env)::starEach es X.env:=by rfl):Fs X ρ O (e::es) R:=λG=>
 PA.imp (FY (he G) (t:=λσ H Q=>∃ G1 d O1,SA X.K G1 H O1/\AH X.K G1 σ ρ/\(Fs X ρ O1 es λds O2=>R (d::ds) O2)/\∀ vs ds O2 G' H',Ah G1 G'->SA X.K G' H' O2->Am X.K G' ds vs->R (d::ds) O2->Q vs H') (λpos pins s σ H Q I ⟨G1,d,O1,q1,q2,q3,q4⟩=>q3 G1 pos pins s σ H Q I ⟨q1,q2,q4⟩) hst)
  λσ H Q ⟨h1,h2,h3⟩=>⟨h1,h2,λv d O1 G1 H1 e1 s1 i1 r1=>⟨G1,d,O1,s1,h2.ext e1,r1,λvs ds O2 G2 H2 e2 s2 i2 r2=>h3 _ (d::ds) O2 G2 H2 (e1.trans e2) s2 (.cons (i1.ext e2) i2) r2⟩⟩
theorem BZ.as {R:List D->Ad->Prop} (h:BZ X ρ O es ds) (r:R ds O):Fs X ρ O es R:=λG=>PA.imp (h G) λσ H Q ⟨h1,h2,h3⟩=>⟨h1,h2,λvs G' H' e1 s1 i1=>h3 vs ds O G' H' e1 s1 i1 r⟩
theorem Dq {x1:Nat} (h:BZ X ρ O es ds) (hz:ds.length<=sizeLine:=by exact Nat.le_of_ble_eq_true rfl):Ae X ρ O (.Tuple es x1 pos) (.tup ds):=λG=>
 PE.imp (U2 (h G)) λσ H Q ⟨h1,h2,h3⟩=>⟨h1,h2,λvs G1 H1 e1 s1 i1=>⟨by rw [<- i1.length]; exact hz,λp hp=>by
  obtain ⟨e2,s2⟩:=s1.laid (o:=.tup vs) hp
  exact h3 _ _ _ (e1.trans e2) s2 (.tup (Bu.of BF) (i1.ext e2))⟩⟩
theorem L4 (h:BZ X ρ O es ds) (hz:ds.length<=sizeLine:=by exact Nat.le_of_ble_eq_true rfl):Ae X ρ O (.List es pos) (.lst ds):=λG=>
 PE.imp (OU (h G)) λσ H Q ⟨h1,h2,h3⟩=>⟨h1,h2,λvs G1 H1 e1 s1 i1=>⟨by rw [<- i1.length]; exact hz,λp hp=>by
  obtain ⟨e2,s2⟩:=s1.laid (o:=.lst vs) hp
  exact h3 _ _ _ (e1.trans e2) s2 (.lst BF (i1.ext e2))⟩⟩
theorem G6 (h:BZ X ρ O es ds) (k:R (.ptr O.length) (O++[some (.lst ds)])) (hz:ds.length<=sizeLine:=by exact Nat.le_of_ble_eq_true rfl):Ev X ρ O (.List es pos) R:=λG=>
 PE.imp (OU (h G)) λσ H Q ⟨h1,h2,h3⟩=>⟨h1,h2,λvs G1 H1 e1 s1 i1=>⟨by rw [<- i1.length]; exact hz,λp hp=>by
  have e:Ah G1 ⟨G1.g,G1.l++[p]⟩:=⟨Bw.refl _,[p],rfl⟩
  obtain ⟨e2,s2⟩:=s1.new (m:=.lst ds) hp ⟨vs,BF,i1.ext e⟩
  refine h3 _ _ _ _ _ (e1.trans e2) s2 (.ptr _ ?_) k
  rw [<- s1.len,List.getElem?_append_right (Nat.le_refl _),Nat.sub_self]; rfl⟩⟩
theorem PL {xs:List D} {vs:List V} {K:PySem.W.Frag} {G:Wd} {i:Int} (r:Am K G xs vs) (h:BO xs i=some d):∃ v,BO vs i=some v/\Is K G d v:=by
 unfold BO at h ⊢
 rw [<- r.length]
 cases q:DS xs.length i with
 | none=>rw [q] at h; cases h
 | some j=>
  rw [q] at h
  exact r.get h
theorem Fg {xs:List D} {i:Int} (ha:Ae X ρ O a da) (hl:LV O da xs) (hb:Ae X ρ O b (.int i)) (hi:BO xs i=some d) (hs:Q6 b:=by intro _ _; rfl):Ae X ρ O (.Subscript a b pos) d:=λG pins s σ H Q I ⟨h1,h2,h3⟩=>
 Subscript_ (IZ (ta:=λσ H Q=>SA X.K G H O/\AH X.K G σ ρ/\∀ v G' H',Ah G G'->SA X.K G' H' O->Is X.K G' da v->Q v H') (ha G)
  (tb:=λσ H Q=>∃ G1,SA X.K G1 H O/\AH X.K G1 σ ρ/\∀ v G' H',Ah G1 G'->SA X.K G' H' O->Is X.K G' (.int i) v->Q v H') (λpins s σ H Q I ⟨G1,q⟩=>hb G1 pins s σ H Q I q) I
  (R:=λx y H2=>∃ G2,Ah G G2/\SA X.K G2 H2 O/\Is X.K G2 da x/\Is X.K G2 (.int i) y)
  ⟨h1,h2,λv G1 H1 e1 s1 i1=>⟨G1,s1,h2.ext e1,λu G2 H2 e2 s2 i2=>⟨G2,e1.trans e2,s2,i1.ext e2,i2⟩⟩⟩
  λv u s2 x y H2 I2 rx ry ⟨G2,e2,s2',i1,i2⟩=>by
   obtain ⟨p,vs,rfl,q,r⟩:=hl.sq s2' i1
   cases i2
   obtain ⟨w,hw,iw⟩:=PL r hi
   exact XH a b pins s2 σ H2 _ _ v u Q I2 rx ry ⟨p,vs,i,w,rfl,rfl,q,hw,h3 w G2 H2 e2 s2' iw⟩ (hs _ _))
theorem B7 {xs:List D} {i:Int} (ha:Ae X ρ O a (.tup xs)) (hb:Ae X ρ O b (.int i)) (hi:BO xs i=some d) (hs:Q6 b:=by intro _ _; rfl):Ae X ρ O (.Subscript a b pos) d:=λG pins s σ H Q I ⟨h1,h2,h3⟩=>
 Subscript_ (IZ (ta:=λσ H Q=>SA X.K G H O/\AH X.K G σ ρ/\∀ v G' H',Ah G G'->SA X.K G' H' O->Is X.K G' (.tup xs) v->Q v H') (ha G)
  (tb:=λσ H Q=>∃ G1,SA X.K G1 H O/\AH X.K G1 σ ρ/\∀ v G' H',Ah G1 G'->SA X.K G' H' O->Is X.K G' (.int i) v->Q v H') (λpins s σ H Q I ⟨G1,q⟩=>hb G1 pins s σ H Q I q) I
  (R:=λx y H2=>∃ G2,Ah G G2/\SA X.K G2 H2 O/\Is X.K G2 (.tup xs) x/\Is X.K G2 (.int i) y)
  ⟨h1,h2,λv G1 H1 e1 s1 i1=>⟨G1,s1,h2.ext e1,λu G2 H2 e2 s2 i2=>⟨G2,e1.trans e2,s2,i1.ext e2,i2⟩⟩⟩
  λv u s2 x y H2 I2 rx ry ⟨G2,e2,s2',i1,i2⟩=>by
   obtain ⟨p,vs,rfl,q,r⟩:=Fy s2' i1
   cases i2
   obtain ⟨w,hw,iw⟩:=PL r hi
   exact XG a b pins s2 σ H2 _ _ v u Q I2 rx ry ⟨p,vs,i,w,rfl,rfl,q,hw,h3 w G2 H2 e2 s2' iw⟩ (hs _ _))
def GC (xs:List D) (lo hi:Option Int):List D:=(xs.drop (HT.sIx xs.length 0 lo)).take (HT.sIx xs.length xs.length hi-HT.sIx xs.length 0 lo)
theorem Ze {xs:List D} {vs:List V} {K:PySem.W.Frag} {G:Wd} {lo hi:Option Int} (r:Am K G xs vs):Am K G (GC xs lo hi) (Fi vs lo hi):=by
 unfold GC Fi
 rw [<- r.length]
 exact (r.drop _).take _
def Go (X:Cx) (ρ:Aj) (O:Ad) (e:Option Expr) (i:Option Int):Prop:=
 ∀ G,PO X e (λσ H Q=>SA X.K G H O/\AH X.K G σ ρ/\∀ G' H',Ah G G'->SA X.K G' H' O->Q i H')
theorem _root_.L2.PO.imp {X:Cx} {e:Option Expr} {t u:TO} (h:PO X e t) (k:∀ σ H Q,u σ H Q->t σ H Q):PO X e u:=λpins s σ H Q I q=>h pins s σ H Q I (k _ _ _ q)
theorem YY:Go X ρ O none none:=λG=>PO.imp UR λσ H Q ⟨h1,h2,h3⟩=>h3 G H (Ah.refl _) h1
theorem YX {i:Int} (h:Ae X ρ O e (.int i)):Go X ρ O (some e) (some i):=λG=>PO.imp (UQ (h G)) λσ H Q ⟨h1,h2,h3⟩=>⟨h1,h2,λv G1 H1 e1 s1 i1=>by cases i1; exact ⟨i,rfl,h3 G1 H1 e1 s1⟩⟩
theorem YD {xs:List D} {lo hi:Option Expr} {l u:Option Int} {p2:Pos} (ha:Ae X ρ O a da) (hx:LV O da xs) (hl:Go X ρ O lo l) (hh:Go X ρ O hi u):Ae X ρ O (.Subscript a (.Slice lo hi none p2) pos) (.lst (GC xs l u)):=λG=>
 PE.imp (U4 SS (ha G) (tl:=λσ H Q=>∃ G1,SA X.K G1 H O/\AH X.K G1 σ ρ/\∀ G' H',Ah G1 G'->SA X.K G' H' O->Q l H') (λpins s σ H Q I ⟨G1,q⟩=>hl G1 pins s σ H Q I q)
  (th:=λσ H Q=>∃ G1,SA X.K G1 H O/\AH X.K G1 σ ρ/\∀ G' H',Ah G1 G'->SA X.K G' H' O->Q u H') (λpins s σ H Q I ⟨G1,q⟩=>hh G1 pins s σ H Q I q)) λσ H Q ⟨h1,h2,h3⟩=>
  ⟨h1,h2,λv G1 H1 e1 s1 i1=>⟨G1,s1,h2.ext e1,λG2 H2 e2 s2=>⟨G2,s2,(h2.ext e1).ext e2,λG3 H3 e3 s3=>by
   obtain ⟨q,vs,rfl,q1,r⟩:=hx.sq s3 (i1.ext (e2.trans e3))
   refine ⟨q,vs,rfl,q1,λz hz=>?_⟩
   obtain ⟨e4,s4⟩:=s3.laid (o:=.lst (Fi vs l u)) hz
   exact h3 _ _ _ (((e1.trans e2).trans e3).trans e4) s4 (.lst BF ((Ze r).ext e4))⟩⟩⟩
def BV (X:Cx) (O:Ad) (f:Value) (ds:List D) (d:D):Prop:=
 ∀ G,D4 X f (λvs H Q=>SA X.K G H O/\Am X.K G ds vs/\∀ w G' H',Ah G G'->SA X.K G' H' O->Is X.K G' d w->Q w H')
theorem BV.of {f:Value} {r:List V->Hp->VK->Prop} (ho:D4 X f r)
  (k:∀ G vs H Q,SA X.K G H O->Am X.K G ds vs->(∀ w G' H',Ah G G'->SA X.K G' H' O->Is X.K G' d w->Q w H')->r vs H Q):BV X O f ds d:=
 λG pins s σ H xs us Q I r ⟨h1,h2,h3⟩=>ho pins s σ H xs us Q I r (k G _ _ _ h1 h2 h3)
theorem A8 {id:String} (hm:X.mg x=none) (ha:BZ X ρ O (e::es) ds) (hc:BV X O (.builtin id) ds d) (hg:Gl X x:=by rfl) (hv:bootBuiltins x=some (.builtin id):=by first | rfl | decide +kernel) (hn:x ≠ "__name__" := by decide) (hdb:(x==("__debug__" : Str))=false:=by decide)
  (he:starEach (e::es) X.env=(false,eval e X.env)::starEach es X.env:=by rfl) (hpl:(backTo pos (starEach es X.env)).any (·.1)=false:=by rfl):Ae X ρ O (.Call (.Name x p) (e::es) [] pos) d:=λG=>
 PE.imp (OY (r:=λvs H Q=>∃ G1,SA X.K G1 H O/\Am X.K G1 ds vs/\∀ w G' H',Ah G1 G'->SA X.K G' H' O->Is X.K G' d w->Q w H') (λpins s σ H xs us Q I r ⟨G1,q⟩=>hc G1 pins s σ H xs us Q I r q) hg hm hv (ha G) hn hdb he hpl)
  λσ H Q ⟨h1,h2,h3⟩=>⟨h1,h2,λvs G1 H1 e1 s1 i1=>⟨G1,s1,i1,λw G2 H2 e2 s2 i2=>h3 w G2 H2 (e1.trans e2) s2 i2⟩⟩
theorem Ck {T:String} (hm:X.mg x=none) (ha:BZ X ρ O (e::es) ds) (hc:BV X O (.type T) ds d) (hg:Gl X x:=by rfl) (hv:bootBuiltins x=some (.type T):=by first | rfl | decide +kernel) (hn:x ≠ "__name__" := by decide) (hdb:(x==("__debug__" : Str))=false:=by decide)
  (he:starEach (e::es) X.env=(false,eval e X.env)::starEach es X.env:=by rfl) (hpl:(backTo pos (starEach es X.env)).any (·.1)=false:=by rfl):Ae X ρ O (.Call (.Name x p) (e::es) [] pos) d:=λG=>
 PE.imp (OX (r:=λvs H Q=>∃ G1,SA X.K G1 H O/\Am X.K G1 ds vs/\∀ w G' H',Ah G1 G'->SA X.K G' H' O->Is X.K G' d w->Q w H') (λpins s σ H xs us Q I r ⟨G1,q⟩=>hc G1 pins s σ H xs us Q I r q) hg hm hv (ha G) hn hdb he hpl)
  λσ H Q ⟨h1,h2,h3⟩=>⟨h1,h2,λvs G1 H1 e1 s1 i1=>⟨G1,s1,i1,λw G2 H2 e2 s2 i2=>h3 w G2 H2 (e1.trans e2) s2 i2⟩⟩
theorem C4 {xs:List D} (h:LT O d xs):BV X O (.builtin "len") [d] (.int xs.length):=.of ZG λG vs H Q s i k=>by
 cases i with
 | cons i r=>
  cases r
  rcases h with h | rfl
  ·obtain ⟨p,vs,rfl,q,r⟩:=h.sq s i
   exact ⟨p,vs,rfl,.inl q,by rw [<- r.length]; exact k _ G H (Ah.refl _) s (.int _)⟩
  ·obtain ⟨p,vs,rfl,q,r⟩:=Fy s i
   exact ⟨p,vs,rfl,.inr q,by rw [<- r.length]; exact k _ G H (Ah.refl _) s (.int _)⟩
theorem CD {xs:List D} (h:LT O d xs):BV X O (.type "tuple") [d] (.tup xs):=.of Zy λG vs H Q s i k=>by
 cases i with
 | cons i r=>
  cases r
  rcases h with h | rfl
  ·obtain ⟨p,vs,rfl,q,r⟩:=h.sq s i
   refine ⟨p,vs,rfl,.inl ⟨q,λl hl=>?_⟩⟩
   obtain ⟨e4,s4⟩:=s.laid (o:=.tup vs) hl
   exact k _ _ _ e4 s4 (.tup (Bu.of BF) (r.ext e4))
  ·obtain ⟨p,vs,rfl,q,r⟩:=Fy s i
   exact ⟨p,vs,rfl,.inr ⟨q,k _ G H (Ah.refl _) s i⟩⟩
theorem ZO {xs:List D} (h:LT O d xs):BV X O (.type "list") [d] (.lst xs):=.of ZD λG vs H Q s i k=>by
 cases i with
 | cons i r=>
  cases r
  rcases h with h | rfl
  ·obtain ⟨p,vs,rfl,q,r⟩:=h.sq s i
   refine ⟨p,vs,rfl,.inl q,λl hl=>?_⟩
   obtain ⟨e4,s4⟩:=s.laid (o:=.lst vs) hl
   exact k _ _ _ e4 s4 (.lst BF (r.ext e4))
  ·obtain ⟨p,vs,rfl,q,r⟩:=Fy s i
   refine ⟨p,vs,rfl,.inr q,λl hl=>?_⟩
   obtain ⟨e4,s4⟩:=s.laid (o:=.lst vs) hl
   exact k _ _ _ e4 s4 (.lst BF (r.ext e4))
theorem ZS {i:Int}:BV X O (.builtin "abs") [.int i] (.int (if i<0 then -i else i)):=.of ZL λG vs H Q s h k=>by
 cases h with | cons h r=>cases r; cases h; exact ⟨i,rfl,k _ G H (Ah.refl _) s (.int _)⟩
theorem ZN {i j:Int} (hc:X.calm=true:=by rfl):BV X O (.builtin "max") [.int i,.int j] (.int (if j>i then j else i)):=.of (ZC hc) λG vs H Q s h k=>by
 cases h with | cons h r=>cases r with | cons h' r=>cases r; cases h; cases h'; exact ⟨i,j,rfl,k _ G H (Ah.refl _) s (.int _)⟩
theorem QJ {b:Bool}:BV X O (.type "int") [.bl b] (.int (if b then 1 else 0)):=.of ZH λG vs H Q s h k=>by
 cases h with | cons h r=>cases r; cases h; exact .inr ⟨b,rfl,k _ G H (Ah.refl _) s (.int _)⟩
abbrev AQ:=List D->Ad->(D->Ad->Prop)->Prop
def AJ (K:PySem.W.Frag) (sp:AQ):Sp:=λvs H Q _=>∃ G O ds R,SA K G H O/\Am K G ds vs/\sp ds O R/\∀ v d O' G' H',Ah G G'->SA K G' H' O'->Is K G' d v->R d O'->Q v H'
structure Ak (P:Program) (w:World) (K:PySem.W.Frag) (mg:Str->Option Value) (base:Heap) (k:Nat) (x:Str) (sp:AQ):Prop where
 ex:∃ f fd ps,AF P w K mg base AL k f fd ps (AJ K sp)/\mg x=some (.ref f)/\PySem.W.keepIn K (.ref f)=true/\Binds K fd ps []
theorem YO {k:Nat} {sp:AQ} (F:Ak X.prog X.w X.K X.mg X.base k x sp) (hr:AR k X.A) (ha:Fs X ρ O (e::es) λds O1=>sp ds O1 R) (hg:Gl X x:=by rfl) (hdb:(x==("__debug__" : Str))=false:=by decide)
  (he:starEach (e::es) X.env=(false,eval e X.env)::starEach es X.env:=by rfl) (hpl:(backTo pos (starEach es X.env)).any (·.1)=false:=by rfl):Ev X ρ O (.Call (.Name x p) (e::es) [] pos) R:=λG=>by
 obtain ⟨f,fd,ps,h1,h2,h3,h4⟩:=F.ex
 refine PE.imp (Vc h1 hr hg h2 h3 h4 .nil FX (ha G) hdb he hpl) λσ H Q ⟨q1,q2,q3⟩=>⟨q1,q2,λvs ds O1 G1 H1 e1 s1 i1 r1=>?_⟩
 show AJ X.K sp (vs++[]) H1 Q E0
 rw [List.append_nil]
 exact ⟨G1,O1,ds,R,s1,i1,r1,λv d O' G' H' e2 s2 i2 r2=>q3 v d O' G' H' (e1.trans e2) s2 i2 r2⟩
theorem B1 {k:Nat} {sp:AQ} (F:Ak X.prog X.w X.K X.mg X.base k x sp) (hr:AR k X.A) (ha:BZ X ρ O (e::es) ds) (hs:sp ds O R) (hg:Gl X x:=by rfl) (hdb:(x==("__debug__" : Str))=false:=by decide)
  (he:starEach (e::es) X.env=(false,eval e X.env)::starEach es X.env:=by rfl) (hpl:(backTo pos (starEach es X.env)).any (·.1)=false:=by rfl):Ev X ρ O (.Call (.Name x p) (e::es) [] pos) R:=
 YO F hr (ha.as hs) hg hdb he hpl
def Au (f:List D->D->Prop):AQ:=λds O R=>∃ d,f ds d/\R d O
theorem AD {k:Nat} {f:List D->D->Prop} (F:Ak X.prog X.w X.K X.mg X.base k x (Au f)) (hr:AR k X.A) (ha:BZ X ρ O (e::es) ds) (hs:f ds d) (hg:Gl X x:=by rfl) (hdb:(x==("__debug__" : Str))=false:=by decide)
  (he:starEach (e::es) X.env=(false,eval e X.env)::starEach es X.env:=by rfl) (hpl:(backTo pos (starEach es X.env)).any (·.1)=false:=by rfl):Ae X ρ O (.Call (.Name x p) (e::es) [] pos) d:=
 (B1 F hr ha ⟨d,hs,rfl,rfl⟩ hg hdb he hpl).evp
end
structure Bg where
 nx:Aj->Ad->Prop
 rt:D->Ad->Prop
 bk:Aj->Ad->Prop:=λ_ _=>False
 ct:Aj->Ad->Prop:=λ_ _=>False
def Gm (K:PySem.W.Frag) (G:Wd) (N:Aj->Ad->Prop) (n:L2.St->Hp->Prop):Prop:=∀ σ ρ O G' H,Ah G G'->SA K G' H O->AH K G' σ ρ->N ρ O->n σ H
structure D3 (K:PySem.W.Frag) (G:Wd) (P:Bg) (E:Fu):Prop where
 nx:Gm K G P.nx E.nx
 rt:∀ v d O G' H,Ah G G'->SA K G' H O->Is K G' d v->P.rt d O->E.rt v H
 bk:Gm K G P.bk E.bk
 ct:Gm K G P.ct E.ct
theorem Gm.ext {K:PySem.W.Frag} {G G':Wd} {N:Aj->Ad->Prop} {n:L2.St->Hp->Prop} (h:Gm K G N n) (e:Ah G G'):Gm K G' N n:=λσ ρ O G2 H e2=>h σ ρ O G2 H (e.trans e2)
theorem D3.ext {K:PySem.W.Frag} {G G':Wd} {P:Bg} {E:Fu} (h:D3 K G P E) (e:Ah G G'):D3 K G' P E:=⟨h.nx.ext e,λv d O G2 H e2=>h.rt v d O G2 H (e.trans e2),h.bk.ext e,h.ct.ext e⟩
def Ex (X:Cx) (ρ:Aj) (O:Ad) (st:Stmt) (P:Bg):Prop:=∀ G,PS X st (λE σ H=>SA X.K G H O/\AH X.K G σ ρ/\D3 X.K G P E)
def Ch (X:Cx) (ρ:Aj) (O:Ad) (st:List Stmt) (P:Bg):Prop:=∀ G,PSs X st (λE σ H=>SA X.K G H O/\AH X.K G σ ρ/\D3 X.K G P E)
section
variable {X:Cx} {ρ:Aj} {O:Ad} {e a b c:Expr} {es:List Expr} {d da db:D} {ds:List D} {R:D->Ad->Prop} {pos p:Pos} {x:Str} {st:Stmt} {rest body orelse:List Stmt} {P:Bg}
theorem Aq (h:P.nx ρ O):Ch X ρ O [] P:=λG=>PSs.imp UE λE σ H ⟨h1,h2,h3⟩=>h3.nx σ ρ O G H (Ah.refl _) h1 h2 h
theorem Ac (h:Ex X ρ O st { P with nx:=λρ' O'=>Ch X ρ' O' rest P }):Ch X ρ O (st::rest) P:=λG=>
 PSs.imp (UF (h G) (u:=λE σ H=>∃ G1 ρ1 O1,SA X.K G1 H O1/\AH X.K G1 σ ρ1/\Ch X ρ1 O1 rest P/\D3 X.K G1 P E) (λpins s σ H E I ⟨G1,ρ1,O1,q1,q2,q3,q4⟩=>q3 G1 pins s σ H E I ⟨q1,q2,q4⟩)) λE σ H ⟨h1,h2,h3⟩=>
  ⟨h1,h2,⟨λσ1 ρ1 O1 G1 H1 e1 s1 n1 q1=>⟨G1,ρ1,O1,s1,n1,q1,h3.ext e1⟩,h3.rt,h3.bk,h3.ct⟩⟩
theorem HC (M:Aj->Ad->Prop) (h:Ex X ρ O st { P with nx:=M }) (k:∀ ρ' O',M ρ' O'->Ch X ρ' O' rest P):Ch X ρ O (st::rest) P:=Ac λG=>
 PS.imp (h G) λE σ H ⟨h1,h2,h3⟩=>⟨h1,h2,⟨λσ1 ρ1 O1 G1 H1 e1 s1 n1 q1=>h3.nx σ1 ρ1 O1 G1 H1 e1 s1 n1 (k _ _ q1),h3.rt,h3.bk,h3.ct⟩⟩
theorem AG (h:Ev X ρ O e P.rt):Ex X ρ O (.Return (some e) pos) P:=λG=>PS.imp (UI (h G)) λE σ H ⟨h1,h2,h3⟩=>⟨h1,h2,λv d O' G' H' e1 s1 i1 r1=>h3.rt v d O' G' H' e1 s1 i1 r1⟩
theorem Bb (h:Ev X ρ O e λ_ O'=>P.nx ρ O') (hs:swapsWith e none pos.line X.env=pure false:=by rfl):Ex X ρ O (.Expr e pos) P:=λG=>PS.imp (Ln (h G) hs) λE σ H ⟨h1,h2,h3⟩=>
 ⟨h1,h2,λv d O' G' H' e1 s1 i1 r1=>h3.nx σ ρ O' G' H' e1 s1 (h2.ext e1) r1⟩
theorem AT {k:Bool} (hc:AU X ρ O c k) (h1:k=true->Ch X ρ O body P) (h2:k=false->Ch X ρ O orelse P):Ex X ρ O (.If c body orelse pos) P:=λG=>
 PS.imp (UJ (hc G) (t:=λE σ H=>∃ G1,k=true/\SA X.K G1 H O/\AH X.K G1 σ ρ/\D3 X.K G1 P E) (λpins s σ H E I ⟨G1,z,q⟩=>h1 z G1 pins s σ H E I q)
  (u:=λE σ H=>∃ G1,k=false/\SA X.K G1 H O/\AH X.K G1 σ ρ/\D3 X.K G1 P E) (λpins s σ H E I ⟨G1,z,q⟩=>h2 z G1 pins s σ H E I q)) λE σ H ⟨q1,q2,q3⟩=>
  ⟨q1,q2,λG' H' e1 s1=>by
   cases k with
   | true=>exact LO ⟨G',rfl,s1,q2.ext e1,q3.ext e1⟩
   | false=>exact LP ⟨G',rfl,s1,q2.ext e1,q3.ext e1⟩⟩
def Tg (X:Cx) (tg:Expr) (d:D) (ρ ρ':Aj):Prop:=∀ G,PG X tg (λv σ H Q=>Is X.K G d v/\Bw G.g H/\AH X.K G σ ρ/\∀ σ',AH X.K G σ' ρ'->Q σ' H)
def Jb (X:Cx) (tg:List Expr) (ds:List D) (ρ ρ':Aj):Prop:=∀ G,Hm X tg (λvs σ H Q=>Am X.K G ds vs/\Bw G.g H/\AH X.K G σ ρ/\∀ σ',AH X.K G σ' ρ'->Q σ' H)
theorem AZ (i:Nat) (hN:X.N.Nodup) (hi:X.N[i]?=some x:=by rfl) (hx:Ep X.env.scope x:=by first | exact Or.inl rfl | exact Or.inr rfl) (hf:X.fn x=true\/X.env.scope.names.lookup x=some .local:=by first | exact .inl rfl | exact .inr rfl | assumption):Tg X (.Name x pos) d ρ (ρ.set i (some d)):=λG pins s σ H v u Q I r ⟨h1,h2,h3,h4⟩=>
 U0 hN hi hx hf pins s σ H v u Q I r (h4 _ (h3.set i h1))
theorem Et:Jb X [] [] ρ ρ:=λG pins s σ H vs us Q I r ⟨h1,h2,h3,h4⟩=>UW pins s σ H vs us Q I r ⟨by cases h1; rfl,h4 _ h3⟩
theorem CJ {ρ1 ρ2:Aj} (h:Tg X e d ρ ρ1) (k:Jb X es ds ρ1 ρ2) (hs:(assignEach (e::es) X.env).map (·.2)=assign e X.env::(assignEach es X.env).map (·.2):=by rfl):Jb X (e::es) (d::ds) ρ ρ2:=λG pins s σ H vs us Q I r ⟨h1,h2,h3,h4⟩=>by
 cases h1 with
 | cons i1 i2=>
  exact UX (h G) (k G) hs pins s σ H _ us Q I r ⟨_,_,rfl,i1,h2,h3,λσ' n'=>⟨i2,h2,n',h4⟩⟩
theorem Eu {ρ1:Aj} {k:Nat} (h:Jb X es ds ρ ρ1) (hc:X.calm=true:=by rfl) (hn:(assignEach es X.env).length=ds.length:=by rfl) (hst:(assignEach es X.env).findIdx? (·.1)=none:=by rfl):Tg X (.Tuple es k pos) (.tup ds) ρ ρ1:=λG pins s σ H v u Q I r ⟨h1,h2,h3,h4⟩=>by
 cases h1 with
 | tup q1 q2=>
  exact UY hc (h G) hn hst pins s σ H _ u Q I r ⟨_,_,rfl,Dj h2 q1,by rw [<- q2.length],q2,h2,h3,h4⟩
theorem AW (i:Nat) (he:Ev X ρ O e λd O'=>P.nx (ρ.set i (some d)) O') (hN:X.N.Nodup) (hi:X.N[i]?=some x:=by rfl) (hx:Ep X.env.scope x:=by first | exact Or.inl rfl | exact Or.inr rfl) {p:Pos}
  (hs:swapsWith e (some (.Name x p)) pos.line X.env=pure false:=by rfl) (hf:X.fn x=true\/X.env.scope.names.lookup x=some .local:=by first | exact .inl rfl | exact .inr rfl | assumption):Ex X ρ O (.Assign [.Name x p] e pos) P:=λG=>
 PS.imp (UH hN hi hx (he G) hs hf) λE σ H ⟨h1,h2,h3⟩=>⟨h1,h2,λv d O' G' H' e1 s1 i1 r1=>h3.nx _ _ O' G' H' e1 s1 ((h2.ext e1).set i i1) r1⟩
theorem MP {tg:Expr} {ρ1:Aj} (he:Ae X ρ O e d) (ht:Tg X tg d ρ ρ1) (h:P.nx ρ1 O) (hs:swapsWithSole [tg] e pos.line X.env=pure false:=by rfl) (hw:swappedStores [tg] e X.env=pure none:=by rfl)
  (h1:(assignEach [tg] X.env).map (·.2)=[assign tg X.env]:=by rfl):Ex X ρ O (.Assign [tg] e pos) P:=λG=>
 PS.imp (Lp (he G) (g:=λv σ H Q=>∃ G1,Is X.K G1 d v/\Bw G1.g H/\AH X.K G1 σ ρ/\∀ σ',AH X.K G1 σ' ρ1->Q σ' H) (λpins s σ H v u Q I r ⟨G1,q⟩=>ht G1 pins s σ H v u Q I r q) hs hw h1) λE σ H ⟨q1,q2,q3⟩=>
  ⟨q1,q2,λv G' H' e1 s1 i1=>⟨G',i1,s1.sub,q2.ext e1,λσ' n'=>q3.nx _ _ O G' H' e1 s1 n' h⟩⟩
theorem MQ {q:Nat} {xs:List D} {apos cpos:Pos} (ho:Ae X ρ O a (.ptr q)) (hq:O[q]?=some (some (.lst xs))) (he:Ae X ρ O e d) (hz:xs.length<sizeLine) (h:P.nx ρ (O.set q (some (.lst (xs++[d])))))
  (hbase:attributeBase a ("append" : Str) X.env (eval a X.env)=eval a X.env:=by rfl) (hline:(apos.endLine==cpos.line)=true:=by rfl) (hst:starEach [e] X.env=[(false,eval e X.env)]:=by rfl)
  (hsw:swapsWith (.Call (.Attribute a ("append" : Str) apos) [e] [] cpos) none pos.line X.env=pure false:=by rfl):Ex X ρ O (.Expr (.Call (.Attribute a ("append" : Str) apos) [e] [] cpos) pos) P:=λG=>
 PS.imp (Ln (OZ PySem.F.plainAttrs_list PySem.F.slot_list_append PySem.F.type_list_append Pp (ho G)
  (FY (te:=λσ H Q=>∃ G1,SA X.K G1 H O/\AH X.K G1 σ ρ/\∀ v G' H',Ah G1 G'->SA X.K G' H' O->Is X.K G' d v->Q v H') (λpins s σ H Q I ⟨G1,q⟩=>he G1 pins s σ H Q I q) Io hst) hbase
  (by rw [hst]; rfl) hline hst (by rfl)) hsw) λE σ H ⟨q1,q2,q3⟩=>⟨q1,q2,λv G1 H1 e1 s1 i1=>by
   cases i1 with
   | ptr _ ha=>
   obtain ⟨a1,g0,g1,vs,g2,g3⟩:=s1.mt q _ hq
   obtain rfl:=Option.some.inj (ha.symm.trans g0)
   refine ⟨.inl ⟨rfl,vs,Ba.of g2⟩,G1,s1,q2.ext e1,λw G2 H2 e2 s2 i2=>?_⟩
   obtain ⟨a2,g7,g4,us,g5,g6⟩:=s2.mt q _ hq
   obtain rfl:=Option.some.inj ((e2.at g0).symm.trans g7)
   refine ⟨_,us,w,rfl,rfl,g5,by rw [<- g6.length]; exact hz,?_⟩
   exact q3.nx σ ρ _ G2 _ (e1.trans e2) (s2.put (m':=.lst (xs++[d])) hq g7 ⟨_,BF,g6.append (.cons i2 .nil)⟩) (q2.ext (e1.trans e2)) h⟩
theorem ML {body:List Stmt} (inv:Aj->Ad->Prop) (μ:Aj->Ad->Nat) (h0:inv ρ O)
  (hs:∀ ρ O,inv ρ O->∃ k,AU X ρ O c k/\(k=true->Ch X ρ O body { P with nx:=λρ' O'=>inv ρ' O'/\μ ρ' O'<μ ρ O,ct:=λρ' O'=>inv ρ' O'/\μ ρ' O'<μ ρ O,bk:=P.nx })/\(k=false->P.nx ρ O))
  (hp:PassesOwn (model X.prog X.w) X.A X.env X.xe:=by exact PassesOwn.never):Ex X ρ O (.While c body [] pos) P:=λG=>
 PS.imp (UG hp (tc:=λσ H Q=>∃ G1 ρ1 O1 k,SA X.K G1 H O1/\AH X.K G1 σ ρ1/\AU X ρ1 O1 c k/\∀ G' H',Ah G1 G'->SA X.K G' H' O1->Q k H') (λpins s σ H Q I ⟨G1,ρ1,O1,k,q1,q2,q3,q4⟩=>q3 G1 pins s σ H Q I ⟨q1,q2,q4⟩)
  (tb:=λE σ H=>∃ G1 ρ1 O1 P1,SA X.K G1 H O1/\AH X.K G1 σ ρ1/\Ch X ρ1 O1 body P1/\D3 X.K G1 P1 E) (λpins s σ H E I ⟨G1,ρ1,O1,P1,q1,q2,q3,q4⟩=>q3 G1 pins s σ H E I ⟨q1,q2,q4⟩)) λE σ H ⟨q1,q2,q3⟩=>by
  refine ⟨λm σ H=>∃ G1 ρ1 O1,Ah G G1/\SA X.K G1 H O1/\AH X.K G1 σ ρ1/\inv ρ1 O1/\m=μ ρ1 O1,⟨_,G,ρ,O,Ah.refl _,q1,q2,h0,rfl⟩,?_⟩
  rintro m σ1 H1 ⟨G1,ρ1,O1,e1,s1,n1,v1,rfl⟩
  obtain ⟨k,t1,t2,t3⟩:=hs ρ1 O1 v1
  refine ⟨G1,ρ1,O1,k,s1,n1,t1,λG2 H2 e2 s2=>?_⟩
  cases k with
  | true=>
   refine LO ⟨λσ' H'=>∃ G3 ρ3 O3,Ah G G3/\SA X.K G3 H' O3/\AH X.K G3 σ' ρ3/\inv ρ3 O3/\μ ρ3 O3<μ ρ1 O1,λσ' H' ⟨G3,ρ3,O3,e3,s3,n3,v3,l3⟩=>⟨_,l3,G3,ρ3,O3,e3,s3,n3,v3,rfl⟩,?_⟩
   have e12:=e1.trans e2
   refine ⟨G2,ρ1,O1,_,s2,n1.ext e2,t2 rfl,⟨λσ' ρ' O' G3 H3 e3 s3 n3 q=>⟨G3,ρ',O',e12.trans e3,s3,n3,q⟩,λv d O' G3 H3 e3 s3 i3 r=>q3.rt v d O' G3 H3 (e12.trans e3) s3 i3 r,λσ' ρ' O' G3 H3 e3 s3 n3 q=>q3.nx σ' ρ' O' G3 H3 (e12.trans e3) s3 n3 q,
    λσ' ρ' O' G3 H3 e3 s3 n3 q=>⟨G3,ρ',O',e12.trans e3,s3,n3,q⟩⟩⟩
  | false=>exact LP (q3.nx σ1 ρ1 O1 G2 H2 (e1.trans e2) s2 (n1.ext e2) (t3 rfl))
structure DI (K:PySem.W.Frag) (G:Wd) (J:It) (xs:List D):Prop where
 go:∀ i H,Bw G.g H->i<xs.length->J.go i H
 stop:∀ i H,Bw G.g H->xs.length<=i->J.stop i H
 yld:∀ i v H H' G2 O2,Ah G G2->SA K G2 H O2->J.yld i H v H'->i<xs.length->∃ x G3,xs[i]?=some x/\Ah G2 G3/\SA K G3 H' O2/\Is K G3 x v
def Ci (X:Cx) (ρ:Aj) (O:Ad) (tg iter:Expr) (xs:List D):Prop:=
 ∀ G,PI X tg iter (λσ H R=>SA X.K G H O/\AH X.K G σ ρ/\∀ J G' H',Ah G G'->SA X.K G' H' O->DI X.K G' J xs->R J H')
theorem _root_.L2.PI.imp {X:Cx} {tg iter:Expr} {t u:TI} (h:PI X tg iter t) (k:∀ σ H R,u σ H R->t σ H R):PI X tg iter u:=λpins s σ H R I q=>h pins s σ H R I (k _ _ _ q)
theorem PN {K:PySem.W.Frag} {G:Wd} {q:Addr} {vs:List V} {xs:List D} (h1:Ba K G.g q vs) (r:Am K G xs vs):DI K G (MC K q) xs where
 go:=λi H e hi=>by
  obtain ⟨v,hv,_⟩:=r.get (i:=i) (d:=xs[i]) (by simp [hi])
  exact ⟨vs,v,e.seq h1,hv⟩
 stop:=λi H e hi=>⟨vs,e.seq h1,by rw [<- r.length]; exact hi⟩
 yld:=λi v H H' G2 O2 e s y hi=>by
  obtain ⟨rfl,y⟩:=y
  obtain ⟨x,hx,ix⟩:=r.getV (y vs ((e.g.trans s.sub).seq h1))
  exact ⟨x,G2,hx,Ah.refl _,s,ix.ext e⟩
theorem XJ {K:PySem.W.Frag} {G:Wd} {q:Addr} {vs:List V} {xs:List D} (h1:Bu K G.g q vs) (r:Am K G xs vs):DI K G (MB K q) xs where
 go:=λi H e hi=>by
  obtain ⟨v,hv,_⟩:=r.get (i:=i) (d:=xs[i]) (by simp [hi])
  exact ⟨vs,v,Dj e h1,hv⟩
 stop:=λi H e hi=>⟨vs,Dj e h1,by rw [<- r.length]; exact hi⟩
 yld:=λi v H H' G2 O2 e s y hi=>by
  obtain ⟨rfl,y⟩:=y
  obtain ⟨x,hx,ix⟩:=r.getV (y vs (Dj (e.g.trans s.sub) h1))
  exact ⟨x,G2,hx,Ah.refl _,s,ix.ext e⟩
theorem Y6 {tg:Expr} {xs:List D} (h:Ae X ρ O e (.lst xs)):Ci X ρ O tg e xs:=λG=>PI.imp (OS (h G)) λσ H R ⟨h1,h2,h3⟩=>⟨h1,h2,λv G1 H1 e1 s1 i1=>by
 cases i1 with
 | lst q r=>exact ⟨_,rfl,⟨_,Ba.of (s1.sub _ _ q)⟩,h3 _ G1 H1 e1 s1 (PN (Ba.of q) r)⟩⟩
theorem Y4 {tg:Expr} {xs:List D} (h:Ae X ρ O e (.scr xs)):Ci X ρ O tg e xs:=λG=>PI.imp (OS (h G)) λσ H R ⟨h1,h2,h3⟩=>⟨h1,h2,λv G1 H1 e1 s1 i1=>by
 cases i1 with
 | scr q r=>exact ⟨_,rfl,⟨_,s1.sub.seq q⟩,h3 _ G1 H1 e1 s1 (PN q r)⟩⟩
theorem Y3 {tg:Expr} {xs:List D} (h:Ae X ρ O e (.tup xs)):Ci X ρ O tg e xs:=λG=>PI.imp (UT (h G)) λσ H R ⟨h1,h2,h3⟩=>⟨h1,h2,λv G1 H1 e1 s1 i1=>by
 cases i1 with
 | tup q r=>exact ⟨_,rfl,⟨_,Dj s1.sub q⟩,h3 _ G1 H1 e1 s1 (XJ q r)⟩⟩
def EB (lo:Int) (n:Nat):List D:=(List.range n).map λi=>.int (lo+(i:Nat))
theorem DN {lo:Int} {n:Nat}:(EB lo n).length=n:=by simp [EB]
theorem OO {lo:Int} {n i:Nat} (h:i<n):(EB lo n)[i]?=some (.int (lo+(i:Nat))):=by simp [EB,h]
theorem GP {lo:Int} {n i:Nat} {x:D} (h:(EB lo n)[i]?=some x):i<n/\x=.int (lo+(i:Nat)):=by
 have hi:i<n:=by
  have:=(List.getElem?_eq_some_iff.mp h).1
  rw [DN] at this
  exact this
 rw [OO hi] at h
 exact ⟨hi,(Option.some.inj h).symm⟩
theorem PM {K:PySem.W.Frag} {G:Wd} {lo:Int} {n:Nat}:DI K G (Hs lo n) (EB lo n) where
 go:=λi H _ hi=>by rw [DN] at hi; exact hi
 stop:=λi H _ hi=>by rw [DN] at hi; exact hi
 yld:=λi v H H' G2 O2 e s y hi=>by
  obtain ⟨rfl,rfl⟩:=y
  rw [DN] at hi
  exact ⟨_,G2,OO hi,Ah.refl _,s,.int _⟩
theorem Ek {tg:Expr} {n:Int} (h:Ae X ρ O e (.int n)) (hm:X.mg "range" = none) (h1:-(2 ^ 62)<=n) (h2:n<2 ^ 62) (hg:Gl X "range" := by rfl) (hs:starEach [e] X.env=[(false,eval e X.env)]:=by rfl):Ci X ρ O tg (.Call (.Name "range" p) [e] [] pos) (EB 0 n.toNat):=λG=>
 PI.imp (UV hg hm (Ab h Af hs G) hs) λσ H R ⟨q1,q2,q3⟩=>⟨q1,q2,λvs G1 H1 e1 s1 i1=>by
  cases i1 with | cons i r=>cases r; cases i; exact ⟨n,rfl,h1,h2,q3 _ G1 H1 e1 s1 PM⟩⟩
theorem Y5 {tg:Expr} {m n:Int} (ha:Ae X ρ O a (.int m)) (hb:Ae X ρ O b (.int n)) (hm:X.mg "range" = none) (h1:-(2 ^ 62)<=m) (h2:m<2 ^ 62) (h3:-(2 ^ 62)<=n) (h4:n<2 ^ 62) (hg:Gl X "range" := by rfl)
  (hs:starEach [a,b] X.env=[(false,eval a X.env),(false,eval b X.env)]:=by rfl) (hs2:starEach [b] X.env=[(false,eval b X.env)]:=by rfl):Ci X ρ O tg (.Call (.Name "range" p) [a,b] [] pos) (EB m (n-m).toNat):=λG=>
 PI.imp (UU hg hm (Ab ha (Ab hb Af hs2) (by rw [hs,hs2]) G) hs hs2) λσ H R ⟨q1,q2,q3⟩=>⟨q1,q2,λvs G1 H1 e1 s1 i1=>by
  cases i1 with | cons i r=>cases r with | cons i' r=>cases r; cases i; cases i'; exact ⟨m,n,rfl,⟨h1,h2,h3,h4⟩,q3 _ G1 H1 e1 s1 PM⟩⟩
theorem Dw {tg iter:Expr} {body:List Stmt} {xs:List D} (hi:Ci X ρ O tg iter xs) (inv:Nat->Aj->Ad->Prop) (h0:inv 0 ρ O)
  (hs:∀ i x ρ' O',xs[i]?=some x->inv i ρ' O'->∃ ρ1,Tg X tg x ρ' ρ1/\Ch X ρ1 O' body { P with nx:=inv (i+1),ct:=inv (i+1),bk:=P.nx }) (hd:∀ ρ' O',inv xs.length ρ' O'->P.nx ρ' O')
  (hp:PassesOwn (model X.prog X.w) X.A X.env X.xe:=by exact PassesOwn.never) (hc:X.calm=true:=by rfl) (hf:∀ x,foldedSetIterable iter X.env x=pure x:=by intro _; rfl):Ex X ρ O (.For tg iter body [] pos) P:=λG=>
 PS.imp (UK hp hc (hi G) (g:=λv σ H Q=>∃ G1 ρ1 ρ2 x,Tg X tg x ρ1 ρ2/\Is X.K G1 x v/\Bw G1.g H/\AH X.K G1 σ ρ1/\∀ σ',AH X.K G1 σ' ρ2->Q σ' H) (λpins s σ H v u Q I r ⟨G1,ρ1,ρ2,x,q,q'⟩=>q G1 pins s σ H v u Q I r q')
  (tb:=λE σ H=>∃ G1 ρ1 O1 P1,SA X.K G1 H O1/\AH X.K G1 σ ρ1/\Ch X ρ1 O1 body P1/\D3 X.K G1 P1 E) (λpins s σ H E I ⟨G1,ρ1,O1,P1,q1,q2,q3,q4⟩=>q3 G1 pins s σ H E I ⟨q1,q2,q4⟩) hf) λE σ H ⟨q1,q2,q3⟩=>by
  refine ⟨q1,q2,λJ G1 H1 e1 s1 Y=>?_⟩
  refine ⟨λi m σ H=>∃ G2 ρ2 O2,Ah G1 G2/\SA X.K G2 H O2/\AH X.K G2 σ ρ2/\inv i ρ2 O2/\i<=xs.length/\m=xs.length-i,⟨_,G1,ρ,O,Ah.refl _,s1,q2.ext e1,h0,Nat.zero_le _,rfl⟩,?_⟩
  rintro i m σ2 H2 ⟨G2,ρ2,O2,e2,s2,n2,v2,l2,rfl⟩
  by_cases hlt:i<xs.length
  ·refine .inr ⟨Y.go i H2 (e2.g.trans s2.sub) hlt,λσ' H'=>∃ G3 ρ3 O3,Ah G1 G3/\SA X.K G3 H' O3/\AH X.K G3 σ' ρ3/\inv (i+1) ρ3 O3,λσ' H' ⟨G3,ρ3,O3,e3,s3,n3,v3⟩=>⟨xs.length-(i+1),by omega,G3,ρ3,O3,e3,s3,n3,v3,hlt,rfl⟩,λv H3 y=>?_⟩
   obtain ⟨x,G3,hx,e3,s3,i3⟩:=Y.yld i v H2 H3 G2 O2 e2 s2 y hlt
   obtain ⟨ρ3,t3,b3⟩:=hs i x ρ2 O2 hx v2
   have e13:Ah G1 G3:=e2.trans e3
   refine ⟨G3,ρ2,ρ3,x,t3,i3,s3.sub,n2.ext e3,λσ' n'=>⟨G3,ρ3,O2,_,s3,n',b3,⟨λσ4 ρ4 O4 G4 H4 e4 s4 n4 q=>⟨G4,ρ4,O4,e13.trans e4,s4,n4,q⟩,λv d O4 G4 H4 e4 s4 i4 r=>q3.rt v d O4 G4 H4 (e1.trans (e13.trans e4)) s4 i4 r,
    λσ4 ρ4 O4 G4 H4 e4 s4 n4 q=>q3.nx σ4 ρ4 O4 G4 H4 (e1.trans (e13.trans e4)) s4 n4 q,λσ4 ρ4 O4 G4 H4 e4 s4 n4 q=>⟨G4,ρ4,O4,e13.trans e4,s4,n4,q⟩⟩⟩⟩
  ·have ei:i=xs.length:=by omega
   subst ei
   exact .inl ⟨Y.stop _ H2 (e2.g.trans s2.sub) (Nat.le_refl _),q3.nx σ2 ρ2 O2 G2 H2 (e1.trans e2) s2 n2 (hd _ _ v2)⟩
end
def FB (N:List Str) (ds:List D):Aj:=ds.map some++List.replicate (N.length-ds.length) none
section
variable {P:Program} {w:World} {K:PySem.W.Frag} {mg:Str->Option Value} {base:Heap}
theorem Nn {G:Wd} {N:List Str} {ds:List D} {vs:List V} (r:Am K G ds vs):AH K G (L2.start N vs) (FB N ds):=by
 refine ⟨by unfold L2.start FB; simp [r.length],λi d h=>?_⟩
 unfold FB at h
 by_cases hi:i<ds.length
 ·rw [List.getElem?_append_left (by simpa using hi),List.getElem?_map] at h
  cases q:ds[i]? with
  | none=>rw [q] at h; cases h
  | some d'=>
   rw [q] at h; cases h
   obtain ⟨v,hv,iv⟩:=r.get q
   refine ⟨v,?_,iv⟩
   unfold L2.start
   rw [List.getElem?_append_left (by rw [List.length_map,<- r.length]; exact hi),List.getElem?_map,hv]
   rfl
 ·rw [List.getElem?_append_right (by simpa using hi),List.getElem?_replicate] at h
  split at h <;> cases h
theorem Bf {x qual:Str} {st:Stmt} {f:Addr} {fd:FuncData} {N ps:List Str} {k:Nat} {sp:AQ} (F:Av K x qual st f fd) (S:AB N ps (An st))
  (len:∀ ds O R,sp ds O R->ds.length=ps.length)
  (hbody:∀ (cdv:Value) (A:Around) (outer:List Env) (s:Shared) (H:Hp) (E:XK) (ds:List D) (O:Ad) (R:D->Ad->Prop),AR k (A.deeper (envOfC qual (An st) s.heap.objs.size f cdv))->sp ds O R->
   Ch (El AL P w K mg base N qual (An st) f cdv A outer s H E).nox (FB N ds) O (CC st) { nx:=λ_ O'=>R .non O',rt:=R }):AF P w K mg base AL (k+1) f fd ps (AJ K sp):=by
 refine F.ok S (λvs H Q E h=>?_) (λcdv A outer s H vs Q E hr h=>?_)
 ·obtain ⟨G,O,ds,R,h1,h2,h3,h4⟩:=h
  rw [<- h2.length]
  exact len _ _ _ h3
 ·obtain ⟨G,O,ds,R,h1,h2,h3,h4⟩:=h
  refine ⟨_,hbody cdv A outer s H E ds O R hr h3 G,h1,Nn h2,⟨λσ ρ O' G' H' e1 s1 n1 q=>h4 _ _ O' G' H' e1 s1 .non q,λv d O' G' H' e1 s1 i1 q=>h4 v d O' G' H' e1 s1 i1 q,λσ ρ O' G' H' e1 s1 n1 q=>q.elim,λσ ρ O' G' H' e1 s1 n1 q=>q.elim⟩⟩
theorem A1 {x qual:Str} {st:Stmt} {f:Addr} {fd:FuncData} {N ps:List Str} {k:Nat} {sp:AQ} (F:Av K x qual st f fd) (S:AB N ps (An st)) (hm:mg x=some (.ref f)) (hb:Binds K fd ps [])
  (len:∀ ds O R,sp ds O R->ds.length=ps.length)
  (hbody:∀ (cdv:Value) (A:Around) (outer:List Env) (s:Shared) (H:Hp) (E:XK) (ds:List D) (O:Ad) (R:D->Ad->Prop),AR k (A.deeper (envOfC qual (An st) s.heap.objs.size f cdv))->sp ds O R->
   Ch (El AL P w K mg base N qual (An st) f cdv A outer s H E).nox (FB N ds) O (CC st) { nx:=λ_ O'=>R .non O',rt:=R }):Ak P w K mg base (k+1) x sp:=
 ⟨f,fd,ps,Bf F S len hbody,hm,F.kp,hb⟩
end
def Gw:AQ:=λds O R=>∃ ns:List Int,ds=[.scr (ns.map D.int)]/\ns.length<=63/\R (.bl true) O
theorem Xv {K:PySem.W.Frag} {H:Hp} {a:Addr} {ns:List Int} (hl:ns.length<=63) (hS:Ba K H a (ns.map V.int)):AJ K Gw [.ref a] H (λv _=>v=.bl true) λ_ _ _=>False:=
 ⟨⟨H,[]⟩,[],[.scr (ns.map D.int)],λd _=>d=.bl true,⟨Bw.refl _,rfl,List.nodup_nil,λa h=>absurd h List.not_mem_nil,λn m h=>by cases h⟩,.cons (.scr hS Am.ints) .nil,⟨ns,rfl,hl,rfl⟩,λv d O' G' H' _ _ i r=>by subst r; cases i; rfl⟩
section
variable {X:Cx} {ρ:Aj} {O:Ad} {e a b c:Expr} {es:List Expr} {d da db:D} {ds:List D} {R:D->Ad->Prop} {pos p:Pos} {x:Str}
theorem DB {U:String} (hm:X.mg x=none) (hg:Gl X x:=by rfl) (hv:bootBuiltins x=some (.type U):=by first | rfl | decide +kernel) (hn:x ≠ "__name__" := by decide) (hd:(x==("__debug__" : Str))=false:=by decide):Ae X ρ O (.Name x p) (.ty U):=λG=>
 PE.imp (Vd (v:=.ty U) hg hm hv rfl hn hd) λσ H Q ⟨h1,h2,h3⟩=>h3 _ G H (Ah.refl _) h1 (.ty U)
def tyD:D->Option String
 | .non=>some "NoneType" | .bl _=>some "bool" | .int _=>some "int" | .str _=>some "str" | .tup _=>some "tuple" | .lst _=>some "list" | .scr _=>some "list" | .ptr _=>none | .ty _=>none | .fn _=>none | .dct _ _=>some "dict"
theorem ZP {T U:String} {k:Bool} (ht:tyD d=some T) (hk:∀ K,PySem.W.kitOne K (.type T) (.type U)=some k):BV X O (.builtin "isinstance") [d,.ty U] (.bl k):=λG pins s σ H xs us Q I r ⟨h1,h2,h3⟩=>by
 cases h2 with
 | cons i r2=>
  cases r2 with
  | cons i' r3=>
   cases r3
   cases i'
   obtain ⟨u,u',rfl,r1,r2⟩:=Fx r
   cases r2
   have fin:∀ tk,EP X pins σ Q (.bool k) { s with toks:=tk }:=λtk=>⟨.bl k,H,I.tok tk,rfl,h3 _ G H (Ah.refl _) h1 (.bl k)⟩
   cases i with
   | non=>cases ht; cases r1; exact PySem.W.kia_one PySem.W.kitx_none I.kIn True.intro (hk _) (λz=>nomatch z) fin
   | bl y=>cases ht; cases r1; exact PySem.W.kia_one PySem.W.kitx_bool I.kIn True.intro (hk _) (λz=>nomatch z) fin
   | int i=>cases ht; obtain ⟨t,rfl⟩:=r1; exact PySem.W.kia_one PySem.W.kitx_int I.kIn True.intro (hk _) (λz=>nomatch z) fin
   | str y=>cases ht; obtain ⟨t,rfl⟩:=r1; exact PySem.W.kia_one PySem.W.kitx_str I.kIn True.intro (hk _) (λz=>nomatch z) fin
   | tup q1 q2=>
    cases ht; cases r1
    obtain ⟨its,_,⟨o,g1,g2,_⟩,_⟩:=I.tuple (Dj h1.sub q1)
    exact PySem.W.kia_one PySem.W.kitx_tuple I.kIn ⟨o,g1,g2⟩ (hk _) (λz=>nomatch z) fin
   | lst q1 q2=>
    cases ht; cases r1
    obtain ⟨its,_,⟨o,n,g1,g2,_⟩,_⟩:=I.list (Ba.of (h1.sub _ _ q1))
    exact PySem.W.kia_one PySem.W.kitx_list I.kIn ⟨o,g1,g2⟩ (hk _) (λz=>nomatch z) fin
   | scr q1 q2=>
    cases ht; cases r1
    obtain ⟨its,_,⟨o,n,g1,g2,_⟩,_⟩:=I.list (h1.sub.seq q1)
    exact PySem.W.kia_one PySem.W.kitx_list I.kIn ⟨o,g1,g2⟩ (hk _) (λz=>nomatch z) fin
   | ptr _ _=>cases ht
   | ty _=>cases ht
   | fn _=>cases ht
   | dct q1 _ q2=>
    cases ht; cases r1
    obtain ⟨_,_,_,_,o,_,_,g1,g2,_⟩:=Rd.ok (.inr ⟨_,h1.sub _ _ q1⟩) I.hok
    exact PySem.W.kia_one PySem.W.kitx_dict I.kIn ⟨o,g1,g2.1⟩ (hk _) (λz=>nomatch z) fin
def Nk (T U:String):Bool:=T==U||(T == "bool" && U == "int")
theorem Xy:∀ T∈["NoneType","bool","int","str","tuple","list","dict"],∀ U∈["int","bool","tuple","str","dict","list"],∀ K,PySem.W.kitOne K (.type T) (.type U)=some (Nk T U):=by
 intro T hT U hU K
 simp only [List.mem_cons,List.not_mem_nil,or_false] at hT hU
 rcases hT with rfl | rfl | rfl | rfl | rfl | rfl | rfl <;> rcases hU with rfl | rfl | rfl | rfl | rfl | rfl <;> kernel_rfl
def Ir:D->Bool
 | .ptr _=>false | .ty _=>false | .fn _=>false | _=>true
def IE (d:D) (U:String):Bool:=match tyD d with
 | some T=>Nk T U
 | none=>false
theorem Mi {U:String} (h:Ir d=true) (hU:U∈["int","bool","tuple","str","dict","list"]):BV X O (.builtin "isinstance") [d,.ty U] (.bl (IE d U)):=by
 cases d with
 | ptr _=>cases h
 | ty _=>cases h
 | fn _=>cases h
 | _=>exact ZP (T:=_) rfl (Xy _ wE U hU)
theorem QI (h:Ir d=true):BV X O (.builtin "isinstance") [d,.ty "int"] (.bl (IE d "int")):=Mi h wE
theorem Mh (h:Ir d=true):BV X O (.builtin "isinstance") [d,.ty "bool"] (.bl (IE d "bool")):=Mi h wE
theorem Gg (h:Ir d=true):BV X O (.builtin "isinstance") [d,.ty "tuple"] (.bl (IE d "tuple")):=Mi h wE
end
def CT (env:Env):List (Str×NameKind)->List (Str×Addr)->List (Str×Addr)
 | [],cs=>cs
 | (n,k)::r,cs=>if k==.free then CT env r ((n,(env.cells.lookup n).getD 0)::cs) else CT env r cs
theorem Mc {env:Env} (f:Str×NameKind->List (Str×Addr)->Sem (ForInStep (List (Str×Addr))))
  (hf:∀ n k cs,f (n,k) cs=if (k==NameKind.free)=true then (do let a <- cellOf env n; pure (.yield ((n,a)::cs))) else pure (.yield cs)) :
  ∀ (names:List (Str×NameKind)) (cs:List (Str×Addr)),(∀ y∈names,y.2=.free->∃ a,env.cells.lookup y.1=some a)->forIn names cs f=pure (CT env names cs)
 | [],cs,_=>by rw [List.forIn_nil]; rfl
 | (n,k)::r,cs,h=>by
  rw [List.forIn_cons,hf]
  have hr:∀ y∈r,y.2=.free->∃ a,env.cells.lookup y.1=some a:=λy hy=>h y (List.mem_cons_of_mem _ hy)
  unfold CT
  by_cases hk:(k==NameKind.free)=true
  ·rw [if_pos hk,if_pos hk]
   obtain ⟨a,e⟩:=h (n,k) List.mem_cons_self (by simpa using hk)
   have e':cellOf env n=pure a:=by unfold cellOf; rw [e]
   rw [e',e]
   simp only [pure_bind,Option.getD_some]
   exact Mc f hf r _ hr
  ·rw [if_neg hk,if_neg hk]
   simp only [pure_bind]
   exact Mc f hf r _ hr
theorem Zw {env:Env} {scope:Scope} (h:∀ y∈scope.names,y.2=.free->∃ a,env.cells.lookup y.1=some a):closureFor scope env=pure (CT env scope.names []):=by
 have e:=Mc (env:=env) (λ(x:Str×NameKind) (cs:List (Str×Addr))=>if (x.2==NameKind.free)=true then (do let a <- cellOf env x.1; pure (.yield ((x.1,a)::cs))) else pure (.yield cs)) (λn k cs=>rfl) scope.names [] h
 unfold closureFor
 exact (congrArg (λz=>z >>= λq=>pure q) e).trans (by simp)
theorem Md {env:Env} {x:Str} {c:Addr}:∀ (names:List (Str×NameKind)) (cs:List (Str×Addr)),(∀ y∈names,y.2=.free->∃ a,env.cells.lookup y.1=some a)->
  (CT env names cs).lookup x=some c->cs.lookup x=some c\/env.cells.lookup x=some c
 | [],cs,_,h=>.inl h
 | (n,k)::r,cs,hh,h=>by
  have hr:∀ y∈r,y.2=.free->∃ a,env.cells.lookup y.1=some a:=λy hy=>hh y (List.mem_cons_of_mem _ hy)
  unfold CT at h
  by_cases hk:(k==NameKind.free)=true
  ·rw [if_pos hk] at h
   obtain ⟨a,e⟩:=hh (n,k) List.mem_cons_self (by simpa using hk)
   rcases Md r _ hr h with q | q
   ·rw [e,Option.getD_some,List.lookup_cons] at q
    cases hx:x==n with
    | true=>
     rw [hx] at q
     have:x=n:=by simpa using hx
     subst this
     exact .inr (by cases q; exact e)
    | false=>rw [hx] at q; exact .inl q
   ·exact .inr q
  ·rw [if_neg hk] at h
   exact Md r cs hr h
theorem Hg {env:Env} {x:Str}:∀ (names:List (Str×NameKind)) (cs:List (Str×Addr)),names.lookup x=some .free\/(cs.lookup x).isSome=true->((CT env names cs).lookup x).isSome=true
 | [],cs,h=>h.elim (λe=>by cases e) id
 | (n,k)::r,cs,h=>by
  unfold CT
  by_cases hk:(k==NameKind.free)=true
  ·rw [if_pos hk]
   refine Hg r _ ?_
   cases hx:x==n with
   | true=>right; rw [List.lookup_cons,hx]; rfl
   | false=>
    rw [List.lookup_cons,hx] at h
    rw [List.lookup_cons,hx]
    exact h
  ·rw [if_neg hk]
   refine Hg r _ ?_
   cases hx:x==n with
   | true=>
    rw [List.lookup_cons,hx] at h
    rcases h with h | h
    ·cases h; exact absurd rfl hk
    ·exact .inr h
   | false=>rw [List.lookup_cons,hx] at h; exact h
theorem Me {x:Str}:∀ (names:List (Str×NameKind)) (n:Nat) (acc:List (Str×Addr)),(∀ y∈names,y.1=x->y.2≠.cell)->(cellsFrom n names acc).lookup x=acc.lookup x
 | [],_,_,_=>rfl
 | (y,k)::r,n,acc,h=>by
  have hr:∀ z∈r,z.1=x->z.2≠.cell:=λz hz=>h z (List.mem_cons_of_mem _ hz)
  unfold cellsFrom
  by_cases hk:(k==NameKind.cell)=true
  ·rw [if_pos hk,Me r _ _ hr,List.lookup_cons]
   have:y≠x:=λe=>h (y,k) List.mem_cons_self e (by simpa using hk)
   rw [show (x==y)=false from by simpa using Ne.symm this]
  ·rw [if_neg hk]
   exact Me r _ _ hr
theorem Mg {x:Str} {c:Addr}:∀ (names:List (Str×NameKind)) (h:Heap) (acc:List (Str×Addr)),(∀ y b,acc.lookup y=some b->∃ v,h.IsCell b v)->(cellsFrom h.objs.size names acc).lookup x=some c->
  (∃ v,(pushCells h names).IsCell c v)/\(acc.lookup x=some c\/h.objs.size<=c)
 | [],h,acc,hc,e=>⟨hc _ _ e,.inl e⟩
 | (y,k)::r,h,acc,hc,e=>by
  unfold cellsFrom at e
  unfold pushCells
  by_cases hk:(k==NameKind.cell)=true
  ·rw [if_pos hk] at e ⊢
   have hz:(h.push { cls:=.type "cell",data:=.cell none }).objs.size=h.objs.size+1:=Heap.size_push ..
   rw [<- hz] at e
   obtain ⟨q1,q2⟩:=Mg r (h.push { cls:=.type "cell",data:=.cell none }) ((y,h.objs.size)::acc) (λz b q=>by
    rw [List.lookup_cons] at q
    cases hx:z==y with
    | true=>rw [hx] at q; cases q; exact ⟨none,_,Heap.get?_push_size _ rfl,rfl⟩
    | false=>
     rw [hx] at q
     obtain ⟨v,o,q1,q2⟩:=hc z b q
     exact ⟨v,o,Heap.get?_push_of_some _ q1,q2⟩) e
   refine ⟨q1,?_⟩
   rcases q2 with q2 | q2
   ·rw [List.lookup_cons] at q2
    cases hx:x==y with
    | true=>rw [hx] at q2; cases q2; exact .inr (Nat.le_refl _)
    | false=>rw [hx] at q2; exact .inl q2
   ·exact .inr (by rw [hz] at q2; omega)
  ·rw [if_neg hk] at e ⊢
   exact Mg r h acc hc e
theorem Mf:∀ (names:List (Str×NameKind)) (n:Nat) (acc:List (Str×Addr)),(∀ x y c,acc.lookup x=some c->acc.lookup y=some c->x=y)->(∀ x c,acc.lookup x=some c->c<n)->
  ∀ x y c,(cellsFrom n names acc).lookup x=some c->(cellsFrom n names acc).lookup y=some c->x=y
 | [],_,_,hi,_=>hi
 | (z,k)::r,n,acc,hi,hl=>by
  unfold cellsFrom
  by_cases hk:(k==NameKind.cell)=true
  ·rw [if_pos hk]
   refine Mf r (n+1) ((z,n)::acc) (λx y c e1 e2=>?_) (λx c e=>?_)
   ·rw [List.lookup_cons] at e1 e2
    cases hx:x==z <;> cases hy:y==z <;> rw [hx] at e1 <;> rw [hy] at e2
    ·exact hi x y c e1 e2
    ·cases e2; exact absurd (hl _ _ e1) (Nat.lt_irrefl _)
    ·cases e1; exact absurd (hl _ _ e2) (Nat.lt_irrefl _)
    ·rw [show x=z by simpa using hx,show y=z by simpa using hy]
   ·rw [List.lookup_cons] at e
    cases hx:x==z <;> rw [hx] at e
    ·exact Nat.lt_succ_of_lt (hl _ _ e)
    ·cases e; exact Nat.lt_succ_self _
  ·rw [if_neg hk]
   exact Mf r n acc hi hl
theorem Ii {env:Env} {x:Str} {k:NameKind}:∀ (names:List (Str×NameKind)),(names.map λ(n,k)=>if (k==NameKind.free&&env.scope.kind==.function&&env.kindOf n==some .cell) then (n,NameKind.cell) else (n,k)).lookup x=some k->
  names.lookup x=some k\/(k=.cell/\names.lookup x=some .free)
 | [],h=>by cases h
 | (n,k')::r,h=>by
  rw [List.map_cons] at h
  by_cases hc:(k'==NameKind.free&&env.scope.kind==.function&&env.kindOf n==some .cell)=true
  ·simp only [hc,if_true] at h
   rw [List.lookup_cons] at h ⊢
   cases hx:x==n with
   | true=>
    rw [hx] at h; cases h
    have:k'=.free:=by
     simp only [Bool.and_eq_true,beq_iff_eq] at hc
     exact hc.1.1
    subst this
    exact .inr ⟨rfl,rfl⟩
   | false=>rw [hx] at h; exact Ii r h
  ·simp only [hc,Bool.false_eq_true,if_false] at h
   rw [List.lookup_cons] at h ⊢
   cases hx:x==n with
   | true=>rw [hx] at h; exact .inl h
   | false=>rw [hx] at h; exact Ii r h
theorem Lm {env:Env} {x:Str}:∀ (names:List (Str×NameKind)),names.lookup x=some .free->
  (names.map λ(n,k)=>if (k==NameKind.free&&env.scope.kind==.function&&env.kindOf n==some .cell) then (n,NameKind.cell) else (n,k)).lookup x=some .cell \/
  (names.map λ(n,k)=>if (k==NameKind.free&&env.scope.kind==.function&&env.kindOf n==some .cell) then (n,NameKind.cell) else (n,k)).lookup x=some .free
 | [],h=>by cases h
 | (n,k')::r,h=>by
  rw [List.map_cons]
  rw [List.lookup_cons] at h
  by_cases hc:(k'==NameKind.free&&env.scope.kind==.function&&env.kindOf n==some .cell)=true
  ·simp only [hc,if_true]
   rw [List.lookup_cons]
   cases hx:x==n with
   | true=>left; rfl
   | false=>rw [hx] at h; exact Lm r h
  ·simp only [hc]
   cases hx:x==n with
   | true=>rw [hx] at h; right; exact (by simp [List.lookup_cons,hx]; exact Option.some.inj h)
   | false=>
    rw [hx] at h
    simpa [List.lookup_cons,hx] using Lm r h
def Dg (X:Cx) (N:List Str) (scope:Scope) (s:Shared) (H:Hp) (fp:List Addr):Cx:=
 { X with
  N:=N
  s₀:=s
  H₀:=H
  env:=compEnvC scope (cellsFrom (s.heap.objs.size+2) scope.names (CT X.env scope.names [])) (s.heap.objs.size+1) X.env
  outer:=X.stack
  ex:=fp
  fn:=λx=>scope.names.lookup x==some .cell
  pn:=[]
  xe:=λ_ _=>False }
section
variable {X:Cx} {pins:List (Addr×Obj)} {σ:L2.St} {H:Hp} {s:Shared}
def Hw (X:Cx) (scope:Scope):Prop:=∀ y∈scope.names,y.2=.free->X.env.kindOf y.1=some .cell\/X.env.kindOf y.1=some .free
theorem XU {N:List Str} {scope:Scope} {fp:List Addr} {σ0:L2.St} (I:L2.Inv X pins σ H s) (hf:∀ b∈fp,Cg X pins H b) (ho:∀ b∈fp,∃ o,s.heap.get? b=some o) (hk:scope.kind=.function) (hfr:Hw X scope)
  (hl:σ0.length=N.length) (hσ:∀ (i:Nat) (v:V),σ0[i]?=some (some v)->∃ (x:Str) (j:Nat),N[i]?=some x/\scope.names.lookup x=some .free/\(∀ y∈scope.names,y.1=x->y.2≠.cell)/\X.N[j]?=some x/\σ[j]?=some (some v)/\Em X.env.scope x) (t:Nat) (oD:Obj) :
  L2.Inv (Dg X N scope s H fp) [] σ0 H { s with heap:=pushCells ((s.heap.push oD).push { cls:=.type "dict",data:=.dict #[] }) scope.names,toks:=t }:=by
 have hz1:(s.heap.push oD).objs.size=s.heap.objs.size+1:=Heap.size_push ..
 have hz:((s.heap.push oD).push { cls:=.type "dict",data:=.dict #[] }).objs.size=s.heap.objs.size+2:=by rw [Heap.size_push,hz1]
 have up:∀ b o,s.heap.get? b=some o->(pushCells ((s.heap.push oD).push { cls:=.type "dict",data:=.dict #[] }) scope.names).get? b=some o:=λb o e=>pushCells_keeps _ _ b o (Heap.get?_push_of_some _ (Heap.get?_push_of_some _ e))
 have hcl:∀ y∈scope.names,y.2=.free->∃ a,X.env.cells.lookup y.1=some a:=λy hy e=>I.ok.has _ (hfr y hy e)
 have cl1:∀ y b,(CT X.env scope.names []).lookup y=some b->X.env.cells.lookup y=some b:=λy b e=>by
  rcases Md _ _ hcl e with q | q
  ·cases q
  ·exact q
 have cl2:∀ y b,(CT X.env scope.names []).lookup y=some b->b<s.heap.objs.size:=λy b e=>by
  obtain ⟨v,q⟩:=I.cell y b (cl1 y b e); exact q.lt
 have cc:∀ y b,(cellsFrom (s.heap.objs.size+2) scope.names (CT X.env scope.names [])).lookup y=some b->
   (∃ v,(pushCells ((s.heap.push oD).push { cls:=.type "dict",data:=.dict #[] }) scope.names).IsCell b v)/\(X.env.cells.lookup y=some b/\b<s.heap.objs.size\/s.heap.objs.size+2<=b):=λy b e=>by
  rw [<- hz] at e
  obtain ⟨q1,q2⟩:=Mg scope.names ((s.heap.push oD).push { cls:=.type "dict",data:=.dict #[] }) _ (λz c q=>by
   obtain ⟨v,o,q1,q2⟩:=I.cell z c (cl1 z c q)
   exact ⟨v,o,Heap.get?_push_of_some _ (Heap.get?_push_of_some _ q1),q2⟩) e
  refine ⟨q1,?_⟩
  rcases q2 with q2 | q2
  ·exact .inl ⟨cl1 _ _ q2,cl2 _ _ q2⟩
  ·rw [hz] at q2; exact .inr q2
 have hlt:=I.lt
 refine ⟨⟨I.ok.mod,hk,I.ok.glob,I.ok.blt,Nat.le_succ _,?_,?_,?_,I.ok.hd,I.ok.frames,.inl rfl,?_,I.bs,Nat.le_trans I.ok.bsz I.sz,?_,?_,I.stack,I.stkFree⟩,rfl,I.bare,Un.kept up,?_,?_,?_,?_,?_,I.hok.kept up,hl⟩
 ·exact Mf _ _ _ (λx y c e1 e2=>I.ok.inj x y c (cl1 _ _ e1) (cl1 _ _ e2)) (λx c e=>Nat.lt_of_lt_of_le (cl2 x c e) (Nat.le_add_right _ 2))
 ·intro x hx
  have hx:(relabel scope X.env).names.lookup x=some .cell\/(relabel scope X.env).names.lookup x=some .free:=hx
  have:((cellsFrom (s.heap.objs.size+2) scope.names (CT X.env scope.names [])).lookup x).isSome=true:=by
   refine PySem.W.cellsFrom_some _ _ _ ?_
   rcases hx with hx | hx
   ·rcases Ii _ hx with q | ⟨_,q⟩
    ·exact .inl q
    ·exact .inr (Hg _ _ (.inl q))
   ·rcases Ii _ hx with q | ⟨q,_⟩
    ·exact .inr (Hg _ _ (.inl q))
    ·cases q
  exact Option.isSome_iff_exists.mp this
 ·intro x c hfn e
  rcases (cc x c e).2 with ⟨q,q'⟩ | q
  ·exfalso
   have hfn:scope.names.lookup x=some .cell:=by simpa [Dg] using hfn
   -- own names' cells are new
   have:∀ (names:List (Str×NameKind)) (n:Nat) (acc:List (Str×Addr)),names.lookup x=some .cell\/(∃ b,acc.lookup x=some b/\s.heap.objs.size<=b)->s.heap.objs.size<=n->∀ b,(cellsFrom n names acc).lookup x=some b->s.heap.objs.size<=b:=by
    intro names
    induction names with
    | nil=>
     intro n acc h hn b eb
     rcases h with h | ⟨b',h,hb⟩
     ·cases h
     ·have eb:acc.lookup x=some b:=eb
      rw [h] at eb; cases eb; exact hb
    | cons p r ih=>
     obtain ⟨y,k⟩:=p
     intro n acc h hn b eb
     unfold cellsFrom at eb
     by_cases hkc:(k==NameKind.cell)=true
     ·rw [if_pos hkc] at eb
      refine ih (n+1) _ ?_ (Nat.le_succ_of_le hn) b eb
      cases hxy:x==y with
      | true=>right; exact ⟨n,by rw [List.lookup_cons,hxy],hn⟩
      | false=>
       rw [List.lookup_cons,hxy] at h
       rw [List.lookup_cons,hxy]
       exact h
     ·rw [if_neg hkc] at eb
      refine ih n _ ?_ hn b eb
      cases hxy:x==y with
      | true=>
       rw [List.lookup_cons,hxy] at h
       rcases h with h | h
       ·cases h; exact absurd rfl hkc
       ·exact .inr h
      | false=>rw [List.lookup_cons,hxy] at h; exact h
   exact absurd q' (Nat.not_lt.mpr (this scope.names _ _ (.inl hfn) (Nat.le_add_right _ 2) c e))
  ·exact Nat.le_trans (Nat.le_add_right _ 2) q
 ·intro b hb
  have hbl:b<s.heap.objs.size:=let ⟨o,e⟩:=ho b hb; Heap.lt_size e
  refine ⟨Nat.ne_of_lt (Nat.lt_succ_of_lt hbl),λx c e=>?_⟩
  obtain ⟨f0,f1,f2,f3,f4,f5⟩:=hf b hb
  rcases (cc x c e).2 with ⟨q,_⟩ | q
  ·exact f4 x c q
  ·exact Nat.ne_of_gt (Nat.lt_of_lt_of_le (Nat.lt_of_lt_of_le hbl (Nat.le_add_right _ 2)) q)
 ·intro b o e hb
  obtain ⟨f0,f1,f2,f3,f4,f5⟩:=hf b hb
  rcases f3 with q | q
  ·exact I.ok.noex b o e q
  ·exact absurd (Nat.lt_of_lt_of_le (Heap.lt_size e) (Nat.le_trans I.ok.bsz q)) (Nat.lt_irrefl _)
 ·intro b hb z
  obtain ⟨f0,f1,f2,f3,f4,f5⟩:=hf b hb
  rcases List.mem_cons.mp (I.stkSub b z) with q | q
  ·exact f1 q
  ·exact f2 q
 ·refine ⟨λ_=>none,?_,λi x v e1 e2 e3=>?_⟩
  ·show Heap.Ns _ (s.heap.objs.size+1) _
   rw [<- hz1]
   exact (Heap.Ns.new (s.heap.push oD) (.type "dict")).keeps (pushCells_keeps _ _)
  ·obtain ⟨x',j,q1,q2,q3,q4,q5,q6⟩:=hσ i v e2
   have:x'=x:=Option.some.inj (q1.symm.trans e1)
   subst this
   obtain ⟨m,hn,hlk⟩:=I.loc
   obtain ⟨u,ru,lk⟩:=hlk j x' v q4 q5 q6
   refine ⟨u,ru,.inr ⟨?_,?_⟩⟩
   ·exact Lm _ q2
   ·have hks:=hfr (x',.free) (PySem.mem_of_lookup q2) rfl
    rcases lk with ⟨k,_⟩ | ⟨k,c,e,z⟩
    ·rcases hks with z | z
     ·rw [k] at z; cases z
     ·rw [k] at z; cases z
    ·refine ⟨c,?_,z.keeps up⟩
     show (cellsFrom _ _ _).lookup x'=some c
     rw [Me _ _ _ q3]
     obtain ⟨b,eb⟩:=Option.isSome_iff_exists.mp (Hg (env:=X.env) scope.names [] (.inl q2))
     rw [eb,<- cl1 _ _ eb,e]
 ·exact λx c e=>(cc x c e).1
 ·exact I.hok.fresh (Nat.le_succ _)
 ·intro x c e
  rcases (cc x c e).2 with ⟨q,_⟩ | q
  ·exact I.freeC x c q
  ·exact I.hok.fresh (Nat.le_trans (Nat.le_add_right _ 2) q)
 ·intro p hp
  exact absurd (show p∈([]:List (Addr×Obj)) from hp) (by simp)
end
theorem WW {M:Model} {A:Around} {E:Value->Shared->Prop} {s:Shared} {scope:Scope} {g:Addr} {cl:List (Str×Addr)} {q:Str} {env:Env} {Q:Env->Shared->Prop}
  (h:∀ b,b=env.builtins->Q { scope:=scope,locals:=s.heap.objs.size,globals:=g,cells:=cellsFrom (s.heap.objs.size+1) scope.names cl,qual:=q,func:=none,code:=env.code,frame:=env.frame,builtins:=b }
   { s with heap:=pushCells (s.heap.push { cls:=.type "dict",data:=.dict #[] }) scope.names }):wpAny M A (newFunctionEnv scope g cl [] q none .none (some env)) Q E s:=by
 simp only [newFunctionEnv,Option.isSome_some,if_true]
 refine wpAny_bind (wpAny_alloc ?_)
 refine wpAny_bind (wpAny_layCells _ (λn k cells=>by cases hkc:k==NameKind.cell <;> simp [hkc]) _ _ _ _ ?_)
 rw [show ({ s with heap:=s.heap.push { cls:=.type "dict",data:=.dict #[] } }:Shared).heap.objs.size=s.heap.objs.size+1 from Heap.size_push ..]
 rw [List.forIn_nil]
 exact wpAny_bind (wpAny_pure (wpAny_pure (h _ rfl)))
theorem Z6 {fs ex:List Addr} {H H':Hp} {h h':Heap} {D:Addr} {o:HO} (u:Un fs ex H H' h h') (hn:H D=none) (hh:h.get? D=none):Un fs ex H (AN H' D o) h h' where
 keep:=u.keep
 slot:=u.slot
 free:=λb ob q n hx=>by
  rw [A4 (λz=>by rw [z,hh] at q; cases q)]; exact u.free b ob q n hx
 there:=u.there
 tups:=λb xs q=>by rw [A4 (DQ q hn)]; exact u.tups b xs q
 frzs:=λb ob xs q=>by rw [A4 (DQ q hn)]; exact u.frzs b ob xs q
 tbls:=λb ps q=>by rw [A4 (DQ q hn)]; exact u.tbls b ps q
theorem Rf {P:Program} {w:World} {H:Hp} {h:Heap} {D:Addr} {o:HO} (x:BJ P w H h) (hn:H D=none) (new:B3 P w (AN H D o) h D o):BJ P w (AN H D o) h:=λb u e=>by
 by_cases hb:b=D
 ·subst hb
  rw [BF] at e
  cases e
  exact new
 ·rw [A4 hb] at e
  refine (x b u e).stay (λc v _ q=>q) (λc q=>?_) λc xs q=>?_
  ·rw [A4 (DQ q hn)]; exact q
  ·rw [A4 (DQ q hn)]; exact q
theorem Zo {prog:Program} {w:World} {A:Around} {R:Result->Shared->Prop} {elt tg iter:Expr} {ifs:List Expr} {scope:Scope} {pos:Pos} {it acc:Value} {env:Env} (V:Nat->Shared->Prop)
  (turn:∀ (n:Nat) (s:Shared) (F:Value->Shared->Prop),V n s->wpAny (model prog w) A (pyNext it) (λr s1=>match r with
   | none=>R (.ok .next) s1
   | some v=>wpAny (model prog w) A (letOwnedTupleGo tg it v) (λ_ s2=>wpAny (model prog w) A (assign tg env v) (λ_ s3=>
     wpAny (model prog w) A (compTests ifs env) (λok s4=>if ok=true then wpAny (model prog w) A (eval elt env) (λx s5=>wpAny (model prog w) A (call (.builtin "list.append") [acc,x]) (λ_ s6=>∃ m,m<n/\V m s6) F s5) F s4
      else ∃ m,m<n/\V m s4) F s3) F s2) F s1) F s) :
  ∀ (n:Nat) (s:Shared),V n s->codeAny (model prog w) A (.compLoop (.ListComp elt [⟨tg,iter,ifs,0⟩] scope pos) 0 it acc env) R s:=λn s h=>by
 refine codeAny_loop rfl V (λn s hV=>?_) n h
 refine wpAny_noted ?_
 rw [compTurn_list]
 refine wpAny_bind (wpAny_standAt (wpAny_bind (Ar (turn n s _ hV) λr s1 h1=>?_)))
 cases r with
 | none=>exact wpAny_pure h1
 | some v=>
  refine wpAny_bind (Ar h1 λ_ s2 h2=>wpAny_bind (Ar h2 λ_ s3 h3=>?_))
  have h3:wpAny (model prog w) A (compTests ifs env) _ _ s3:=h3
  unfold compTests at h3
  rw [show ∀ x:Sem Bool,(x >>= λq=>pure q)=x from λx=>bind_pure x] at h3
  refine wpAny_bind (Ar h3 λok s4 h4=>?_)
  cases ok with
  | false=>exact wpAny_pure ⟨rfl,h4⟩
  | true=>exact wpAny_bind (wpAny_bind (Ar h4 λx s5 h5=>wpAny_bind (Ar h5 λ_ s6 h6=>wpAny_pure (wpAny_pure ⟨rfl,h6⟩))))
abbrev Db (ys:List Value):Obj:={ cls:=.type "list",data:=.seq ys.toArray ys.length }
def Jh (X:Cx) (ρ:Aj) (O:Ad) (elt:Expr):List Expr->Option D->Prop
 | [],z=>∃ y,z=some y/\Ae X ρ O elt y
 | [c],z=>∃ k,AU X ρ O c k/\(k=true->∃ y,z=some y/\Ae X ρ O elt y)/\(k=false->z=none)
 | _,_=>False
def Q9 (X:Cx) (ρ:Aj) (O O':Ad) (elt:Expr):List Expr->Option D->Prop
 | [],z=>∃ y,z=some y/\Ev X ρ O elt (λd O2=>d=y/\O2=O')
 | [c],z=>∃ k,AU X ρ O c k/\(k=true->∃ y,z=some y/\Ev X ρ O elt (λd O2=>d=y/\O2=O'))/\(k=false->z=none/\O'=O)
 | _::_::_,_=>False
theorem Jh.s {X:Cx} {ρ:Aj} {O:Ad} {elt:Expr} {z:Option D}:∀ {ifs:List Expr},Jh X ρ O elt ifs z->Q9 X ρ O O elt ifs z
 | [],h=>by obtain ⟨y,h1,h2⟩:=h; exact ⟨y,h1,h2.ev ⟨rfl,rfl⟩⟩
 | [c],h=>by
  obtain ⟨k,h1,h2,h3⟩:=h
  exact ⟨k,h1,λe=>by obtain ⟨y,g1,g2⟩:=h2 e; exact ⟨y,g1,g2.ev ⟨rfl,rfl⟩⟩,λe=>⟨h3 e,rfl⟩⟩
 | _::_::_,h=>h.elim
theorem AH.weak {K:PySem.W.Frag} {G:Wd} {σ:L2.St} {ρ ρ':Aj} (h:AH K G σ ρ) (hl:ρ'.length=ρ.length) (hs:∀ (i:Nat) (d:D),ρ'[i]?=some (some d)->ρ[i]?=some (some d)):AH K G σ ρ':=
 ⟨h.len.trans hl.symm,λi d e=>h.get i d (hs i d e)⟩
theorem Qg {α:Type} (P:Nat->α->Prop):∀ n:Nat,(∀ i,i<n->∃ a,P i a)->∃ l:List α,l.length=n/\∀ i a,l[i]?=some a->P i a
 | 0,_=>⟨[],rfl,λi a h=>by simp at h⟩
 | n+1,h=>by
  obtain ⟨l,h1,h2⟩:=Qg P n λi hi=>h i (Nat.lt_succ_of_lt hi)
  obtain ⟨a,ha⟩:=h n (Nat.lt_succ_self _)
  refine ⟨l++[a],by simp [h1],λi b hb=>?_⟩
  by_cases hi:i<n
  ·rw [List.getElem?_append_left wF] at hb; exact h2 i b hb
  ·have hin:i=n:=by
    have:=(List.getElem?_eq_some_iff.mp hb).1
    simp [h1] at this; omega
   subst hin
   rw [List.getElem?_append_right wF,h1,Nat.sub_self] at hb
   cases hb; exact ha
section
variable {X:Cx} {ρ:Aj} {O:Ad} {elt tg iter:Expr} {ifs:List Expr} {scope:Scope} {pos:Pos} {xs:List D} {zs:List (Option D)}
theorem Qb {α:Type}:∀ (zs:List (Option α)) (i:Nat) (z:Option α),zs[i]?=some z->(zs.take (i+1)).filterMap id=(zs.take i).filterMap id++z.toList:=by
 intro zs i z h
 rw [List.take_add_one,h,List.filterMap_append]
 cases z <;> rfl
theorem QD (S:Nat->Ad) (hS0:S 0=O) (N:List Str) (js:List Nat) (ρ0:Aj) (hi:Ci X ρ O tg iter xs) (hc:X.calm=true) (hk:scope.kind=.function) (hfr:Hw X scope) (hnm:∀ x∈scope.names,x.2=.local->scope.names.lookup x.1=some .local)
    (hl0:ρ0.length=N.length)
    (h0:∀ (i:Nat) (d:D),ρ0[i]?=some (some d)->∃ (x:Str) (j:Nat),N[i]?=some x/\scope.names.lookup x=some .free/\(∀ y∈scope.names,y.1=x->y.2≠.cell)/\X.N[j]?=some x/\ρ[j]?=some (some d)/\Em X.env.scope x)
    (hzl:zs.length=xs.length) (hsz:xs.length<=sizeLine)
    (turn:∀ (s:Shared) (H:Hp) (fp:List Addr) (i:Nat) (x:D) (z:Option D),xs[i]?=some x->zs[i]?=some z->∃ ρ1,Tg (Dg X N scope s H fp) tg x ρ0 ρ1/\ρ1.length=ρ0.length/\(∀ (j:Nat) (d:D),ρ0[j]?=some (some d)->ρ1[j]?=some (some d))/\Q9 (Dg X N scope s H fp) ρ1 (S i) (S (i+1)) elt ifs z)
    {use:Option (Value->Sem Unit)} {pins:List (Addr×Obj)} {s:Shared} {σ:L2.St} {H:Hp} {G:Wd} {Q:Value->Shared->Prop} (I:L2.Inv X pins σ H s) (sa:SA X.K G H O) (en:AH X.K G σ ρ)
    (fin:∀ (D C:Addr) (s':Shared) (H5:Hp) (G5:Wd) (vs:List V),L2.Inv X pins σ (AN H5 D (.lst vs)) s'->Ah G G5->SA X.K G5 H5 (S xs.length)->H5 D=none->Am X.K G5 (zs.filterMap id) vs->Cg X pins (AN H5 D (.lst vs)) C->(∃ m,s'.heap.Ns C m)->compPost (model X.prog X.w) X.A X.xe use Q (.ref D) C (.ok .next) s')
    (hs:∀ x,foldedSetIterable iter X.env x=pure x:=by intro _; rfl) :
    wpAny (model X.prog X.w) X.A (comprehension (.ListComp elt [⟨tg,iter,ifs,0⟩] scope pos) scope X.env (firstIterPos [⟨tg,iter,ifs,0⟩] pos) (newList []) false (eval iter X.env) use) Q X.xe s:=by
  refine wpAny_comprehension_free rfl hs (Zw λy hy e=>I.ok.has _ (hfr y hy e)) hk hnm (Ar (hi G pins s σ H (λJ H1=>∃ G1,Ah G G1/\SA X.K G1 H1 O/\DI X.K G1 J xs) I ⟨sa,en,λJ G1 H1 e1 s1 y1=>⟨G1,e1,s1,y1⟩⟩) λv s1 h1=>Ar h1 λitv s2 h2=>?_)
  obtain ⟨it,fp,tn,J,H2,e,I2,T,st2,f2,G2,e2,sa2,Yi⟩:=h2
  subst e
  have ho2:∀ b∈fp,∃ o,s2.heap.get? b=some o:=λb hb=>let ⟨o,q,_⟩:=T.obj 0 _ st2 b hb; ⟨o,q⟩
  have hlt:∀ b∈fp,b<s2.heap.objs.size:=λb hb=>let ⟨o,q⟩:=ho2 b hb; Heap.lt_size q
  unfold newList
  refine wpAny_newObj_type (WW λbb hbb=>?_)
  have hbb':bb=X.env.builtins:=hbb
  subst hbb'
  have hz1:(s2.heap.push { cls:=.type "list",dict:=none,data:=.seq ([]:List Value).toArray }).objs.size=s2.heap.objs.size+1:=Heap.size_push ..
  dsimp only
  rw [hz1]
  generalize hD:s2.heap.objs.size=dd at hz1 ⊢
  -- the block's own context
  have en2:AH X.K G2 σ ρ:=en.ext e2
  obtain ⟨σ0,hσl,hσ0⟩:=Qg (λi (o:Option V)=>(∀ d,ρ0[i]?=some (some d)->∃ v,o=some v/\Is X.K G2 d v)/\∀ v,o=some v->∃ (x:Str) (j:Nat),N[i]?=some x/\scope.names.lookup x=some .free/\(∀ y∈scope.names,y.1=x->y.2≠.cell)/\X.N[j]?=some x/\σ[j]?=some (some v)/\Em X.env.scope x) N.length (λi hi=>by
    cases q:ρ0[i]? with
    | none=>exact ⟨none,And.intro (λd z=>nomatch z) (λv z=>nomatch z)⟩
    | some o=>
      cases o with
      | none=>exact ⟨none,And.intro (λd z=>nomatch z) (λv z=>nomatch z)⟩
      | some d=>
        obtain ⟨x,j,q1,q2,q3,q4,q5,q6⟩:=h0 i d q
        obtain ⟨v,q7,q8⟩:=en2.get j d q5
        exact ⟨some v,And.intro (λd' z=>by cases z; exact ⟨v,rfl,q8⟩) (λv' z=>by cases z; exact ⟨x,j,q1,q2,q3,q4,q7,q6⟩)⟩)
  have en0:AH X.K G2 σ0 ρ0:=⟨hσl.trans hl0.symm,λi d e=>by
    have hi:i<σ0.length:=by rw [hσl,<- hl0]; exact (List.getElem?_eq_some_iff.mp e).1
    obtain ⟨v,e1,e2⟩:=(hσ0 i σ0[i] (List.getElem?_eq_getElem hi)).1 d e
    exact ⟨v,by rw [List.getElem?_eq_getElem hi,e1],e2⟩⟩
  have I3:=XU (N:=N) (scope:=scope) (fp:=fp) (σ0:=σ0) I2 f2 ho2 hk hfr hσl (λi v e=>(hσ0 i _ e).2 v rfl) s2.toks { cls:=.type "list",dict:=none,data:=.seq ([]:List Value).toArray }
  generalize hY:Dg X N scope s2 H2 fp=Y at I3
  have hD1:(pushCells ((s2.heap.push { cls:=.type "list",dict:=none,data:=.seq ([]:List Value).toArray }).push { cls:=.type "dict",data:=.dict #[] }) scope.names).get? dd=some (Db []):=by
    refine pushCells_keeps _ _ _ _ (Heap.get?_push_of_some _ ?_)
    rw [<- hD]
    exact Heap.get?_push_size _ rfl
  have hHD:H2 dd=none:=I2.hok.fresh (by rw [hD]; exact Nat.le_refl _)
  have hsD:s2.heap.get? dd=none:=Heap.get?_none_of_le (by rw [hD]; exact Nat.le_refl _)
  have hDC:dd≠Y.env.locals:=by
    rw [<- hY]; show dd≠s2.heap.objs.size+1; rw [hD]; exact Nat.ne_of_lt (Nat.lt_succ_self _)
  have hfs:∀ b∈C0 X.stack,b<s2.heap.objs.size:=λb hb=>by
    rcases List.mem_cons.mp (I2.stkSub b hb) with q | q
    · rw [q]; exact I2.lt
    · exact Nat.lt_of_not_le λz=>I2.nofs z q
  have hYfs:Y.fs=C0 X.stack:=by rw [<- hY]; rfl
  have hDfs:dd∉Y.fs:=λz=>by rw [hYfs] at z; have:=hfs dd z; rw [hD] at this; exact Nat.lt_irrefl _ this
  have hYex:Y.ex=fp:=by rw [<- hY]; rfl
  have hYpn:Y.pn=[]:=by rw [<- hY]; rfl
  have hYxe:Y.xe=λ_ _=>False:=by rw [<- hY]; rfl
  have hYs:Y.s₀.heap.objs.size=dd:=by rw [<- hY]; exact hD
  have hYc:∀ x c,Y.env.cells.lookup x=some c->c≠dd/\∀ b∈fp,c≠b:=λx c e=>by
    refine ⟨?_,λb hb=>?_⟩
    ·
      intro z
      subst z
      obtain ⟨v,o,q1,q2⟩:=I3.cell x c e
      rw [hD1] at q1; cases q1; cases q2
    ·
      have:=I3.ok.exf b (by rw [hYex]; exact hb)
      exact this.2 x c e
  have fpY:∀ {H':Hp} {pl:List (Addr×Obj)},(∀ b∈fp,H' b=none)->(∀ p∈pl,p.1=dd)->∀ b∈fp,Cg Y pl H' b:=λhn hp b hb=>⟨hn b hb,(I3.ok.exf b (by rw [hYex]; exact hb)).1,I3.ok.exfs b (by rw [hYex]; exact hb),.inl (by rw [hYex]; exact hb),λx c e=>(hYc x c e).2 b hb,λp hq=>by
    rw [hYpn,List.nil_append] at hq
    rw [hp p hq]
    exact Nat.ne_of_gt (by rw [<- hD]; exact hlt b hb)⟩
  have I4:L2.Inv Y [(dd,Db [])] σ0 H2 { s2 with heap:=pushCells ((s2.heap.push { cls:=.type "list",dict:=none,data:=.seq ([]:List Value).toArray }).push { cls:=.type "dict",data:=.dict #[] }) scope.names,toks:=s2.toks }:=I3.pins_of λp hp=>by
    rw [List.mem_singleton.mp hp]
    exact ⟨hD1,hHD,hDC,hDfs,λv z=>by cases z⟩
  have st4:tn 0 (pushCells ((s2.heap.push { cls:=.type "list",dict:=none,data:=.seq ([]:List Value).toArray }).push { cls:=.type "dict",data:=.dict #[] }) scope.names):=T.keep 0 _ _ st2 λb hb o e=>pushCells_keeps _ _ b o (Heap.get?_push_of_some _ (Heap.get?_push_of_some _ e))
  have hYp:Y.prog=X.prog:=by rw [<- hY]; rfl
  have hYw:Y.w=X.w:=by rw [<- hY]; rfl
  have hYK:Y.K=X.K:=by rw [<- hY]; rfl
  have hYA:Y.A=X.A:=by rw [<- hY]; rfl
  have hYcm:Y.calm=true:=by rw [<- hY]; exact hc
  have loop:∀ s3:Shared,s3={ s2 with heap:=pushCells ((s2.heap.push { cls:=.type "list",dict:=none,data:=.seq ([]:List Value).toArray }).push { cls:=.type "dict",data:=.dict #[] }) scope.names }->
      codeAny (model X.prog X.w) X.A (.compLoop (.ListComp elt [⟨tg,iter,ifs,0⟩] scope pos) 0 (.ref it) (.ref dd) Y.env) (compPost (model X.prog X.w) X.A X.xe use Q (.ref dd) (dd+1)) s3:=by
    rintro s3 rfl
    refine Zo (λn s'=>∃ (i:Nat) (G':Wd) (σ':L2.St) (H':Hp) (vs:List V) (its:List Value),n=xs.length-i/\i<=xs.length/\L2.Inv Y [(dd,Db its)] σ' H' s'/\tn i s'.heap/\(∀ b∈fp,H' b=none)/\Ah G2 G'/\SA X.K G' H' (S i)/\AH X.K G' σ' ρ0 /\
      Am X.K G' ((zs.take i).filterMap id) vs/\AC vs its/\its.length<=i) ?_ xs.length _ ⟨0,G2,σ0,H2,[],[],rfl,Nat.zero_le _,I4,st4,λb hb=>(f2 b hb).1,Ah.refl _,hS0 ▸ sa2,en0,.nil,.nil,Nat.le_refl _⟩
    rintro n s5 F ⟨i,G5,σ5,H5,vs,its,rfl,hil,I5,st5,fr5,e5,sa5,en5,is5,va5,hl5⟩
    by_cases hlt5:i<xs.length
    ·
      have hx:xs[i]?=some xs[i]:=List.getElem?_eq_getElem hlt5
      have hzi:i<zs.length:=by omega
      have hz:zs[i]?=some zs[i]:=List.getElem?_eq_getElem hzi
      generalize xs[i]=x at hx
      generalize zs[i]=z at hz
      have it5:=T.item Y hYp hYw hYK hYcm i [(dd,Db its)] s5 σ5 H5 F I5 (fpY fr5 (λp hp=>by rw [List.mem_singleton.mp hp])) st5 (Yi.go i H5 (e5.g.trans sa5.sub) hlt5)
      rw [hYA] at it5
      refine Ar it5 λr s6 ⟨u,hr,h6⟩=>?_
      subst hr
      refine Ar h6 λ_ s7 ⟨xv,H7,I7,r7,y7,st7,fr7⟩=>?_
      obtain ⟨x',G7,hx',e7,sa7,ix⟩:=Yi.yld i xv H5 H7 G5 (S i) e5 sa5 y7 hlt5
      have:x'=x:=Option.some.inj (hx'.symm.trans hx)
      subst this
      have I7':=I7.pinned (fpY fr7 (λp hp=>by rw [List.mem_singleton.mp hp])) (T.obj _ _ st7)
      obtain ⟨ρ1,tg1,hl1,hs1,kp1⟩:=turn s2 H2 fp i x' z hx hz
      rw [hY] at tg1 kp1
      have xeF:∀ {α:Type} {t:Sem α} {P:α->Shared->Prop} {q:Shared},wpAny (model Y.prog Y.w) Y.A t P Y.xe q->wpAny (model X.prog X.w) X.A t P F q:=λh=>by
        rw [hYp,hYw,hYA,hYxe] at h
        exact wpAny_mono h (λ_ _ q=>q) λ_ _ q=>q.elim
      refine Ar (xeF (tg1 G7 _ s7 σ5 H7 xv u (λσ' H'=>AH X.K G7 σ' ρ1/\H'=H7) I7' r7 (by
        rw [hYK]
        exact ⟨ix,sa7.sub,en5.ext e7,λσ' q=>⟨q,rfl⟩⟩))) λ_ s8 ⟨σ8,H8,I8,en8,hH8⟩=>?_
      subst hH8
      -- back to the invariant,with or without one more
      have again:∀ {s9:Shared} {H9:Hp} {G9:Wd} {its':List Value} {vs':List V},L2.Inv Y ((dd,Db its')::Ea fp s7.heap) σ8 H9 s9->Ah G7 G9->SA X.K G9 H9 (S (i+1))->Am X.K G9 ((zs.take (i+1)).filterMap id) vs'->AC vs' its'->its'.length<=i+1->
          ∃ m,m<xs.length-i/\∃ (i:Nat) (G':Wd) (σ':L2.St) (H':Hp) (vs:List V) (its:List Value),m=xs.length-i/\i<=xs.length/\L2.Inv Y [(dd,Db its)] σ' H' s9/\tn i s9.heap/\(∀ b∈fp,H' b=none)/\Ah G2 G'/\SA X.K G' H' (S i)/\AH X.K G' σ' ρ0 /\
            Am X.K G' ((zs.take i).filterMap id) vs/\AC vs its/\its.length<=i:=λ{s9 H9 G9 its' vs'} I9 e9 sa9 is9 va9 hl9=>by
        refine ⟨xs.length-(i+1),by omega,i+1,G9,σ8,H9,vs',its',rfl,hlt5,I9.pins_of (λp hp=>I9.pin p (by rw [hYpn,List.nil_append]; rw [List.mem_singleton.mp hp]; exact List.mem_cons_self)),T.keep _ _ _ st7 λb hb o e=>(I9.pin (b,o) (by rw [hYpn,List.nil_append]; exact List.mem_cons_of_mem _ (IA hb e))).1,λb hb=>?_,(e5.trans e7).trans e9,sa9,(en8.weak hl1.symm hs1).ext e9,is9,va9,hl9⟩
        obtain ⟨o,e,_⟩:=T.obj _ _ st7 b hb
        exact (I9.pin (b,o) (by rw [hYpn,List.nil_append]; exact List.mem_cons_of_mem _ (IA hb e))).2.1
      have more:∀ {y:D} {s9:Shared} {G9:Wd} {H9:Hp},z=some y->L2.Inv Y ([(dd,Db its)]++Ea fp s7.heap) σ8 H9 s9->Ah G7 G9->SA X.K G9 H9 (S i)->Ev Y ρ1 (S i) elt (λd O'=>d=y/\O'=S (i+1))->wpAny (model X.prog X.w) X.A (eval elt Y.env) (λx s5=>wpAny (model X.prog X.w) X.A (call (.builtin "list.append") [.ref dd,x]) (λ_ s6=>∃ m,m<xs.length-i/\∃ (i:Nat) (G':Wd) (σ':L2.St) (H':Hp) (vs:List V) (its:List Value),m=xs.length-i/\i<=xs.length/\L2.Inv Y [(dd,Db its)] σ' H' s6/\tn i s6.heap/\(∀ b∈fp,H' b=none)/\Ah G2 G'/\SA X.K G' H' (S i)/\AH X.K G' σ' ρ0 /\
            Am X.K G' ((zs.take i).filterMap id) vs/\AC vs its/\its.length<=i) F s5) F s9:=λ{y s9 G9 H9} hzy I9 e9 sa9 ev=>by
        refine Ar (xeF (ev G9 _ s9 σ8 H9 (λv H'=>∃ G',Ah G9 G'/\SA X.K G' H' (S (i+1))/\Is X.K G' y v) I9 (by
          rw [hYK]
          exact ⟨sa9,en8.ext e9,λv d O' G' H' q1 q2 q3 q4=>by obtain ⟨rfl,rfl⟩:=q4; exact ⟨G',q1,q2,q3⟩⟩))) λuy s10 ⟨vy,H10,I10,r10,G10,e10,sa10,iy⟩=>?_
        have p10:=I10.pin (dd,Db its) (by rw [hYpn,List.nil_append]; exact List.mem_append_left _ List.mem_cons_self)
        refine append_at (hsz:=by show its.toArray.size<=sizeLine; rw [List.size_toArray]; omega) p10.1 λh' hs' hD'=>?_
        have Ia:L2.Inv Y (Ea fp s7.heap) σ8 H10 s10:=I10.pins_of λp hp=>I10.pin p (by rw [hYpn,List.nil_append]; exact List.mem_append_right _ hp)
        have Ib:L2.Inv Y (Ea fp s7.heap) σ8 H10 { s10 with heap:=h' }:=Ia.turned (t':=s10.toks) (λb o hb e=>(hs'.2 b hb).trans e) p10.2.1 hDC (.inr (by rw [hYs]; exact Nat.le_refl _)) (λx c e=>(hYc x c e).1) (λp hp=>by
          rw [hYpn,List.nil_append] at hp
          obtain ⟨hb,_⟩:=Ph hp
          exact Nat.ne_of_lt (by rw [<- hD]; exact hlt p.1 hb))
        have Ic:L2.Inv Y ((dd,Db (its++[uy]))::Ea fp s7.heap) σ8 H10 { s10 with heap:=h' }:=Ib.pins_of λp hp=>by
          rcases List.mem_cons.mp hp with q | q
          ·
            rw [q]
            refine ⟨hD'.trans ?_,p10.2.1,hDC,hDfs,λv z=>by cases z⟩
            congr 1
            simp [Db]
          · exact Ib.pin p (by rw [hYpn,List.nil_append]; exact q)
        refine again Ic (e9.trans e10) sa10 (vs':=vs++[vy]) ?_ (va5.append (.cons r10 .nil)) (by rw [List.length_append,List.length_singleton]; omega)
        rw [Qb zs i z hz,hzy]
        exact (is5.ext ((e7.trans e9).trans e10)).append (.cons iy .nil)
      match ifs,kp1 with
      | [],kp1=>
        obtain ⟨y,hzy,ev⟩:=kp1
        unfold compTests
        refine wpAny_bind (wpAny_tests_nil (wpAny_pure ?_))
        simp only [if_true]
        exact more hzy I8 (Ah.refl _) sa7 ev
      | [c],kp1=>
        obtain ⟨k,tc,ht,hff⟩:=kp1
        unfold compTests
        refine wpAny_bind (wpAny_tests_one (Ar (xeF (tc G7 _ s8 σ8 H8 (λb H'=>b=k/\∃ G',Ah G7 G'/\SA X.K G' H' (S i)) I8 (by
          rw [hYK]
          exact ⟨sa7,en8,λG' H' q1 q2=>⟨rfl,G',q1,q2⟩⟩))) λb s9 ⟨H9,I9,hb,G9,e9,sa9⟩=>wpAny_pure ?_))
        subst hb
        cases b with
        | true=>
          obtain ⟨y,hzy,ev⟩:=ht rfl
          simp only [if_true]
          exact more hzy I9 e9 sa9 ev
        | false=>
          simp only [Bool.false_eq_true,if_false]
          refine again I9 e9 (by rw [(hff rfl).2]; exact sa9) (vs':=vs) ?_ va5 (Nat.le_succ_of_le hl5)
          rw [Qb zs i z hz,(hff rfl).1]
          simpa using is5.ext (e7.trans e9)
      | _::_::_,kp1=>exact kp1.elim
    ·
      have hie:i=xs.length:=by omega
      subst hie
      have dn:=T.done Y hYp hYw hYK hYcm xs.length [(dd,Db its)] s5 σ5 H5 F I5 (fpY fr5 (λp hp=>by rw [List.mem_singleton.mp hp])) st5 (Yi.stop _ H5 (e5.g.trans sa5.sub) (Nat.le_refl _))
      rw [hYA] at dn
      refine Ar dn λr s6 ⟨hr,I6⟩=>?_
      subst hr
      have p6:=I6.pin (dd,Db its) (by rw [hYpn,List.nil_append]; exact List.mem_cons_self)
      rw [<- hzl,List.take_length] at is5
      have vl:vs.length<=sizeLine:=by rw [va5.length]; omega
      have Ix:L2.Inv X pins σ (AN H5 dd (.lst vs)) s6:=by
        have un:=I6.base
        rw [hYfs,hYex,<- hY] at un
        have un:Un (C0 X.stack) fp H2 H5 s2.heap s6.heap:=un
        refine I2.call' (ch:=fp) (I6.os.trans (by rw [<- hY]; rfl)) (Z6 un hHD hsD) ?_ I6.bare λb hb=>?_
        ·
          have hk6:=I6.hok
          rw [hYp,hYw] at hk6
          exact Rf hk6 p6.2.1 ⟨vl,its,its.length,va5,p6.1⟩
        ·
          obtain ⟨_,f1,_,f3,f4,f5⟩:=f2 b hb
          exact ⟨f3,f1,f4,f5⟩
      refine fin dd (dd+1) s6 _ _ vs Ix (e2.trans e5) sa5 p6.2.1 is5 ?_ ?_
      ·
        have hC:dd+1=Y.env.locals:=by rw [<- hY]; show dd+1=s2.heap.objs.size+1; rw [hD]
        have ge:s2.heap.objs.size<=dd+1:=by rw [hD]; exact Nat.le_succ _
        have:=I2.fpOk (H':=AN H5 dd (.lst vs)) ge (by
          have q:=I6.free
          rw [<- hC] at q
          rw [A4 (show dd+1≠dd from Nat.succ_ne_self _)]
          exact q)
        exact this
      ·
        obtain ⟨m,hn,_⟩:=I6.loc
        rw [<- hY] at hn
        have hn:s6.heap.Ns (s2.heap.objs.size+1) m:=hn
        rw [hD] at hn
        exact ⟨m,hn⟩
  have eY:Y.env={ scope:=relabel scope X.env,locals:=dd+1,globals:=X.env.globals,cells:=cellsFrom (dd+1+1) scope.names (CT X.env scope.names []),qual:=X.env.qual,func:=none,code:=X.env.code,frame:=X.env.frame,builtins:=X.env.builtins }:=by
    rw [<- hY]
    show compEnvC _ _ _ _=_
    rw [hD]
    rfl
  rw [<- eY]
  exact codeAny_compStart_list (loop _ rfl) (T.self X.A 0 _ _ _ st4 (loop _ rfl))
theorem QE (N:List Str) (js:List Nat) (ρ0:Aj) (hi:Ci X ρ O tg iter xs) (hc:X.calm=true) (hk:scope.kind=.function) (hfr:Hw X scope) (hnm:∀ x∈scope.names,x.2=.local->scope.names.lookup x.1=some .local)
  (hl0:ρ0.length=N.length)
  (h0:∀ (i:Nat) (d:D),ρ0[i]?=some (some d)->∃ (x:Str) (j:Nat),N[i]?=some x/\scope.names.lookup x=some .free/\(∀ y∈scope.names,y.1=x->y.2≠.cell)/\X.N[j]?=some x/\ρ[j]?=some (some d)/\Em X.env.scope x)
  (hzl:zs.length=xs.length) (hsz:xs.length<=sizeLine)
  (turn:∀ (s:Shared) (H:Hp) (fp:List Addr) (i:Nat) (x:D) (z:Option D),xs[i]?=some x->zs[i]?=some z->∃ ρ1,Tg (Dg X N scope s H fp) tg x ρ0 ρ1/\ρ1.length=ρ0.length/\(∀ (j:Nat) (d:D),ρ0[j]?=some (some d)->ρ1[j]?=some (some d))/\Jh (Dg X N scope s H fp) ρ1 O elt ifs z)
  {use:Option (Value->Sem Unit)} {pins:List (Addr×Obj)} {s:Shared} {σ:L2.St} {H:Hp} {G:Wd} {Q:Value->Shared->Prop} (I:L2.Inv X pins σ H s) (sa:SA X.K G H O) (en:AH X.K G σ ρ)
  (fin:∀ (D C:Addr) (s':Shared) (H':Hp) (G':Wd),L2.Inv X pins σ H' s'->Ah G G'->SA X.K G' H' O->Is X.K G' (.lst (zs.filterMap id)) (.ref D)->Cg X pins H' C->(∃ m,s'.heap.Ns C m)->compPost (model X.prog X.w) X.A X.xe use Q (.ref D) C (.ok .next) s')
  (hs:∀ x,foldedSetIterable iter X.env x=pure x:=by intro _; rfl) :
  wpAny (model X.prog X.w) X.A (comprehension (.ListComp elt [⟨tg,iter,ifs,0⟩] scope pos) scope X.env (firstIterPos [⟨tg,iter,ifs,0⟩] pos) (newList []) false (eval iter X.env) use) Q X.xe s:=by
 refine QD (λ_=>O) rfl N js ρ0 hi hc hk hfr hnm hl0 h0 hzl hsz (λs H fp i x z q1 q2=>?_) I sa en (λD C s' H5 G5 vs I5 e5 sa5 hD is5 f5 n5=>?_) hs
 ·obtain ⟨ρ1,t1,t2,t3,t4⟩:=turn s H fp i x z q1 q2
  exact ⟨ρ1,t1,t2,t3,t4.s⟩
 ·obtain ⟨ed,sd⟩:=sa5.laid (p:=D) (o:=.lst vs) hD
  exact fin D C s' _ _ I5 (e5.trans ed) sd (.lst BF (is5.ext ed)) f5 n5
def C1 (XN:List Str) (xs cs:List (Str×NameKind)) (F:List Str) (js:List Nat):Bool:=
 (js.map λj=>XN[j]?)==F.map some&&(F.all λx=>cs.lookup x==some .free&&(cs.all λy=>y.1 != x||y.2 != .cell)&&(xs.lookup x==some .cell||xs.lookup x==some .free)) &&
 (cs.all λy=>(y.2 != .free||xs.lookup y.1==some .cell||xs.lookup y.1==some .free)&&(y.2 != .local||cs.lookup y.1==some .local))
def Cw (ρ:Aj) (js:List Nat):Aj:=js.map λj=>(ρ[j]?).getD none
theorem LX {F:List Str} {js:List Nat} (h:C1 X.N X.env.scope.names scope.names F js=true):Hw X scope:=λy hy e=>by
 unfold C1 at h
 simp only [Bool.and_eq_true,List.all_eq_true] at h
 have q:=(h.2 y hy).1
 rw [e] at q
 have q:(X.env.scope.names.lookup y.1==some .cell||X.env.scope.names.lookup y.1==some .free)=true:=by simpa using q
 rcases (Bool.or_eq_true _ _).mp q with q | q
 ·exact .inl (show X.env.scope.names.lookup y.1=_ by simpa using q)
 ·exact .inr (show X.env.scope.names.lookup y.1=_ by simpa using q)
theorem LW {F:List Str} {js:List Nat} (h:C1 X.N X.env.scope.names scope.names F js=true):∀ x∈scope.names,x.2=.local->scope.names.lookup x.1=some .local:=λy hy e=>by
 unfold C1 at h
 simp only [Bool.and_eq_true,List.all_eq_true] at h
 have q:=(h.2 y hy).2
 rw [e] at q
 simpa using q
theorem LY {T F:List Str} {js:List Nat} (h:C1 X.N X.env.scope.names scope.names F js=true) (i:Nat) (d:D) (e:(T.map (λ_=>(none:Option D))++Cw ρ js)[i]?=some (some d)) :
  ∃ (x:Str) (j:Nat),(T++F)[i]?=some x/\scope.names.lookup x=some .free/\(∀ y∈scope.names,y.1=x->y.2≠.cell)/\X.N[j]?=some x/\ρ[j]?=some (some d)/\Em X.env.scope x:=by
 unfold C1 at h
 simp only [Bool.and_eq_true,List.all_eq_true,beq_iff_eq] at h
 obtain ⟨⟨h1,h2⟩,h3⟩:=h
 by_cases hi:i<T.length
 ·rw [List.getElem?_append_left (by simpa using hi),List.getElem?_map] at e
  cases q:T[i]? with
  | none=>rw [q] at e; cases e
  | some _=>rw [q] at e; cases e
 ·rw [List.getElem?_append_right (by simpa using hi),List.length_map] at e
  unfold Cw at e
  rw [List.getElem?_map] at e
  cases q:js[i-T.length]? with
  | none=>rw [q] at e; cases e
  | some j=>
   rw [q] at e
   have e:(ρ[j]?).getD none=some d:=Option.some.inj e
   have hρ:ρ[j]?=some (some d):=by
    cases q2:ρ[j]? with
    | none=>rw [q2] at e; cases e
    | some o=>rw [q2] at e; rw [show o=some d from e]
   have hF:=congrArg (λl=>l[i-T.length]?) h1
   simp only [List.getElem?_map,q,Option.map_some] at hF
   cases qF:F[i-T.length]? with
   | none=>rw [qF] at hF; cases hF
   | some x=>
    rw [qF] at hF
    have hF:X.N[j]?=some x:=Option.some.inj hF
    obtain ⟨⟨g1,g2⟩,g3⟩:=h2 x (List.mem_of_getElem? qF)
    refine ⟨x,j,by rw [List.getElem?_append_right wF]; exact qF,g1,λy hy ey=>?_,hF,hρ,?_⟩
    ·have:=g2 y hy
     rw [ey] at this
     simpa using this
    ·rcases (Bool.or_eq_true _ _).mp g3 with g | g
     ·exact .inr (.inl (by simpa using g))
     ·exact .inr (.inr (by simpa using g))
theorem JH {ts fr:Aj} {T:List Str} (h:ts.length=T.length):(ts++fr).length=(T.map (λ_=>(none:Option D))++fr).length/\∀ (j:Nat) (d:D),(T.map (λ_=>(none:Option D))++fr)[j]?=some (some d)->(ts++fr)[j]?=some (some d):=by
 refine ⟨by simp [h],λj d e=>?_⟩
 by_cases hj:j<T.length
 ·rw [List.getElem?_append_left (by simpa using hj),List.getElem?_map] at e
  cases q:T[j]? with
  | none=>rw [q] at e; cases e
  | some _=>rw [q] at e; cases e
 ·rw [List.getElem?_append_right (by simpa using hj),List.length_map] at e
  rw [List.getElem?_append_right wF,h]
  exact e
def Gp (X:Cx) (T F:List Str) (js:List Nat) (ρ:Aj) (O:Ad) (scope:Scope) (tg elt:Expr) (ifs:List Expr) (x:D) (z:Option D):Prop:=
 ∀ (s:Shared) (H:Hp) (fp:List Addr),∃ ts:Aj,ts.length=T.length/\Tg (Dg X (T++F) scope s H fp) tg x (T.map (λ_=>(none:Option D))++Cw ρ js) (ts++Cw ρ js)/\Jh (Dg X (T++F) scope s H fp) (ts++Cw ρ js) O elt ifs z
theorem YJ (T F:List Str) (js:List Nat) (hi:Ci X ρ O tg iter xs) (hzl:zs.length=xs.length) (hsz:xs.length<=sizeLine) (turn:∀ (i:Nat) (x:D) (z:Option D),xs[i]?=some x->zs[i]?=some z->Gp X T F js ρ O scope tg elt ifs x z)
  (hfl:F.length=js.length) (hB:C1 X.N X.env.scope.names scope.names F js=true) (hc:X.calm=true) (hk:scope.kind=.function) (hs:∀ x,foldedSetIterable iter X.env x=pure x) :
  Ae X ρ O (.ListComp elt [⟨tg,iter,ifs,0⟩] scope pos) (.lst (zs.filterMap id)):=λG pins s σ H Q I ⟨h1,h2,h3⟩=>by
 rw [eval_ListComp]
 refine QE (T++F) js (T.map (λ_=>(none:Option D))++Cw ρ js) hi hc hk (LX hB) (LW hB) (by simp [Cw,hfl]) (LY hB) hzl hsz (λs H fp i x z q1 q2=>?_) I h1 h2 (λdd C s' H' G' I' e' sa' is' fo ns=>?_) hs
 ·obtain ⟨ts,t1,t2,t3⟩:=turn i x z q1 q2 s H fp
  obtain ⟨u1,u2⟩:=JH (fr:=Cw ρ js) t1
  exact ⟨_,t2,u1,u2,t3⟩
 ·obtain ⟨m,hn⟩:=ns
  refine ⟨m,hn,λh' hs'=>?_⟩
  obtain ⟨f0,f1,f2,f3,f4,f5⟩:=fo
  exact ⟨.ref dd,H',I'.turned (t':=s'.toks) (λb o hb e=>(hs'.2 b hb).trans e) f0 f1 f3 f4 f5,rfl,h3 _ G' H' e' sa' is'⟩
theorem Rq {x:Str} {p spos:Pos} {P:Bg} (k:Nat) (T F:List Str) (js:List Nat) (hi:Ci X ρ O tg iter xs) (hzl:zs.length=xs.length) (hsz:xs.length<=sizeLine) (turn:∀ (i:Nat) (x:D) (z:Option D),xs[i]?=some x->zs[i]?=some z->Gp X T F js ρ O scope tg elt ifs x z)
  (h:P.nx (ρ.set k (some (.lst (zs.filterMap id)))) O) (hN:X.N.Nodup) (hx:X.N[k]?=some x) (hlc:Ep X.env.scope x) (hf:X.fn x=true\/X.env.scope.names.lookup x=some .local)
  (hfl:F.length=js.length) (hB:C1 X.N X.env.scope.names scope.names F js=true) (hc:X.calm=true) (hk:scope.kind=.function) (hs:∀ x,foldedSetIterable iter X.env x=pure x)
  (hsw:swapsWith (.ListComp elt [⟨tg,iter,ifs,0⟩] scope pos) (some (.Name x p)) spos.line X.env=pure true):Ex X ρ O (.Assign [.Name x p] (.ListComp elt [⟨tg,iter,ifs,0⟩] scope pos) spos) P:=λG pins s σ H E I ⟨h1,h2,h3⟩=>by
 rw [PySem.exec_Assign_Name_used _ _ _ _ hsw]
 refine wpAny_bind (wpAny_standAt (wpAny_bind ?_))
 show wpAny _ _ (do let _ <- comprehension (.ListComp elt [⟨tg,iter,ifs,0⟩] scope pos) scope X.env _ (newList []) false (eval iter X.env) (some (assign (.Name x p) X.env))) _ _ s
 refine wpAny_bind (Ar (QE (use:=some (assign (.Name x p) X.env)) (Q:=λ_ s'=>SP X pins E .next s') (T++F) js (T.map (λ_=>(none:Option D))++Cw ρ js) hi hc hk (LX hB) (LW hB) (by simp [Cw,hfl]) (LY hB) hzl hsz (λs H fp i x z q1 q2=>?_) I h1 h2 (λdd C s' H' G' I' e' sa' is' fo ns=>?_) hs) λ_ s' hq=>wpAny_pure (wpAny_pure hq))
 ·obtain ⟨ts,t1,t2,t3⟩:=turn i x z q1 q2 s H fp
  obtain ⟨u1,u2⟩:=JH (fr:=Cw ρ js) t1
  exact ⟨_,t2,u1,u2,t3⟩
 ·obtain ⟨m,hn⟩:=ns
  obtain ⟨f0,f1,f2,f3,f4,f5⟩:=fo
  refine wpAny_assign_Name (Nl I' hN hx hlc (v:=.ref dd) rfl (λs2 I2 ⟨a,sb,ha⟩=>?_) hf)
  have hCa:C≠a:=by
   rcases ha with q | q
   ·rw [q]; exact f1
   ·exact Ne.symm (f4 _ _ q)
  refine ⟨m,hn.sameBut sb hCa,λh' hs'=>?_⟩
  exact ⟨_,H',I2.turned (t':=s2.toks) (λb o hb e=>(hs'.2 b hb).trans e) f0 f1 f3 f4 f5,h3.nx _ _ O G' H' e' sa' ((h2.ext e').set k is') h⟩
end
end DL
namespace DL
open PySem PySem.Spec PyProof.Rows L2 PySem.W
def Bj {α:Type} (lt:Nat->Nat->Bool):KasT α->α
 | .ret a=>a
 | .ask i j k=>Bj lt (k (lt i j))
theorem Fc {α β:Type} (lt:Nat->Nat->Bool) (f:α->KasT β):∀ t:KasT α,Bj lt (t.bind f)=Bj lt (f (Bj lt t))
 | .ret _=>rfl
 | .ask i j k=>Fc lt f (k (lt i j))
section
variable (key:Nat->Int)
abbrev BI (i j:Nat):Bool:=decide (key i<key j)
def KQ (p:Array Nat) (i:Nat):Int:=key (p.getD i 0)
theorem Mo (p:Array Nat):∀ (f n:Nat),∃ m,Bj (BI key) (kas_asc p f n)=m/\n<=m/\m<=n+f/\(∀ k,n<=k->k<m->KQ key p (k-1)<=KQ key p k)/\(m=n+f\/KQ key p m<KQ key p (m-1))
 | 0,n=>⟨n,rfl,Nat.le_refl _,Nat.le_refl _,λk h1 h2=>by omega,.inl rfl⟩
 | f+1,n=>by
  by_cases h:KQ key p n<KQ key p (n-1)
  ·refine ⟨n,?_,Nat.le_refl _,by omega,λk h1 h2=>by omega,.inr h⟩
   show Bj _ (if BI key _ _=true then _ else _)=_
   rw [if_pos (decide_eq_true (show key (p.getD n 0)<key (p.getD (n-1) 0) from h))]
   rfl
  ·obtain ⟨m,e,h1,h2,h3,h4⟩:=Mo p f (n+1)
   refine ⟨m,?_,by omega,by omega,λk g1 g2=>?_,by rcases h4 with h4 | h4; exact .inl wF; exact .inr h4⟩
   ·show Bj _ (if BI key _ _=true then _ else _)=_
    rw [if_neg (by simpa [BI] using (show ¬ key (p.getD n 0)<key (p.getD (n-1) 0) from h))]
    exact e
   ·by_cases hk:k=n
    ·subst hk; exact Int.not_lt.mp h
    ·exact h3 k wF g2
theorem Eg {p:Array Nat} {i:Nat}:p.getD i 0=(p[i]?).getD 0:=by
 by_cases h:i<p.size
 ·simp [Array.getD,h]
 ·simp [Array.getD,h]
theorem Mz {p:Array Nat} {i j:Nat} (hj:j<=p.size) (k:Nat):KQ key (kas_rev p i j) k=if i<=k/\k<j then KQ key p (i+j-1-k) else KQ key p k:=by
 unfold KQ kas_rev
 rw [Eg,getElem?_mirror_all hj k]
 split
 ·rw [Eg]
 ·rw [Eg]
theorem Mx {p:Array Nat} {i j:Nat} (hj:j<=p.size) (h:∀ k,i<=k->k<j->KQ key p k=KQ key p (j-1)) (k:Nat):KQ key (kas_rev p i j) k=KQ key p k:=by
 rw [Mz key hj k]
 split
 ·next hk=>rw [h k hk.1 hk.2,h _ wF wF]
 ·rfl
theorem IT:∀ (f:Nat) (p:Array Nat) (n q:Nat),q+1<=n->n+f<=p.size->(∀ i j,i<=j->j<n->KQ key p j<=KQ key p i)->(∀ k,n-(q+1)<=k->k<n->KQ key p k=KQ key p (n-1))->
  ∃ p' n' q',Bj (BI key) (kas_desc f p n q)=(p',n',q')/\n<=n'/\n'<=n+f/\q'+1<=n'/\p'.Perm p/\p'.size=p.size/\(∀ i j,i<=j->j<n'->KQ key p' j<=KQ key p' i)/\(∀ k,n'-(q'+1)<=k->k<n'->KQ key p' k=KQ key p' (n'-1))
 | 0,p,n,q,h1,h2,h3,h4=>⟨p,n,q,rfl,Nat.le_refl _,Nat.le_refl _,h1,Array.Perm.refl _,rfl,h3,h4⟩
 | f+1,p,n,q,h1,h2,h3,h4=>by
  by_cases h:KQ key p n<KQ key p (n-1)
  ·have step:∀ p2:Array Nat,p2.Perm p->p2.size=p.size->(∀ k,KQ key p2 k=KQ key p k)->(∀ i j,i<=j->j<n+1->KQ key p2 j<=KQ key p2 i):=λp2 _ _ e i j hij hj=>by
    rw [e,e]
    by_cases hjn:j=n
    ·subst hjn
     by_cases hin:i=j
     ·subst hin; exact Int.le_refl _
     ·have:=h3 i (j-1) wF wF; omega
    ·exact h3 i j hij wF
   by_cases hq:q>0
   ·have hE:∀ k,KQ key (kas_rev p (n-(q+1)) n) k=KQ key p k:=Mx key wF h4
    obtain ⟨p',n',q',e,g⟩:=IT f (kas_rev p (n-(q+1)) n) (n+1) 0 wF (by rw [kas_rev_size]; omega) (step _ (mirror_perm _ _ _ _) (kas_rev_size _ _) hE) (λk k1 k2=>by rw [show k=n+1-1 by omega])
    refine ⟨p',n',q',?_,by omega,by omega,g.2.2.1,g.2.2.2.1.trans (mirror_perm _ _ _ _),g.2.2.2.2.1.trans (kas_rev_size _ _),g.2.2.2.2.2⟩
    show Bj _ (if BI key _ _=true then _ else _)=_
    rw [if_pos (decide_eq_true (show key (p.getD n 0)<key (p.getD (n-1) 0) from h)),if_pos hq]
    exact e
   ·obtain ⟨p',n',q',e,g⟩:=IT f p (n+1) 0 wF wF (step _ (Array.Perm.refl _) rfl λ_=>rfl) (λk k1 k2=>by rw [show k=n+1-1 by omega])
    refine ⟨p',n',q',?_,by omega,by omega,g.2.2⟩
    show Bj _ (if BI key _ _=true then _ else _)=_
    rw [if_pos (decide_eq_true (show key (p.getD n 0)<key (p.getD (n-1) 0) from h)),if_neg hq]
    exact e
  ·by_cases h':KQ key p (n-1)<KQ key p n
   ·refine ⟨p,n,q,?_,Nat.le_refl _,by omega,h1,Array.Perm.refl _,rfl,h3,h4⟩
    show Bj _ (if BI key _ _=true then _ else _)=_
    rw [if_neg (by simpa [BI] using (show ¬ key (p.getD n 0)<key (p.getD (n-1) 0) from h))]
    show Bj _ (if BI key _ _=true then _ else _)=_
    rw [if_pos (decide_eq_true (show key (p.getD (n-1) 0)<key (p.getD n 0) from h'))]
    rfl
   ·have he:KQ key p n=KQ key p (n-1):=by omega
    obtain ⟨p',n',q',e,g⟩:=IT f p (n+1) (q+1) wF wF (λi j hij hj=>by
     by_cases hjn:j=n
     ·subst hjn
      by_cases hin:i=j
      ·subst hin; exact Int.le_refl _
      ·have:=h3 i (j-1) wF wF; omega
     ·exact h3 i j hij wF) (λk k1 k2=>by
     show _=KQ key p n
     by_cases hkn:k=n
     ·subst hkn; rfl
     ·rw [h4 k wF wF,he])
    refine ⟨p',n',q',?_,by omega,by omega,g.2.2⟩
    show Bj _ (if BI key _ _=true then _ else _)=_
    rw [if_neg (by simpa [BI] using (show ¬ key (p.getD n 0)<key (p.getD (n-1) 0) from h))]
    show Bj _ (if BI key _ _=true then _ else _)=_
    rw [if_neg (by simpa [BI] using (show ¬ key (p.getD (n-1) 0)<key (p.getD n 0) from h'))]
    exact e
def C6 (p:Array Nat) (m:Nat):Prop:=∀ i j,i<=j->j<m->KQ key p i<=KQ key p j
theorem Nq {p:Array Nat} {m:Nat} (h:∀ k,1<=k->k<m->KQ key p (k-1)<=KQ key p k):C6 key p m:=by
  intro i j hij hj
  induction j with
  | zero=>
            have:i=0:=by omega
            subst this; exact Int.le_refl _
  | succ j ih=>
    by_cases e:i=j+1
    · subst e; exact Int.le_refl _
    · exact Int.le_trans (ih wF wF) (h (j+1) wF hj)
theorem Na {n nrem:Nat} {p:Array Nat} (h1:1<=n) (hn:n<=nrem) (hz:nrem<=p.size) (h3:∀ i j,i<=j->j<n->KQ key p j<=KQ key p i):∃ m p',Bj (BI key) (kas_tail3 n nrem p)=(m,p')/\1<=m/\m<=nrem/\p'.Perm p/\p'.size=p.size/\C6 key p' m:=by
 obtain ⟨m,e,g1,g2,g3,g4⟩:=Mo key (kas_rev p 0 n) (nrem-n) n
 refine ⟨m,kas_rev p 0 n,?_,by omega,by omega,mirror_perm _ _ _ _,kas_rev_size _ _,Nq key λk k1 k2=>?_⟩
 ·unfold kas_tail3
  rw [Fc,e]
  rfl
 ·by_cases hk:n<=k
  ·exact g3 k hk k2
  ·rw [Mz key wF,Mz key wF,if_pos wF,if_pos wF]
   exact h3 _ _ wF wF
theorem Qr {n nrem:Nat} {p:Array Nat} (h1:1<=n) (hn:n+1<=nrem) (hz:nrem<=p.size) (h3:∀ i j,i<=j->j<n+1->KQ key p j<=KQ key p i):∃ m p',Bj (BI key) (kas_descPart n nrem p)=(m,p')/\1<=m/\m<=nrem/\p'.Perm p/\p'.size=p.size/\C6 key p' m:=by
 obtain ⟨p1,n1,q1,e,g1,g2,g3,g4,g5,g6,g7⟩:=IT key (nrem-(n+1)) p (n+1) 0 wF wF h3 (λk k1 k2=>by rw [show k=n+1-1 by omega])
 unfold kas_descPart
 rw [Fc,e]
 by_cases hq:q1>0
 ·have hE:∀ k,KQ key (kas_rev p1 (n1-(q1+1)) n1) k=KQ key p1 k:=Mx key wF g7
  obtain ⟨m,p',e',k1,k2,k3,k4,k5⟩:=Na key (n:=n1) (nrem:=nrem) (p:=kas_rev p1 (n1-(q1+1)) n1) wF wF (by rw [kas_rev_size]; omega) (λi j hij hj=>by rw [hE,hE]; exact g6 i j hij hj)
  refine ⟨m,p',?_,k1,k2,k3.trans ((mirror_perm _ _ _ _).trans g4),k4.trans ((kas_rev_size _ _).trans g5),k5⟩
  show Bj _ (if q1>0 then _ else _)=_
  rw [if_pos hq]
  exact e'
 ·obtain ⟨m,p',e',k1,k2,k3,k4,k5⟩:=Na key (n:=n1) (nrem:=nrem) (p:=p1) wF wF wF g6
  refine ⟨m,p',?_,k1,k2,k3.trans g4,k4.trans g5,k5⟩
  show Bj _ (if q1>0 then _ else _)=_
  rw [if_neg hq]
  exact e'
theorem Zk {nrem:Nat} {p:Array Nat} (h1:1<=nrem) (hz:nrem<=p.size):∃ m p',Bj (BI key) (kas_count nrem p)=(m,p')/\1<=m/\m<=nrem/\p'.Perm p/\p'.size=p.size/\C6 key p' m:=by
 obtain ⟨n,e,g1,g2,g3,g4⟩:=Mo key p (nrem-1) 1
 have hs:C6 key p n:=Nq key λk k1 k2=>g3 k k1 k2
 unfold kas_count
 rw [Fc,e]
 by_cases hn:n=nrem
 ·refine ⟨n,p,?_,g1,by omega,Array.Perm.refl _,rfl,hs⟩
  rw [if_pos (by simpa using hn)]
  rfl
 ·rw [if_neg (by simpa using hn)]
  have hlt:KQ key p n<KQ key p (n-1):=by
   rcases g4 with g4 | g4
   ·omega
   ·exact g4
  by_cases hn1:n>1
  ·rw [if_pos hn1]
   by_cases hr:KQ key p 0<KQ key p (n-1)
   ·refine ⟨n,p,?_,g1,by omega,Array.Perm.refl _,rfl,hs⟩
    show Bj _ (if BI key _ _=true then _ else _)=_
    rw [if_pos (decide_eq_true (show key (p.getD 0 0)<key (p.getD (n-1) 0) from hr))]
    rfl
   ·have heq:∀ k,0<=k->k<n->KQ key p k=KQ key p (n-1):=λk _ hk=>by
     have a:=hs 0 k wF hk
     have b:=hs k (n-1) wF wF
     omega
    have hE:=Mx key (p:=p) (i:=0) (j:=n) wF heq
    obtain ⟨m,p',e',k1,k2,k3,k4,k5⟩:=Qr key (n:=n) (nrem:=nrem) (p:=kas_rev p 0 n) wF wF (by rw [kas_rev_size]; exact hz) (λi j hij hj=>by
     rw [hE,hE]
     by_cases hjn:j=n
     ·subst hjn
      by_cases hin:i=j
      ·subst hin; exact Int.le_refl _
      ·rw [heq i wF wF]; omega
     ·rw [heq i wF wF,heq j wF wF]
      exact Int.le_refl _)
    refine ⟨m,p',?_,k1,k2,k3.trans (mirror_perm _ _ _ _),k4.trans (kas_rev_size _ _),k5⟩
    show Bj _ (if BI key _ _=true then _ else _)=_
    rw [if_neg (by simpa [BI] using (show ¬ key (p.getD 0 0)<key (p.getD (n-1) 0) from hr))]
    exact e'
  ·rw [if_neg hn1]
   obtain rfl:n=1:=by omega
   exact Qr key wF wF hz (λi j hij hj=>by
    by_cases hj1:j=1
    ·subst hj1
     by_cases hi1:i=1
     ·subst hi1; exact Int.le_refl _
     ·obtain rfl:i=0:=by omega
      exact Int.le_of_lt hlt
    ·obtain rfl:j=0:=by omega
     obtain rfl:i=0:=by omega
     exact Int.le_refl _)
theorem Ls (p:Array Nat) (k:Nat) (hs:C6 key p k):∀ (f l r:Nat),l<=r->r<=k->r-l<=f->(∀ i,i<l->KQ key p i<=KQ key p k)->(∀ i,r<=i->i<k->KQ key p k<KQ key p i)->
  ∃ m,Bj (BI key) (kas_place p k f l r)=m/\m<=k/\(∀ i,i<m->KQ key p i<=KQ key p k)/\(∀ i,m<=i->i<k->KQ key p k<KQ key p i)
 | 0,l,r,h1,h2,h3,h4,h5=>⟨l,rfl,by omega,h4,λi g1 g2=>h5 i wF g2⟩
 | f+1,l,r,h1,h2,h3,h4,h5=>by
  by_cases hlr:l>=r
  ·refine ⟨l,?_,by omega,h4,λi g1 g2=>h5 i wF g2⟩
   show Bj _ (if l>=r then _ else _)=_
   rw [if_pos hlr]; rfl
  ·by_cases hc:KQ key p k<KQ key p ((l+r)/2)
   ·obtain ⟨m,e,g1,g2,g3⟩:=Ls p k hs f l ((l+r)/2) wF wF wF h4 (λi i1 i2=>by
     have:=hs ((l+r)/2) i i1 i2; omega)
    refine ⟨m,?_,g1,g2,g3⟩
    show Bj _ (if l>=r then _ else _)=_
    rw [if_neg hlr]
    show Bj _ (if BI key _ _=true then _ else _)=_
    rw [if_pos (decide_eq_true (show key (p.getD k 0)<key (p.getD ((l+r)/2) 0) from hc))]
    exact e
   ·obtain ⟨m,e,g1,g2,g3⟩:=Ls p k hs f ((l+r)/2+1) r wF h2 wF (λi i1=>by
     have:=hs i ((l+r)/2) wF wF; omega) h5
    refine ⟨m,?_,g1,g2,g3⟩
    show Bj _ (if l>=r then _ else _)=_
    rw [if_neg hlr]
    show Bj _ (if BI key _ _=true then _ else _)=_
    rw [if_neg (by simpa [BI] using (show ¬ key (p.getD k 0)<key (p.getD ((l+r)/2) 0) from hc))]
    exact e
end
end DL
set_option maxHeartbeats 2000000
namespace DL
open PySem PySem.Spec PyProof.Rows L2 PySem.W
def CG (k:Bool) (h:Heap) (it l:Addr) (i:Nat):Prop:=if k then h.IsListIter it l i else h.IsTupleIter it l i
def Bx (k:Bool) (h:Heap) (l:Addr) (xs:Array Value):Prop:=if k then h.IsList l xs else h.IsTuple l xs
section
variable {k:Bool} {h h':Heap} {it l b:Addr} {i:Nat} {xs:Array Value}
theorem CG.at (q:CG k h it l i) (e:∀ o,h.get? it=some o->h'.get? it=some o):CG k h' it l i:=by
 cases k with
 | true=>obtain ⟨o,g,r⟩:=(q:h.IsListIter it l i); exact ⟨o,e o g,r⟩
 | false=>obtain ⟨o,g,r⟩:=(q:h.IsTupleIter it l i); exact ⟨o,e o g,r⟩
theorem Bx.at (q:Bx k h l xs) (e:∀ o,h.get? l=some o->h'.get? l=some o):Bx k h' l xs:=by
 cases k with
 | true=>obtain ⟨o,g,r⟩:=(q:h.IsList l xs); exact ⟨o,e o g,r⟩
 | false=>obtain ⟨o,g,r⟩:=(q:h.IsTuple l xs); exact ⟨o,e o g,r⟩
theorem CG.obj (q:CG k h it l i):∃ o,h.get? it=some o/\∀ v,o.data≠.cell v:=by
 cases k with
 | true=>obtain ⟨o,g,c,d⟩:=(q:h.IsListIter it l i); exact ⟨o,g,λv z=>by rw [d] at z; cases z⟩
 | false=>obtain ⟨o,g,c,d⟩:=(q:h.IsTupleIter it l i); exact ⟨o,g,λv z=>by rw [d] at z; cases z⟩
end
theorem Qp {prog:Program} {w:World} {A:Around} {E:Value->Shared->Prop} {s:Shared} {T id:String} {b:Builtin} {v:Value} {Q:Value->Shared->Prop} (hT:s.TypeIs v T) (sl:Slot T (Str.ofString "__next__") id) (en:entryFor table id=some b) (ok:argsOk id ⟨[v],[]⟩)
  (h:wpAny (model prog w) A.in1 (b ⟨[v],[]⟩) (λfin s'=>∃ x,fin=.done (.ret x)/\Q x s') E s):wpAny (model prog w) A (Builtin.SmallTypes.nextOf v) Q E s:=
 wpAny_bind (wpAny_callSpecial?_slot hT sl (wpAny_call_entry sl hT en (wpAny_mono h (λfin s' ⟨x,e,q⟩=>⟨x,e,wpAny_pure q⟩) λ_ _ e=>e) ok))
section
variable {prog:Program} {w:World} {A:Around} {E:Value->Shared->Prop} {s:Shared} {it l:Addr} {i:Nat} {xs:Array Value} {Q:Value->Shared->Prop}
theorem RQ {x:Value} (q:s.heap.IsTupleIter it l i) (t:s.heap.IsTuple l xs) (hx:xs[i]?=some x) (hQ:∀ h',h'.IsTupleIter it l (i+1)->Heap.SameBut it s.heap h'->Q x { s with heap:=h' }):wpAny (model prog w) A (Builtin.SmallTypes.nextOf (.ref it)) Q E s:=by
 refine Qp q.typeIs F.slot_tuple_iterator_next F.entry_tuple_iterator_next (F.args_tuple_iterator_next_1 _) ?_
 obtain ⟨h,g,d,tk,os⟩:=s
 obtain ⟨⟨c,dc,da,sl⟩,gi,rfl,rfl⟩:=q
 obtain ⟨⟨c,dc,da,sl⟩,gt,rfl,n,rfl⟩:=t
 dsimp only at gi gt hQ
 wp_walk
 rw [Int.toNat_natCast,hx]
 wp_walk
 exact ⟨x,rfl,hQ _ ⟨_,Heap.get?_update_self _ gi rfl,rfl,by simp [Obj.mapFields,rawInt]⟩ (Heap.SameBut.update ..)⟩
theorem RR (hh:A.handled=none) (q:s.heap.IsTupleIter it l i) (t:s.heap.IsTuple l xs) (hx:xs[i]?=none) (hE:∀ h' e,Heap.ExtBut it s.heap h'->(∃ o,h'.get? e=some o/\o.cls=.type "StopIteration")->E (.ref e) { s with heap:=h' }):wpAny (model prog w) A (Builtin.SmallTypes.nextOf (.ref it)) Q E s:=by
 refine Qp q.typeIs F.slot_tuple_iterator_next F.entry_tuple_iterator_next (F.args_tuple_iterator_next_1 _) ?_
 obtain ⟨h,g,d,tk,os⟩:=s
 obtain ⟨⟨c,dc,da,sl⟩,gi,rfl,rfl⟩:=q
 obtain ⟨⟨c,dc,da,sl⟩,gt,rfl,n,rfl⟩:=t
 dsimp only at gi gt hE
 have hh1:A.in1.handled=none:=hh
 wp_walk
 rw [Int.toNat_natCast,hx]
 wp_walk
 unfold raiseNew
 wp_walk
 exact hE _ _ (λb u hb e=>Heap.get?_push_of_some _ (Heap.get?_push_of_some _ ((Heap.get?_update_ne _ _ _ _ hb).trans e))) ⟨_,Heap.get?_push_size _ rfl,rfl⟩
theorem JJ {k:Bool} {x:Value} (q:CG k s.heap it l i) (t:Bx k s.heap l xs) (hx:xs[i]?=some x) (hQ:∀ h',CG k h' it l (i+1)->Heap.SameBut it s.heap h'->Q x { s with heap:=h' }):wpAny (model prog w) A (Builtin.SmallTypes.nextOf (.ref it)) Q E s:=
 match k with
 | true=>wpAny_nextOf_list_item q t hx hQ
 | false=>RQ q t hx hQ
theorem JK {k:Bool} (hh:A.handled=none) (q:CG k s.heap it l i) (t:Bx k s.heap l xs) (hx:xs[i]?=none) (hE:∀ h' e,Heap.ExtBut it s.heap h'->(∃ o,h'.get? e=some o/\o.cls=.type "StopIteration")->E (.ref e) { s with heap:=h' }):wpAny (model prog w) A (Builtin.SmallTypes.nextOf (.ref it)) Q E s:=
 match k with
 | true=>wpAny_nextOf_list_end hh q t hx hE
 | false=>RR hh q t hx hE
end
def HB (n:Nat) (f0 f1:Value):Obj:={ cls:=.type "zip",dict:=none,data:=.fields #[f0,f1,.bool false,.ref (n+2),.ref (n+3)],slots:=#[] }
structure ZW (n:Nat) (k1 k2:Bool) (l1 l2 i1 i2:Nat) (xs ys:Array Value) (f0 f1 a b:Value) (h:Heap):Prop where
 z:h.get? (n+4)=some { cls:=.type "zip",dict:=none,data:=.fields #[f0,f1,.bool false,.ref (n+2),.ref (n+3)],slots:=#[] }
 ti:h.get? (n+2)=some { cls:=.type "tuple",data:=.seq #[.ref n,.ref (n+1)] }
 to:h.get? (n+3)=some { cls:=.type "tuple",data:=.seq #[a,b] }
 w1:CG k1 h n l1 i1
 w2:CG k2 h (n+1) l2 i2
 s1:Bx k1 h l1 xs
 s2:Bx k2 h l2 ys
 b1:l1<n
 b2:l2<n
theorem ap {x y:Nat} (h:x≠y):@Ne Addr x y:=h
def Bz (n:Nat) (h h':Heap):Prop:=∀ c o,c≠n+4->c≠n+3->c≠n->c≠n+1->h.get? c=some o->h'.get? c=some o
theorem Bz.refl (n:Nat) (h:Heap):Bz n h h:=λ_ _ _ _ _ _ e=>e
theorem Bz.on {n:Nat} {h h1 h2:Heap} (p:Bz n h h1) (q:Bz n h1 h2):Bz n h h2:=λc o c1 c2 c3 c4 e=>q c o c1 c2 c3 c4 (p c o c1 c2 c3 c4 e)
theorem Bz.of {n c:Nat} {h h':Heap} (e:Heap.SameBut c h h') (m:c=n+4\/c=n+3\/c=n\/c=n+1):Bz n h h':=
 λd o d1 d2 d3 d4 q=>e.extBut _ _ (by rcases m with rfl | rfl | rfl | rfl <;> assumption) q
section
variable {prog:Program} {w:World} {A:Around} {E:Value->Shared->Prop} {s:Shared} {n l1 l2 i1 i2:Nat} {k1 k2:Bool} {xs ys:Array Value} {f0 f1 a b v:Value}
theorem ZW.mark0 {Q:Unit->Shared->Prop} (W:ZW n k1 k2 l1 l2 i1 i2 xs ys f0 f1 a b s.heap) (hQ:∀ h',ZW n k1 k2 l1 l2 i1 i2 xs ys v f1 a b h'->Bz n s.heap h'->h'.objs.size=s.heap.objs.size->Q () { s with heap:=h' }):wpAny (model prog w) A (setField (.ref (n+4)) 0 v) Q E s:=
 wpAny_setField_rec W.z (by simp) λh' g e=>hQ h' ⟨g,e.extBut _ _ (ap wF) W.ti,e.extBut _ _ (ap wF) W.to,W.w1.at λo=>e.extBut _ _ (ap wF),W.w2.at λo=>e.extBut _ _ (ap wF),W.s1.at λo=>e.extBut _ _ (ap (by have:=W.b1; omega)),W.s2.at λo=>e.extBut _ _ (ap (by have:=W.b2; omega)),W.b1,W.b2⟩ (.of e (.inl rfl)) e.1
theorem ZW.mark1 {Q:Unit->Shared->Prop} (W:ZW n k1 k2 l1 l2 i1 i2 xs ys f0 f1 a b s.heap) (hQ:∀ h',ZW n k1 k2 l1 l2 i1 i2 xs ys f0 v a b h'->Bz n s.heap h'->h'.objs.size=s.heap.objs.size->Q () { s with heap:=h' }):wpAny (model prog w) A (setField (.ref (n+4)) 1 v) Q E s:=
 wpAny_setField_rec W.z (by simp) λh' g e=>hQ h' ⟨g,e.extBut _ _ (ap wF) W.ti,e.extBut _ _ (ap wF) W.to,W.w1.at λo=>e.extBut _ _ (ap wF),W.w2.at λo=>e.extBut _ _ (ap wF),W.s1.at λo=>e.extBut _ _ (ap (by have:=W.b1; omega)),W.s2.at λo=>e.extBut _ _ (ap (by have:=W.b2; omega)),W.b1,W.b2⟩ (.of e (.inl rfl)) e.1
theorem ZW.put {j:Nat} {Q:Unit->Shared->Prop} (W:ZW n k1 k2 l1 l2 i1 i2 xs ys f0 f1 a b s.heap) (hQ:∀ h',ZW n k1 k2 l1 l2 i1 i2 xs ys f0 f1 (if j=0 then v else a) (if j=1 then v else b) h'->Bz n s.heap h'->h'.objs.size=s.heap.objs.size->Q () { s with heap:=h' }):wpAny (model prog w) A (updateSeq (n+3) (·.setIfInBounds j v)) Q E s:=
 wpAny_updateSeq_pair W.to λh' g e=>hQ h' ⟨e.extBut _ _ (ap wF) W.z,e.extBut _ _ (ap wF) W.ti,by rw [g]; match j with | 0=>rfl | 1=>rfl | _+2=>rfl,W.w1.at λo=>e.extBut _ _ (ap wF),W.w2.at λo=>e.extBut _ _ (ap wF),W.s1.at λo=>e.extBut _ _ (ap (by have:=W.b1; omega)),W.s2.at λo=>e.extBut _ _ (ap (by have:=W.b2; omega)),W.b1,W.b2⟩ (.of e (.inr (.inl rfl))) e.1
theorem ZW.draw1 {x:Value} {Q:Value->Shared->Prop} (W:ZW n k1 k2 l1 l2 i1 i2 xs ys f0 f1 a b s.heap) (hx:xs[i1]?=some x) (hQ:∀ h',ZW n k1 k2 l1 l2 (i1+1) i2 xs ys f0 f1 a b h'->Bz n s.heap h'->h'.objs.size=s.heap.objs.size->Q x { s with heap:=h' }):wpAny (model prog w) A (Builtin.SmallTypes.nextOf (.ref n)) Q E s:=
 JJ W.w1 W.s1 hx λh' g e=>hQ h' ⟨e.extBut _ _ (ap wF) W.z,e.extBut _ _ (ap wF) W.ti,e.extBut _ _ (ap wF) W.to,g,W.w2.at λo=>e.extBut _ _ (ap wF),W.s1.at λo=>e.extBut _ _ (ap (by have:=W.b1; omega)),W.s2.at λo=>e.extBut _ _ (ap (by have:=W.b2; omega)),W.b1,W.b2⟩ (.of e (.inr (.inr (.inl rfl)))) e.1
theorem ZW.draw2 {y:Value} {Q:Value->Shared->Prop} (W:ZW n k1 k2 l1 l2 i1 i2 xs ys f0 f1 a b s.heap) (hy:ys[i2]?=some y) (hQ:∀ h',ZW n k1 k2 l1 l2 i1 (i2+1) xs ys f0 f1 a b h'->Bz n s.heap h'->h'.objs.size=s.heap.objs.size->Q y { s with heap:=h' }):wpAny (model prog w) A (Builtin.SmallTypes.nextOf (.ref (n+1))) Q E s:=
 JJ W.w2 W.s2 hy λh' g e=>hQ h' ⟨e.extBut _ _ (ap wF) W.z,e.extBut _ _ (ap wF) W.ti,e.extBut _ _ (ap wF) W.to,W.w1.at λo=>e.extBut _ _ (ap wF),g,W.s1.at λo=>e.extBut _ _ (ap (by have:=W.b1; omega)),W.s2.at λo=>e.extBut _ _ (ap (by have:=W.b2; omega)),W.b1,W.b2⟩ (.of e (.inr (.inr (.inr rfl)))) e.1
def ZF (f0:Value):Prop:=f0=.none\/∃ c:Nat,f0=rawInt (c:Int)
theorem Q2 {M:Model} {c:Addr} {Q:Option Obj->Shared->Prop} (h:Q (s.heap.get? c) s):wpAny M A (loadIfAlive c) Q E s:=λ_ _ _=>h
theorem ZW.free {Q:Bool->Shared->Prop} (W:ZW n k1 k2 l1 l2 i1 i2 xs ys f0 f1 a b s.heap) (hf:ZF f0) (y:Q true s) (z:∀ h' f,ZW n k1 k2 l1 l2 i1 i2 xs ys f0 f a b h'->Bz n s.heap h'->h'.objs.size=s.heap.objs.size->Q false { s with heap:=h' }):wpAny (model prog w) A (Builtin.SmallTypes.ownedTupleIsFree (.ref (n+4))) Q E s:=by
 obtain ⟨h,g,d,tk,os⟩:=s
 have hz:=W.z
 dsimp only at hz
 rcases hf with rfl | ⟨c,rfl⟩
 ·wp_walk
  exact y
 ·wp_walk using Q2
  cases h.get? (Int.toNat (c:Int)) with
  | none=>wp_walk; exact y
  | some o=>
   by_cases m:f1=.bool true
   ·subst m
    wp_walk
    exact z _ _ W (Bz.refl _ _) rfl
   ·wp_walk using W.mark1
    exact λh' V o1 o2=>wpAny_pure (z h' _ V o1 o2)
theorem LZ {M:Model} {β:Type} {x y:Value} {b:β} {f:Value->β->Sem (ForInStep β)} {Q:β->Shared->Prop} (h:wpAny M A (forIn [x,y] b f) Q E s):wpAny M A (forIn #[x,y] b f) Q E s:=by
 rw [<- Array.forIn_toList]; exact h
theorem ZW.more {h:Heap} {o:Obj} (W:ZW n k1 k2 l1 l2 i1 i2 xs ys f0 f1 a b h):ZW n k1 k2 l1 l2 i1 i2 xs ys f0 f1 a b (h.push o):=
 have e:∀ c u,h.get? c=some u->(h.push o).get? c=some u:=λc u q=>Heap.get?_push_of_some _ q
 ⟨e _ _ W.z,e _ _ W.ti,e _ _ W.to,W.w1.at (e _),W.w2.at (e _),W.s1.at (e _),W.s2.at (e _),W.b1,W.b2⟩
theorem Bz.more {h h':Heap} {o:Obj} (p:Bz n h h'):Bz n h (h'.push o):=p.on λc u _ _ _ _ q=>Heap.get?_push_of_some _ q
theorem Rm {i:Nat} {x y:Value} {Q:Value->Shared->Prop} (W:ZW n k1 k2 l1 l2 i i xs ys f0 f1 a b s.heap) (hf:ZF f0) (hx:xs[i]?=some x) (hy:ys[i]?=some y)
  (hQ:∀ h' f0' f1' a' b',ZW n k1 k2 l1 l2 (i+1) (i+1) xs ys f0' f1' a' b' h'->ZF f0'->IsPair h' s.heap.objs.size x y->Bz n s.heap h'->Q (.ref s.heap.objs.size) { s with heap:=h' }) :
  wpAny (model prog w) A (Builtin.«zip.__next__» ⟨[.ref (n+4)],[]⟩) (λfin s'=>∃ v,fin=.done (.ret v)/\Q v s') E s:=by
 obtain ⟨h,g,d,tk,os⟩:=s
 dsimp only at W hQ
 have z:=W.z
 have t:=W.ti
 have ok:∀ h4:Heap,h4.objs.size=h.objs.size->∀ v,(h4.push v).objs.size=h.objs.size+1:=λh4 e v=>by rw [Heap.size_push,e]
 have lt:n+4<h.objs.size:=Heap.lt_size z
 wp_walk using W.free hf,W.mark0
 ·-- the pair is used again
  intro h1 W1 o1 z1
  have t1:=W1.to
  wp_walk using wpAny_onRaise,W1.draw1 hx
  intro h2 W2 o2 z2
  have t2:=W2.to
  wp_walk using W2.put
  intro h3 W3 o3 z3
  wp_walk using wpAny_onRaise,W3.draw2 hy
  intro h4 W4 o4 z4
  have t4:=W4.to
  wp_walk using W4.put
  intro h5 W5 o5 z5
  have t5:=W5.to
  wp_walk using W5.more.mark0
  intro h6 W6 o6 z6
  wp_walk using W6.mark1
  intro h7 W7 o7 z7
  wp_walk
  have ol:Bz n h h5:=o1.on (o2.on (o3.on (o4.on o5)))
  have zl:h5.objs.size=h.objs.size:=z5.trans (z4.trans (z3.trans (z2.trans z1)))
  have pr:IsPair (h5.push { cls:=.type "tuple",data:=.seq #[x,y] }) h5.objs.size x y:=Heap.get?_push_size _ rfl
  have fin:=hQ h7 _ _ _ _ W7 (.inr ⟨_,rfl⟩)
  rw [<- zl] at fin
  have BL:∀ j,j<=4->h5.objs.size≠n+j:=λj hj=>by omega
  exact ⟨_,rfl,fin (o7 _ _ (BL 4 wE) (BL 3 wE) (BL 0 wE) (BL 1 wE) (o6 _ _ (BL 4 wE) (BL 3 wE) (BL 0 wE) (BL 1 wE) pr)) (ol.more.on (o6.on o7))⟩
 ·intro h1 f W1 o1 z1
  wp_walk using LZ,W1.draw1 hx
  intro h2 W2 o2 z2
  wp_walk using W2.draw2 hy
  intro h3 W3 o3 z3
  wp_walk
  have zl:h3.objs.size=h.objs.size:=z3.trans (z2.trans z1)
  have fin:=hQ (h3.push { cls:=.type "tuple",data:=.seq #[x,y] }) _ _ _ _ W3.more hf
  rw [<- zl] at fin
  exact ⟨_,rfl,fin (Heap.get?_push_size _ rfl) (o1.on (o2.on o3)).more⟩
def ZE (n:Nat) (h:Heap) (f0 f1:Value) (h':Heap) (e:Addr):Prop:=h'.get? (n+4)=some (HB n f0 f1)/\Bz n h h'/\∃ o,h'.get? e=some o/\o.cls=.type "StopIteration"
theorem ZW.end1 {Q:Value->Shared->Prop} (hh:A.handled=none) (W:ZW n k1 k2 l1 l2 i1 i2 xs ys f0 f1 a b s.heap) (hx:xs[i1]?=none) (hE:∀ h' e,ZE n s.heap f0 f1 h' e->E (.ref e) { s with heap:=h' }):wpAny (model prog w) A (Builtin.SmallTypes.nextOf (.ref n)) Q E s:=
 JK hh W.w1 W.s1 hx λh' e x y=>hE h' e ⟨x _ _ (ap wF) W.z,λc o _ _ c3 _ q=>x c o c3 q,y⟩
theorem ZW.end2 {Q:Value->Shared->Prop} (hh:A.handled=none) (W:ZW n k1 k2 l1 l2 i1 i2 xs ys f0 f1 a b s.heap) (hy:ys[i2]?=none) (hE:∀ h' e,ZE n s.heap f0 f1 h' e->E (.ref e) { s with heap:=h' }):wpAny (model prog w) A (Builtin.SmallTypes.nextOf (.ref (n+1))) Q E s:=
 JK hh W.w2 W.s2 hy λh' e x y=>hE h' e ⟨x _ _ (ap wF) W.z,λc o _ _ _ c4 q=>x c o c4 q,y⟩
theorem Rn {i:Nat} {Q:PySem.Fin->Shared->Prop} (hh:A.handled=none) (W:ZW n k1 k2 l1 l2 i i xs ys f0 f1 a b s.heap) (hf:ZF f0) (he:xs[i]?=none\/ys[i]?=none)
  (hE:∀ h' e,Bz n s.heap h'->(∃ o,h'.get? e=some o/\o.cls=.type "StopIteration")->E (.ref e) { s with heap:=h' }) :
  wpAny (model prog w) A (Builtin.«zip.__next__» ⟨[.ref (n+4)],[]⟩) Q E s:=by
 obtain ⟨h,g,d,tk,os⟩:=s
 dsimp only at W hE
 have z:=W.z
 have t:=W.ti
 have hb:∀ h1 h2 e f,Bz n h h1->ZE n h1 f f1 h2 e->wpAny (model prog w) A (setField (.ref (n+4)) 0 .none) (λ_ s'=>E (.ref e) s') E ⟨h2,g,d,tk,os⟩:=λh1 h2 e f p ⟨g2,p2,o,q,c⟩=>
  wpAny_setField_rec g2 (by simp [HB]) λh3 g3 e3=>hE h3 e (p.on (p2.on (.of e3 (.inl rfl)))) ⟨o,e3.extBut _ _ (λx=>by subst x; rw [g2] at q; cases q; simp [HB] at c) q,c⟩
 wp_walk using W.free hf,W.mark0
 ·intro h1 W1 o1 z1
  have t1:=W1.to
  cases hx:xs[i]? with
  | none=>
   wp_walk using wpAny_onRaise,W1.end1 hh hx
   exact λh2 e q=>hb h1 h2 e _ o1 q
  | some x=>
   have hy:ys[i]?=none:=he.resolve_left (by rw [hx]; simp)
   wp_walk using wpAny_onRaise,W1.draw1 hx
   intro h2 W2 o2 z2
   have t2:=W2.to
   wp_walk using W2.put
   intro h3 W3 o3 z3
   wp_walk using wpAny_onRaise,W3.end2 hh hy
   exact λh4 e q=>hb h3 h4 e _ (o1.on (o2.on o3)) q
 ·intro h1 f W1 o1 z1
  cases hx:xs[i]? with
  | none=>
   wp_walk using LZ,W1.end1 hh hx
   exact λh2 e q=>hE h2 e (o1.on q.2.1) q.2.2
  | some x=>
   have hy:ys[i]?=none:=he.resolve_left (by rw [hx]; simp)
   wp_walk using LZ,W1.draw1 hx
   intro h2 W2 o2 z2
   wp_walk using W2.end2 hh hy
   exact λh3 e q=>hE h3 e (o1.on (o2.on q.2.1)) q.2.2
end
section
variable {prog:Program} {w:World} {A:Around} {E:Value->Shared->Prop} {s:Shared} {n l1 l2 i1 i2 i:Nat} {k1 k2:Bool} {xs ys:Array Value} {f0 f1 a b v:Value}
theorem Iv {T id:String} {bi:Builtin} {Q:Option Value->Shared->Prop} (hT:s.TypeIs v T) (sl:Slot T (Str.ofString "__next__") id) (en:entryFor table id=some bi) (ok:argsOk id ⟨[v],[]⟩)
  (h:wpAny (model prog w) A.in1 (bi ⟨[v],[]⟩) (λfin s'=>∃ x,fin=.done (.ret x)/\Q (some x) s') (λe s'=>s'.TypeIs e "StopIteration" /\ Q none s') s):wpAny (model prog w) A (pyNext v) Q E s:=
 wpAny_bind (wpAny_attempt (wpAny_callSpecial?_slot hT sl (wpAny_call_entry sl hT en (wpAny_mono h (λfin s' ⟨x,e,q⟩=>⟨x,e,wpAny_pure q⟩) λe s' ⟨t,q⟩=>wpAny_bind (wpAny_isInstance (T := "StopIteration") (b:=true) t isSubtype_stop (wpAny_pure q))) ok)))
def EN (k1 k2:Bool) (n l1 l2 i:Nat) (h:Heap):Prop:=∃ f0 f1 a b,ZF f0/\h.get? (n+4)=some (HB n f0 f1)/\IsPair h (n+2) (.ref n) (.ref (n+1))/\IsPair h (n+3) a b/\CG k1 h n l1 i/\CG k2 h (n+1) l2 i
theorem ZW.tn {h:Heap} (W:ZW n k1 k2 l1 l2 i i xs ys f0 f1 a b h) (hf:ZF f0):EN k1 k2 n l1 l2 i h:=⟨f0,f1,a,b,hf,W.z,W.ti,W.to,W.w1,W.w2⟩
theorem WS {x y:Value} {Q:Option Value->Shared->Prop} (W:ZW n k1 k2 l1 l2 i i xs ys f0 f1 a b s.heap) (hf:ZF f0) (hx:xs[i]?=some x) (hy:ys[i]?=some y)
  (hQ:∀ h' f0' f1' a' b',ZW n k1 k2 l1 l2 (i+1) (i+1) xs ys f0' f1' a' b' h'->ZF f0'->IsPair h' s.heap.objs.size x y->Bz n s.heap h'->Q (some (.ref s.heap.objs.size)) { s with heap:=h' }):wpAny (model prog w) A (pyNext (.ref (n+4))) Q E s:=
 Iv ⟨_,W.z,rfl⟩ F.slot_zip_next F.entry_zip_next (F.args_zip_next_1 _) (Rm (Q:=λv s'=>Q (some v) s') W hf hx hy hQ)
theorem WR {Q:Option Value->Shared->Prop} (hh:A.handled=none) (W:ZW n k1 k2 l1 l2 i i xs ys f0 f1 a b s.heap) (hf:ZF f0) (he:xs[i]?=none\/ys[i]?=none) (hQ:∀ h',Bz n s.heap h'->Q none { s with heap:=h' }):wpAny (model prog w) A (pyNext (.ref (n+4))) Q E s:=
 Iv ⟨_,W.z,rfl⟩ F.slot_zip_next F.entry_zip_next (F.args_zip_next_1 _) (Rn hh W hf he λh' e p q=>⟨q,hQ h' p⟩)
theorem Yj {tg:Expr} {u:Value} {Q:Unit->Shared->Prop} (W:ZW n k1 k2 l1 l2 i1 i2 xs ys f0 f1 a b s.heap) (hf:ZF f0) (hQ:∀ h' f,ZW n k1 k2 l1 l2 i1 i2 xs ys f f1 a b h'->ZF f->Bz n s.heap h'->Q () { s with heap:=h' }):wpAny (model prog w) A (letOwnedTupleGo tg (.ref (n+4)) u) Q E s:=by
 have same:Q () s:=hQ s.heap _ W hf (Bz.refl _ _)
 obtain ⟨h,g,d,tk,os⟩:=s
 have z:=W.z
 dsimp only at z
 unfold letOwnedTupleGo
 cases tg <;> try exact wpAny_pure same
 all_goals cases u <;> try exact wpAny_pure same
 all_goals
  wp_walk
  split
  ·exact wpAny_bind (wpAny_rule (W.mark0 (s:=⟨h,g,d,tk,os⟩) (v:=.none) λh' V o z=>hQ h' _ V (.inl rfl) o))
  ·exact wpAny_pure same
theorem O5 {T id nid:String} {bi:Builtin} {Q:Value->Shared->Prop} (hT:s.TypeIs v T) (sl:Slot T (Str.ofString "__iter__") id) (en:entryFor table id=some bi) (ok:argsOk id ⟨[v],[]⟩) (nx:Slot T (Str.ofString "__next__") nid)
  (h:wpAny (model prog w) A.in1 (bi ⟨[v],[]⟩) (λfin s'=>fin=.done (.ret v)/\s'=s) E s) (q:Q v s):wpAny (model prog w) A (pyIter v) Q E s:=
 wpAny_pyIter_slot hT sl (wpAny_call_entry sl hT en (wpAny_mono h (λfin s' ⟨e1,e2⟩=>⟨v,e1,T,_,by rw [e2]; exact hT,nx.lookup,by rw [e2]; exact q⟩) λ_ _ e=>e) ok)
theorem LN {k:Bool} {l:Addr} {Q:Value->Shared->Prop} (t:Bx k s.heap l xs) (hQ:∀ o,o.isFreed=false->(∀ h:Heap,∀ c,h.get? c=some o->CG k h c l 0)->Q (.ref s.heap.objs.size) { s with heap:=s.heap.push o }):wpAny (model prog w) A (pyIter (.ref l)) Q E s:=
 match k with
 | true=>wpAny_pyIter_list t (hQ _ rfl λh c e=>⟨_,e,rfl,rfl⟩)
 | false=>wpAny_pyIter_tuple t (hQ _ rfl λh c e=>⟨_,e,rfl,rfl⟩)
end
theorem Xx (h:Heap) (a b c d e:Obj) (fa:a.isFreed=false) (fb:b.isFreed=false) (fc:c.isFreed=false) (fd:d.isFreed=false) (fe:e.isFreed=false) :
  let m:=((((h.push a).push b).push c).push d).push e
  m.get? h.objs.size=some a/\m.get? (h.objs.size+1)=some b/\m.get? (h.objs.size+2)=some c/\m.get? (h.objs.size+3)=some d/\m.get? (h.objs.size+4)=some e/\∀ x o,h.get? x=some o->m.get? x=some o:=by
 have up:∀ (k:Heap) (o:Obj) x u,k.get? x=some u->(k.push o).get? x=some u:=λk o x u q=>Heap.get?_push_of_some _ q
 have at_:∀ (k:Heap) (o:Obj) x,o.isFreed=false->x=k.objs.size->(k.push o).get? x=some o:=λk o x f q=>by rw [q]; exact Heap.get?_push_size _ f
 exact ⟨up _ _ _ _ (up _ _ _ _ (up _ _ _ _ (up _ _ _ _ (at_ _ _ _ fa rfl)))),up _ _ _ _ (up _ _ _ _ (up _ _ _ _ (at_ _ _ _ fb (by simp [Heap.size_push])))),up _ _ _ _ (up _ _ _ _ (at_ _ _ _ fc (by simp [Heap.size_push]))),up _ _ _ _ (at_ _ _ _ fd (by simp [Heap.size_push])),at_ _ _ _ fe (by simp [Heap.size_push]),λx o q=>up _ _ _ _ (up _ _ _ _ (up _ _ _ _ (up _ _ _ _ (up _ _ _ _ q))))⟩
theorem Rl (k1 k2:Bool) (l1 l2:Addr) (xs ys:Array Value) :
  Meets (Builtin.«zip.__new__» ⟨[.type "zip",.ref l1,.ref l2],[]⟩) (λ_ R s=>Bx k1 s.heap l1 xs/\Bx k2 s.heap l2 ys /\
   ∀ h',ZW s.heap.objs.size k1 k2 l1 l2 0 0 xs ys .none (.bool false) .none .none h'->(∀ c o,s.heap.get? c=some o->h'.get? c=some o)->R (.ok (.ret (.ref (s.heap.objs.size+4)))) { s with heap:=h' }):=
 .of_wp λprog w A R s q=>by
  obtain ⟨h,g,d,tk,os⟩:=s
  obtain ⟨t1,t2,q⟩:=q
  have hsub:=sub_zip
  have lt:∀ {k:Bool} {l:Addr} {zs:Array Value},Bx k h l zs->l<h.objs.size:=λ{k l zs} q=>by
   cases k with
   | true=>obtain ⟨o,g,_⟩:=(q:h.IsList l zs); exact Heap.lt_size g
   | false=>obtain ⟨o,g,_⟩:=(q:h.IsTuple l zs); exact Heap.lt_size g
  have p1:=lt t1
  have p2:=lt t2
  wp_walk using LN t1
  intro a1 f1 i1
  wp_walk using LN (s:=⟨h.push a1,g,d,tk,os⟩) (t2.at λo e=>Heap.get?_push_of_some _ e)
  intro a2 f2 i2
  wp_walk
  simp only [Heap.size_push,Nat.add_assoc,Nat.reduceAdd]
  obtain ⟨e0,e1,e2,e3,e4,up⟩:=Xx h a1 a2 { cls:=.type "tuple",data:=.seq #[.ref h.objs.size,.ref (h.objs.size+1)] } { cls:=.type "tuple",data:=.seq #[.none,.none] } { cls:=.type "zip",data:=.fields #[.none,.bool false,.bool false,.ref (h.objs.size+2),.ref (h.objs.size+3)] } f1 f2 rfl rfl rfl
  exact ⟨_,rfl,q _ ⟨e4,e2,e3,i1 _ _ e0,i2 _ _ e1,t1.at (up _),t2.at (up _),p1,p2⟩ up⟩
theorem Zx {prog:Program} {w:World} {A:Around} {E:Value->Shared->Prop} {s:Shared} {k1 k2:Bool} {l1 l2:Addr} {xs ys:Array Value} {Q:Value->Shared->Prop} (t1:Bx k1 s.heap l1 xs) (t2:Bx k2 s.heap l2 ys)
  (hQ:∀ h',EN k1 k2 s.heap.objs.size l1 l2 0 h'->(∀ c o,s.heap.get? c=some o->h'.get? c=some o)->Q (.ref (s.heap.objs.size+4)) { s with heap:=h' }) :
  wpAny (model prog w) A (call (.type "zip") [.ref l1,.ref l2]) Q E s:=
 callType_new F.called_zip wE (F.typeCall_zip_2 _ _) (F.newCall_zip_2 _ _) (λobj=>F.args_object_init_3 obj _ _) F.entry_zip_new (Rl k1 k2 l1 l2 xs ys) ⟨t1,t2,λh' W up=>⟨⟨_,W.z,rfl⟩,hQ h' (W.tn (.inl rfl)) up⟩⟩
def Sq (k:Bool) (K:PySem.W.Frag) (H:Hp) (a:Addr) (xs:List V):Prop:=if k then Ba K H a xs else Bu K H a xs
def MA (k1 k2:Bool) (K:PySem.W.Frag) (l1 l2:Addr):It:=
  ⟨λi H=>∃ as bs a b,Sq k1 K H l1 as/\Sq k2 K H l2 bs/\as[i]?=some a/\bs[i]?=some b,
   λi H x H'=>∃ T a b,H T=none/\H'=AN H T (.tup [a,b])/\x=.ref T/\(∀ as,Sq k1 K H l1 as->as[i]?=some a)/\∀ bs,Sq k2 K H l2 bs->bs[i]?=some b,
   λi H=>∃ as bs,Sq k1 K H l1 as/\Sq k2 K H l2 bs/\(as.length<=i\/bs.length<=i)⟩
section
variable {X:Cx} {pins:List (Addr×Obj)} {σ:L2.St} {H:Hp} {s:Shared} {k:Bool} {a:Addr} {xs ys:List V}
theorem Du (I:L2.Inv X pins σ H s) (h:Sq k X.K H a xs):∃ its:List Value,AC xs its/\Bx k s.heap a its.toArray/\xs.length<=sizeLine:=by
 cases k with
 | true=>obtain ⟨its,v,p,z⟩:=I.list h; exact ⟨its,v,p.isList,z⟩
 | false=>obtain ⟨its,v,p,z⟩:=I.tuple h; exact ⟨its,v,(p:IsTup _ _ _),z⟩
theorem ME (I:L2.Inv X pins σ H s) (h:Sq k X.K H a xs) (h':Sq k X.K H a ys):xs=ys:=by
 cases k with
 | true=>exact I.list_inj h h'
 | false=>exact I.tuple_inj h h'
end
theorem Jj {X:Cx} {pins:List (Addr×Obj)} {σ:L2.St} {H:Hp} {s:Shared} {h':Heap} {t':Nat} {fp:List Addr} (I:L2.Inv X pins σ H s) (hf:∀ b∈fp,Cg X pins H b) (k:∀ b o,b∉fp->s.heap.get? b=some o->h'.get? b=some o):L2.Inv X pins σ H { s with heap:=h',toks:=t' }:=by
 have nit:∀ b u,H b=some u->b∉fp:=λb u e z=>by rw [(hf b z).1] at e; cases e
 refine I.step (g':=s.gens) (d':=s.drawn) (ch:=fp) (λb hb=>?_) (λb o _ _ hc e _=>k b o hc e) (λb o _ _ hc e _=>⟨o.slots,k b o hc e⟩) (λ_ _ _ _ n=>n) (λb o hc e=>⟨o,k b o hc e⟩) (λ_ _ e=>e) (λ_ _ _ e=>e) (λb ps e=>⟨#[],by rw [e]; simp⟩) (λm hm=>?_) (λb u e=>?_) I.bare
 ·obtain ⟨f0,f1,f2,f3,f4,f5⟩:=hf b hb
  exact ⟨f3,f1,f4,f5⟩
 ·obtain ⟨o,es,ep,ho,r⟩:=hm
  exact ⟨o,es,ep,k _ o (λz=>(hf _ z).2.1 rfl) ho,r⟩
 ·refine (I.hok b u e).stay (λc v hc q=>k c v ?_ q) (λ_ q=>q) λ_ _ q=>q
  rcases hc with z | z
  ·rw [z]; exact nit b u e
  ·exact nit c _ z
theorem Rc {X:Cx} {pins:List (Addr×Obj)} {σ:L2.St} {H:Hp} {s:Shared} {T:Addr} {o:HO} (I:L2.Inv X pins σ H s) (hT:Cg X pins H T) (hs:X.s₀.heap.objs.size<=T) (new:B3 X.prog X.w (AN H T o) s.heap T o):L2.Inv X pins σ (AN H T o) s:=by
 obtain ⟨f0,f1,f2,f3,f4,f5⟩:=hT
 have ne:∀ b u,H b=some u->b≠T:=λb u e z=>by rw [z,f0] at e; cases e
 have sn:∀ b o,X.s₀.heap.get? b=some o->b≠T:=λb o e=>Nat.ne_of_lt (Nat.lt_of_lt_of_le (Heap.lt_size e) hs)
 exact ⟨I.ok,I.os,I.bare,⟨I.base.keep,I.base.slot,λb ob q n hx=>by rw [A4 (sn b ob q)]; exact I.base.free b ob q n hx,I.base.there,λb xs q=>by have e:=I.base.tups b xs q; rw [A4 (ne b _ e)]; exact e,λb ob u q=>by have e:=I.base.frzs b ob u q; rw [A4 (ne b _ e)]; exact e,λb ps q=>by obtain ⟨m,e⟩:=I.base.tbls b ps q; exact ⟨m,by rw [A4 (ne b _ e)]; exact e⟩⟩,
  I.loc,I.cell,by rw [A4 (Ne.symm f1)]; exact I.free,λx c e=>by rw [A4 (f4 x c e)]; exact I.freeC x c e,λp hp=>by obtain ⟨a,b,c⟩:=I.pin p hp; exact ⟨a,by rw [A4 (f5 p hp)]; exact b,c⟩,Rf I.hok f0 new,I.len⟩
def B9 (n:Nat):List Addr:=[n,n+1,n+2,n+3,n+4]
theorem Ri {k1 k2:Bool} {n l1 l2 i:Nat} {h h':Heap} (st:EN k1 k2 n l1 l2 i h) (k:∀ b∈B9 n,∀ o,h.get? b=some o->h'.get? b=some o):EN k1 k2 n l1 l2 i h':=by
 obtain ⟨f0,f1,a,b,hf,z,ti,to,w1,w2⟩:=st
 exact ⟨f0,f1,a,b,hf,k _ (by simp [B9]) _ z,k _ (by simp [B9]) _ ti,k _ (by simp [B9]) _ to,w1.at (k _ (by simp [B9])),w2.at (k _ (by simp [B9]))⟩
theorem MG {k1 k2:Bool} {n l1 l2 i:Nat} {h:Heap} (st:EN k1 k2 n l1 l2 i h):∀ b∈B9 n,∃ o,h.get? b=some o/\∀ v,o.data≠.cell v:=by
 obtain ⟨f0,f1,a,b,hf,z,ti,to,w1,w2⟩:=st
 have all:∀ P:Addr->Prop,P n->P (n+1)->P (n+2)->P (n+3)->P (n+4)->∀ b∈B9 n,P b:=λP p0 p1 p2 p3 p4 b hb=>by
  simp only [B9,List.mem_cons,List.not_mem_nil,or_false] at hb
  rcases hb with rfl | rfl | rfl | rfl | rfl <;> assumption
 exact all _ w1.obj w2.obj ⟨_,ti,λv e=>by cases e⟩ ⟨_,to,λv e=>by cases e⟩ ⟨_,z,λv e=>by cases e⟩
theorem HA {n:Nat} {c:Addr} (h:c∉B9 n):c≠n+4/\c≠n+3/\c≠n/\c≠n+1:=
 ⟨λe=>h (by simp [B9,e]),λe=>h (by simp [B9,e]),λe=>h (by simp [B9,e]),λe=>h (by simp [B9,e])⟩
theorem Bz.fp {n:Nat} {h h':Heap} (p:Bz n h h'):∀ c o,c∉B9 n->h.get? c=some o->h'.get? c=some o:=λc o hc=>p c o (HA hc).1 (HA hc).2.1 (HA hc).2.2.1 (HA hc).2.2.2
theorem RK {P:Program} {w:World} {K:PySem.W.Frag} {tg:Expr} (k1 k2:Bool) (n l1 l2:Nat) (hl1:l1<n) (hl2:l2<n):EK P w K tg (MA k1 k2 K l1 l2) (B9 n) (n+4) (EN k1 k2 n l1 l2) where
 mem:=by simp [B9]
 obj:=λi h st=>MG st
 keep:=λi h h' st k=>Ri st k
 item:=by
  intro X hP hw hK hc i pins s σ H E I hf st hg
  subst hP hw hK
  obtain ⟨as,bs,a,b,q1,q2,ga,gb⟩:=hg
  obtain ⟨ia,va,sa,_⟩:=Du I q1
  obtain ⟨ib,vb,sb,_⟩:=Du I q2
  obtain ⟨ua,hua,rua⟩:=va.get ga
  obtain ⟨ub,hub,rub⟩:=vb.get gb
  have hTn:s.heap.objs.size∉B9 n:=λm=>let ⟨o,e,_⟩:=MG st _ m; Nat.lt_irrefl _ (Heap.lt_size e)
  obtain ⟨f0,f1,a0,b0,zf,z,ti,to,w1,w2⟩:=st
  refine WS (x:=ua) (y:=ub) ⟨z,ti,to,w1,w2,sa,sb,hl1,hl2⟩ zf (by simpa using hua) (by simpa using hub) λh1 f0' f1' a' b' W1 zf1 pr o1=>⟨_,rfl,Yj (s:={ s with heap:=h1 }) W1 zf1 λh2 f W2 zf2 o2=>?_⟩
  have Iz:L2.Inv X pins σ H { s with heap:=h2,toks:=s.toks }:=Jj I hf (o1.on o2).fp
  have fr:H s.heap.objs.size=none:=I.hok.fresh (Nat.le_refl _)
  refine ⟨.ref s.heap.objs.size,AN H s.heap.objs.size (.tup [a,b]),?_,rfl,⟨_,a,b,fr,rfl,rfl,λcs q=>?_,λcs q=>?_⟩,W2.tn zf2,λc hb=>?_⟩
  ·refine Rc Iz (I.fpOk (Nat.le_refl _) fr) I.sz ⟨show 2<=sizeLine by decide,[ua,ub],.cons rua (.cons rub .nil),?_⟩
   exact ⟨_,o2.fp _ _ hTn pr,rfl,rfl,_,rfl⟩
  ·rw [ME I q q1]; exact ga
  ·rw [ME I q q2]; exact gb
  ·rw [A4 (λe=>hTn (by rw [<- e]; exact hb))]; exact (hf c hb).1
 done:=by
  intro X hP hw hK hc i pins s σ H E I hf st hg
  subst hP hw hK
  obtain ⟨as,bs,q1,q2,hend⟩:=hg
  obtain ⟨ia,va,sa,_⟩:=Du I q1
  obtain ⟨ib,vb,sb,_⟩:=Du I q2
  obtain ⟨f0,f1,a0,b0,zf,z,ti,to,w1,w2⟩:=st
  have e1:=va.length
  have e2:=vb.length
  exact WR (I.ok.hd hc) ⟨z,ti,to,w1,w2,sa,sb,hl1,hl2⟩ zf (hend.imp (λe=>by simp; omega) λe=>by simp; omega) λh' p=>⟨rfl,Jj (t':=s.toks) I hf p.fp⟩
 self:=λA i s Q E st h=>by
  obtain ⟨f0,f1,a0,b0,zf,z,_⟩:=st
  exact O5 ⟨_,z,rfl⟩ F.slot_zip_iter F.entry_zip_iter (F.args_zip_iter_1 _) F.slot_zip_next (wpAny_pure ⟨rfl,rfl⟩) h
end DL
set_option maxHeartbeats 1000000
namespace DL
open PySem PySem.Spec PyProof.Rows L2 PySem.W
def LF (d:D) (xs:List D):Prop:=d=.lst xs\/d=.scr xs\/d=.tup xs
theorem Sq.same {k:Bool} {K:PySem.W.Frag} {H H':Hp} {a:Addr} {xs:List V} (e:Bw H H') (h:Sq k K H a xs):Sq k K H' a xs:=by
 cases k with
 | true=>exact e.seq h
 | false=>exact Dj e h
theorem LF.sq {K:PySem.W.Frag} {G:Wd} {d:D} {xs:List D} {v:V} (h:LF d xs) (i:Is K G d v):∃ k a vs,v=.ref a/\Sq k K G.g a vs/\Am K G xs vs:=by
 rcases h with rfl | rfl | rfl
 ·cases i with | lst h r=>exact ⟨true,_,_,rfl,Ba.of h,r⟩
 ·cases i with | scr h r=>exact ⟨true,_,_,rfl,h,r⟩
 ·cases i with | tup h r=>exact ⟨false,_,_,rfl,h,r⟩
def Gn (X:Cx) (ρ:Aj) (O:Ad) (e:Expr) (xs:List D) (T:String):Prop:=
 ∀ (G:Wd) (tg:Expr) (pins:List (Addr×Obj)) (s:Shared) (σ:L2.St) (H:Hp) (R:It->Hp->Prop),L2.Inv X pins σ H s->SA X.K G H O->AH X.K G σ ρ->(∀ J G' H',Ah G G'->SA X.K G' H' O->DI X.K G' J xs->R J H')->
  wpAny (model X.prog X.w) X.A (eval e X.env) (λv s1=>Mv X pins σ tg R v s1/\s1.TypeIs v T) X.xe s
def EO (xs ys:List D):List D:=List.zipWith (λa b=>.tup [a,b]) xs ys
theorem XI {K:PySem.W.Frag} {G:Wd} {k1 k2:Bool} {l1 l2:Addr} {vs us:List V} {xs ys:List D} (h1:Sq k1 K G.g l1 vs) (h2:Sq k2 K G.g l2 us) (r1:Am K G xs vs) (r2:Am K G ys us):DI K G (MA k1 k2 K l1 l2) (EO xs ys) where
 go:=λi H e hi=>by
  have hi:i<min xs.length ys.length:=by simpa [EO] using hi
  obtain ⟨a,ha,_⟩:=r1.get (i:=i) (d:=xs[i]'wF) (by simp)
  obtain ⟨b,hb,_⟩:=r2.get (i:=i) (d:=ys[i]'wF) (by simp)
  exact ⟨vs,us,a,b,h1.same e,h2.same e,ha,hb⟩
 stop:=λi H e hi=>by
  have hi:min xs.length ys.length<=i:=by simpa [EO] using hi
  have e1:=r1.length
  have e2:=r2.length
  exact ⟨vs,us,h1.same e,h2.same e,by omega⟩
 yld:=λi v H H' G2 O2 e s y hi=>by
  obtain ⟨T,a,b,hT,rfl,rfl,y1,y2⟩:=y
  obtain ⟨x,hx,ix⟩:=r1.getV (y1 vs (h1.same (e.g.trans s.sub)))
  obtain ⟨y,hy,iy⟩:=r2.getV (y2 us (h2.same (e.g.trans s.sub)))
  obtain ⟨e3,s3⟩:=s.laid (o:=.tup [a,b]) hT
  refine ⟨.tup [x,y],_,?_,e3,s3,.tup (Bu.of BF) (.cons (ix.ext (e.trans e3)) (.cons (iy.ext (e.trans e3)) .nil))⟩
  unfold EO
  rw [List.getElem?_zipWith,hx,hy]
section
variable {X:Cx} {ρ:Aj} {O:Ad} {e a b c:Expr} {es:List Expr} {d da db:D} {ds:List D} {R:D->Ad->Prop} {pos p:Pos} {x:Str} {xs ys:List D}
theorem Yy (ha:Ae X ρ O a da) (hb:Ae X ρ O b db) (fa:LF da xs) (fb:LF db ys) (hm:X.mg "zip" = none) (hg:Gl X "zip" := by rfl) (hs:starEach [a,b] X.env=[(false,eval a X.env),(false,eval b X.env)]:=by rfl) (hs2:starEach [b] X.env=[(false,eval b X.env)]:=by rfl) :
  Gn X ρ O (.Call (.Name "zip" p) [a,b] [] pos) (EO xs ys) "zip" := λG tg pins s σ H R I sa en k=>by
 refine Call_ (EE I hg hm boot_zip (PyProof.Rows.callWith_type1 (Ar (Ab ha (Ab hb Af hs2) (by rw [hs,hs2]) G pos pins s σ H (λvs H'=>∃ G',Ah G G'/\SA X.K G' H' O/\Am X.K G' [da,db] vs) I ⟨sa,en,λvs G' H' e1 s1 i1=>⟨G',e1,s1,i1⟩⟩) λus s1 ⟨vs,H1,I1,r1,G1,e1,sa1,is1⟩=>?_) (by rw [hs,hs2]) (by rw [hs2]; rfl)))
 cases is1 with | cons i1 is1=>cases is1 with | cons i2 is1=>
 cases is1
 obtain ⟨k1,l1,v1,rfl,q1,j1⟩:=fa.sq i1
 obtain ⟨k2,l2,v2,rfl,q2,j2⟩:=fb.sq i2
 obtain ⟨u,u',rfl,ru,ru'⟩:=Fx r1
 cases ru
 cases ru'
 obtain ⟨t1,w1,g1,z1⟩:=Du I1 (q1.same sa1.sub)
 obtain ⟨t2,w2,g2,z2⟩:=Du I1 (q2.same sa1.sub)
 have lt:∀ {k:Bool} {l:Addr} {ys:Array Value},Bx k s1.heap l ys->l<s1.heap.objs.size:=λ{k l ys} q=>by
  cases k with
  | true=>obtain ⟨o,g,_⟩:=(q:s1.heap.IsList l ys); exact Heap.lt_size g
  | false=>obtain ⟨o,g,_⟩:=(q:s1.heap.IsTuple l ys); exact Heap.lt_size g
 refine Zx g1 g2 λh' Z kp=>?_
 have Ik:L2.Inv X pins σ H1 { s1 with heap:=h',toks:=s1.toks }:=I1.kept kp
 refine ⟨⟨s1.heap.objs.size+4,B9 s1.heap.objs.size,EN k1 k2 s1.heap.objs.size l1 l2,MA k1 k2 X.K l1 l2,H1,rfl,Ik,RK k1 k2 _ l1 l2 (lt g1) (lt g2),Z,λb hb=>?_,k _ G1 H1 e1 sa1 (XI q1 q2 j1 j2)⟩,?_⟩
 ·have hb':s1.heap.objs.size<=b:=by
   simp only [B9,List.mem_cons,List.not_mem_nil,or_false] at hb
   rcases hb with rfl | rfl | rfl | rfl | rfl
   ·exact Nat.le_refl _
   ·exact Nat.le_add_right _ 1
   ·exact Nat.le_add_right _ 2
   ·exact Nat.le_add_right _ 3
   ·exact Nat.le_add_right _ 4
  exact I1.fpOk hb' (I1.hok.fresh hb')
 ·obtain ⟨f0,f1,a0,b0,_,hz,_⟩:=Z
  exact ⟨_,hz,rfl⟩
theorem Hc {tg:Expr} {T:String} (h:Gn X ρ O e xs T):Ci X ρ O tg e xs:=λG pins s σ H R I ⟨h1,h2,h3⟩=>
 Ar (h G tg pins s σ H R I h1 h2 h3) λv s1 ⟨q,_⟩=>by
  obtain ⟨it,fp,tn,J,H',rfl,I',T,st,f,r⟩:=id q
  exact T.self X.A 0 s1 _ _ st q
end
def Cx.wA (X:Cx) (A:Around):Cx:={ X with A:=A }
theorem Q1C {X:Cx} {pins:List (Addr×Obj)} {σ:L2.St} {H:Hp} {s:Shared} {A:Around} (I:L2.Inv X pins σ H s) (h1:A.frames=X.A.frames) (h2:A.handled=X.A.handled):L2.Inv (Cx.wA X A) pins σ H s:=
 ⟨⟨I.ok.mod,I.ok.kind,I.ok.glob,I.ok.blt,I.ok.above,I.ok.inj,I.ok.has,I.ok.cab,λhc=>h2.trans (I.ok.hd hc),h1.trans I.ok.frames,I.ok.stk,I.ok.exf,I.ok.bs,I.ok.bsz,I.ok.noex,I.ok.exfs,I.ok.funs,I.ok.frf⟩,I.os,I.bare,I.base,I.loc,I.cell,I.free,I.freeC,I.pin,I.hok,I.len⟩
theorem Q1B {X:Cx} {pins:List (Addr×Obj)} {σ:L2.St} {H:Hp} {s:Shared} {A:Around} (I:L2.Inv (Cx.wA X A) pins σ H s) (ok:X.Ok):L2.Inv X pins σ H s:=⟨ok,I.os,I.bare,I.base,I.loc,I.cell,I.free,I.freeC,I.pin,I.hok,I.len⟩
def Co {α:Type} (n:Nat) (P:α->Prop):KasT α->Prop
 | .ret a=>P a
 | .ask i j k=>i<n/\j<n/\∀ b,Co n P (k b)
theorem F7 {α β:Type} {n:Nat} {f:α->KasT β} {P:α->Prop} {Q:β->Prop} (hf:∀ a,P a->Co n Q (f a)):∀ (t:KasT α),Co n P t->Co n Q (t.bind f)
 | .ret a,h=>hf a h
 | .ask i j k,h=>⟨h.1,h.2.1,λb=>F7 hf (k b) (h.2.2 b)⟩
theorem PJ {α:Type} {n:Nat} {P:α->Prop} {cmp:Nat->Nat->(Bool->Shared->Prop)->Shared->Prop} {lt:Nat->Nat->Bool} {s:Shared} {Q:α->Shared->Prop} (hc:∀ i j C,i<n->j<n->C (lt i j) s->cmp i j C s):∀ (t:KasT α),Co n P t->(P (Bj lt t)->Q (Bj lt t) s)->t.kasWp cmp Q s
 | .ret a,h,q=>q h
 | .ask i j k,h,q=>hc i j _ h.1 h.2.1 (PJ hc (k (lt i j)) (h.2.2 _) q)
def In (n:Nat) (p:Array Nat):Prop:=∀ k,p.getD k 0<n
theorem Re {n:Nat} {p q:Array Nat} (h:In n p) (e:q.Perm p) (hn:0<n):In n q:=λk=>by
 rw [Eg]
 cases hk:q[k]? with
 | none=>exact hn
 | some v=>
  have hv:v∈p:=e.mem_iff.mp (Array.mem_of_getElem? hk)
  obtain ⟨i,hi,ei⟩:=Array.mem_iff_getElem.mp hv
  have:=h i
  rw [Eg,Array.getElem?_eq_getElem hi,ei] at this
  exact this
theorem Mp {n:Nat} {p:Array Nat} (h:In n p):∀ (f m:Nat),Co n (λ_=>True) (kas_asc p f m)
 | 0,m=>trivial
 | f+1,m=>⟨h _,h _,λb=>by cases b; exact Mp h f (m+1); exact trivial⟩
theorem GN {n:Nat} {p:Array Nat} (h:In n p) (hn:0<n) (i j:Nat):In n (kas_rev p i j):=Re h (mirror_perm _ _ _ _) hn
theorem IU {n:Nat} (hn:0<n):∀ (f:Nat) (p:Array Nat) (m q:Nat),In n p->Co n (λr:Array Nat×Nat×Nat=>In n r.1) (kas_desc f p m q)
 | 0,p,m,q,h=>h
 | f+1,p,m,q,h=>⟨h _,h _,λb=>by
   cases b
   ·exact ⟨h _,h _,λc=>by
     cases c
     ·exact IU hn f p _ _ h
     ·exact h⟩
   ·show Co n _ (if true=true then _ else _)
    rw [if_pos rfl]
    split
    ·exact IU hn f _ _ _ (GN h hn _ _)
    ·exact IU hn f p _ _ h⟩
theorem Nb {n:Nat} (hn:0<n) {p:Array Nat} (h:In n p) (m r:Nat):Co n (λr:Nat×Array Nat=>In n r.2) (kas_tail3 m r p):=by
 unfold kas_tail3
 refine F7 (P:=λ_=>True) (λa _=>?_) _ (Mp (GN h hn 0 m) _ _)
 exact GN h hn 0 m
theorem Qs {n:Nat} (hn:0<n) {p:Array Nat} (h:In n p) (m r:Nat):Co n (λr:Nat×Array Nat=>In n r.2) (kas_descPart m r p):=
 F7 (λa ha=>by
  show Co n _ (if _>0 then _ else _)
  split
  ·exact Nb hn (GN ha hn _ _) _ _
  ·exact Nb hn ha _ _) _ (IU hn _ _ _ _ h)
theorem Zl {n:Nat} (hn:0<n) {p:Array Nat} (h:In n p) (r:Nat):Co n (λr:Nat×Array Nat=>In n r.2) (kas_count r p):=
 F7 (P:=λ_=>True) (λa _=>by
  show Co n _ (if (_==_)=true then _ else _)
  split
  ·exact h
  ·split
   ·exact ⟨h _,h _,λb=>by
     cases b
     ·exact Qs hn (GN h hn _ _) _ _
     ·exact h⟩
   ·exact Qs hn h _ _) _ (Mp h _ _)
theorem Lu {n:Nat} {p:Array Nat} (h:In n p) (k:Nat):∀ (f l r:Nat),Co n (λ_=>True) (kas_place p k f l r)
 | 0,l,r=>trivial
 | f+1,l,r=>by
  show Co n _ (if l>=r then _ else _)
  split
  ·exact trivial
  ·exact ⟨h _,h _,λb=>by cases b; exact Lu h k f _ _; exact Lu h k f _ _⟩
theorem QR {n:Nat} (hn:0<n):∀ (f:Nat) (p:Array Nat) (k:Nat),In n p->Co n (λ_=>True) (kas_bin f p k)
 | 0,p,k,h=>trivial
 | f+1,p,k,h=>F7 (P:=λ_=>True) (λa _=>QR hn f _ _ (Re h (bubble_perm _ _ _) hn)) _ (Lu h k _ _ _)
theorem SE {n:Nat} (hn:0<n):Co n (λ_=>True) (kas_sort n):=
 F7 (λa ha=>by
  show Co n _ (if _<n then _ else _)
  split
  ·exact QR hn _ _ _ ha
  ·exact trivial) _ (Zl hn (λk=>by
   rw [Eg]
   by_cases hk:k<n
   ·simp [hk]
   ·simp [hk,hn]) n)
section
variable (key:Nat->Int)
theorem QQ:∀ (f:Nat) (p:Array Nat) (k:Nat),k+f<=p.size->C6 key p k->∃ p',Bj (BI key) (kas_bin f p k)=p'/\p'.Perm p/\p'.size=p.size/\C6 key p' (k+f)
 | 0,p,k,h,hs=>⟨p,rfl,Array.Perm.refl _,rfl,hs⟩
 | f+1,p,k,h,hs=>by
  obtain ⟨m,e,h1,h2,h3⟩:=Ls key p k hs k 0 k (Nat.zero_le _) (Nat.le_refl _) wF (λi hi=>by omega) (λi i1 i2=>by omega)
  have hK:∀ i,KQ key (bubble p k (k-m)) i=if i=m then KQ key p k else if m<i/\i<=k then KQ key p (i-1) else KQ key p i:=λi=>by
   unfold KQ
   rw [Eg,getElem?_bubble wF (k-m) wF i]
   rw [show k-(k-m)=m by omega]
   repeat' split
   all_goals rw [Eg]
  obtain ⟨p',e',g1,g2,g3⟩:=QQ f (bubble p k (k-m)) (k+1) (by rw [bubble_size]; omega) (λi j hij hj=>by
   rw [hK,hK]
   by_cases im:i=m
   ·rw [if_pos im]
    by_cases jm:j=m
    ·rw [if_pos jm]; exact Int.le_refl _
    ·rw [if_neg jm,if_pos wF]
     exact Int.le_of_lt (h3 (j-1) wF wF)
   ·rw [if_neg im]
    by_cases jm:j=m
    ·rw [if_pos jm,if_neg wF]
     exact h2 i wF
    ·rw [if_neg jm]
     by_cases hi:m<i/\i<=k
     ·rw [if_pos hi,if_pos wF]
      exact hs _ _ wF wF
     ·rw [if_neg hi]
      by_cases hj':m<j/\j<=k
      ·rw [if_pos hj']
       exact hs _ _ wF wF
      ·rw [if_neg hj']
       exact hs _ _ hij wF)
  refine ⟨p',?_,g1.trans (bubble_perm _ _ _),g2.trans (bubble_size _ _ _),?_⟩
  ·show Bj _ (KasT.bind _ _)=_
   rw [Fc,e]
   exact e'
  ·rw [show k+(f+1)=k+1+f by omega]; exact g3
theorem SD {n:Nat} (hn:0<n):∃ p,Bj (BI key) (kas_sort n)=p/\p.Perm (List.toArray (List.range n))/\p.size=n/\C6 key p n:=by
 obtain ⟨m,p,e,h1,h2,h3,h4,h5⟩:=Zk key (nrem:=n) (p:=List.toArray (List.range n)) hn (by simp)
 have hz:p.size=n:=by rw [h4]; simp
 by_cases hm:m<n
 ·obtain ⟨p',e',g1,g2,g3⟩:=QQ key (n-max m 1) p (max m 1) wF (by rw [show max m 1=m by omega]; exact h5)
  refine ⟨p',?_,g1.trans h3,g2.trans hz,by rw [show max m 1+(n-max m 1)=n by omega] at g3; exact g3⟩
  unfold kas_sort
  rw [Fc,e]
  show Bj _ (if m<n then _ else _)=_
  rw [if_pos hm]
  exact e'
 ·refine ⟨p,?_,h3,hz,by rw [show n=m by omega]; exact h5⟩
  unfold kas_sort
  rw [Fc,e]
  show Bj _ (if m<n then _ else _)=_
  rw [if_neg hm]
  rfl
end
def D8 {α:Type} (lt:α->α->Bool) (l:List α) (x:α):Int:=((l.filter λz=>lt z x).length:Nat)
theorem OJ {α:Type} {lt:α->α->Bool} {l:List α} {x y:α} (irr:∀ a,lt a a=false) (tr:∀ a b c,lt a b=true->lt b c=true->lt a c=true) (hx:x∈l) (h:lt x y=true):D8 lt l x<D8 lt l y:=by
 have key:∀ l:List α,(l.filter λz=>lt z x).length<=(l.filter λz=>lt z y).length:=λl=>by
  induction l with
  | nil=>simp
  | cons a l ih=>
   simp only [List.filter_cons]
   by_cases ha:lt a x=true
   ·rw [if_pos ha,if_pos (tr _ _ _ ha h)]; simp; exact ih
   ·rw [if_neg ha]; split
    ·simp; omega
    ·exact ih
 have strict:∀ l:List α,x∈l->(l.filter λz=>lt z x).length<(l.filter λz=>lt z y).length:=λl=>by
  induction l with
  | nil=>intro h; cases h
  | cons a l ih=>
   intro hm
   have base:=key l
   simp only [List.filter_cons]
   rcases List.mem_cons.mp hm with rfl | hm
   ·rw [if_neg (by rw [irr]; simp),if_pos h]; simp; omega
   ·have:=ih hm
    by_cases ha:lt a x=true
    ·rw [if_pos ha,if_pos (tr _ _ _ ha h)]; simp; exact this
    ·rw [if_neg ha]; split
     ·simp; omega
     ·exact this
 unfold D8
 have:=strict l hx
 omega
theorem OL {α:Type} {lt:α->α->Bool} {l:List α} {x y:α} (irr:∀ a,lt a a=false) (tr:∀ a b c,lt a b=true->lt b c=true->lt a c=true) (tot:∀ a b,lt a b=false->lt b a=false->a=b) (hx:x∈l) (hy:y∈l):decide (D8 lt l x<D8 lt l y)=lt x y:=by
 cases h:lt x y with
 | true=>exact decide_eq_true (OJ irr tr hx h)
 | false=>
  refine decide_eq_false λz=>?_
  cases h':lt y x with
  | true=>have:=OJ irr tr hy h'; omega
  | false=>rw [tot _ _ h h'] at z; omega
abbrev F8 (h:Heap) (a:Addr) (vs:List Value):Heap:=((h.update a (Obj.mapSeq λ_=>(#[]:Array Value))).push (seqObj "tuple" vs.toArray 0)).push (seqObj "list" #[] 0)
theorem XY {h:Heap} {a b:Addr} {vs:List Value} {o:Obj} (hb:b≠a) (e:h.get? b=some o):(F8 h a vs).get? b=some o:=
 Heap.get?_push_of_some _ (Heap.get?_push_of_some _ ((Heap.get?_update_ne _ _ _ _ hb).trans e))
theorem XX {h:Heap} {a:Addr} {vs:List Value} {n:Nat} (e:h.get? a=some (seqObj "list" vs.toArray n)):∃ m,(h.update a (Obj.mapSeq λ_=>(#[]:Array Value))).get? a=some (seqObj "list" #[] m)/\(F8 h a vs).get? a=some (seqObj "list" #[] m):=
 ⟨_,get?_update_seq e _,Heap.get?_push_of_some _ (Heap.get?_push_of_some _ (get?_update_seq e _))⟩
section
variable {prog:Program} {w:World} {A:Around} {E:Value->Shared->Prop} {s:Shared}
def DA (p:Array Nat) (vs:List Value):List Value:=p.toList.map λi=>vs.getD i Value.none
def Mu (prog:Program) (w:World) (A:Around) (vs:List Value) (s:Shared) (G:SortSt->Prop):Prop:=
 ∀ E:Value->Shared->Prop,wpAny (model prog w) A (if vs.toArray.size<2 then pure general' else keyKind' vs.toArray)
  (λκ s1=>wpAny (model prog w) A ((if vs.toArray.size<2 then pure () else sortRuns').run (SortSt.mk' κ (vs.toArray.zip vs.toArray) #[] 7 none)) (λr s2=>s2=s/\failedOf r.2=none/\G r.2) E s1) E s
theorem XZ {α β:Type} {M:Model} {c:Prop} [Decidable c] {x y:Sem α} {f:α->Sem β} {Q:β->Shared->Prop} (h:wpAny M A ((if c then x else y) >>= f) Q E s):wpAny M A (if c then x >>= f else y >>= f) Q E s:=by
 by_cases hc:c
 ·rw [if_pos hc] at h ⊢; exact h
 ·rw [if_neg hc] at h ⊢; exact h
theorem SC {a:Addr} {vs:List Value} {n:Nat} {G:SortSt->Prop} {P:PySem.Fin->Shared->Prop} (ho:s.heap.get? a=some (seqObj "list" vs.toArray n)) (lim:vs.length<=sizeLine) (hr:Mu prog w A vs { s with heap:=F8 s.heap a vs } G)
  (h:∀ st,G st->((arrOf st).map (·.2)).size<=sizeLine+1/\P (.done (.ret .none)) { s with heap:=sortedHeap s.heap a vs ((arrOf st).map (·.2)) }):wpAny (model prog w) A (Builtin.«list.sort» ⟨[.ref a],[]⟩) P E s:=by
 obtain ⟨m,g1,g2⟩:=XX ho
 rw [list_sort_plain]
 refine wpAny_bind (listItems_at ho rfl (wpAny_bind (listUpdate_at ho rfl ?_ (by simpa using lim) (Nat.zero_le _))))
 refine wpAny_bind (seqEpoch_at g1 rfl (wpAny_bind (wpAny_newTuple (wpAny_bind (wpAny_newList (wpAny_holding ?_) (Nat.zero_le _))) lim)))
 refine XZ (wpAny_bind (wpAny_mono (hr E) (λκ s1 q1=>wpAny_bind (wpAny_mono q1 (λr s2 q2=>?_) λ_ _ e=>e)) λ_ _ e=>e))
 obtain ⟨⟨⟩,st⟩:=r
 obtain ⟨rfl,f0,gs⟩:=q2
 obtain ⟨z,q⟩:=h st gs
 refine wpAny_bind (seqEpoch_at g2 rfl (wpAny_bind (listUpdate_at g2 rfl ?_ (Nat.zero_le _) z)))
 dsimp only at f0
 rw [f0,bne_self_eq_false]
 exact wpAny_pure q
def Hz (prog:Program) (w:World) (A:Around) (vs:List Value) (key:Nat->Int) (s:Shared):Prop:=
 ∃ κ,(∀ (E:Value->Shared->Prop) (Q:SortKind->Shared->Prop),Q κ s->wpAny (model prog w) A (keyKind' vs.toArray) Q E s)/\∀ i j (C:Bool->Shared->Prop),i<vs.length->j<vs.length->C (decide (key i<key j)) s->wpAny (model prog w) A (keyLt' κ (vs.getD i Value.none) (vs.getD j Value.none)) C (λ_ _=>False) s
def Jc (vs:List Value) (key:Nat->Int) (st:SortSt):Prop:=∃ p:Array Nat,p.Perm (List.toArray (List.range vs.length))/\p.size=vs.length/\C6 key p vs.length/\(arrOf st).map (·.2)=List.toArray (DA p vs)
theorem T6 {vs:List Value} {key:Nat->Int} (h:vs.length<2):Mu prog w A vs s (Jc vs key):=λE=>by
 have c:vs.toArray.size<2:=by simpa using h
 simp only [if_pos c]
 refine wpAny_pure (wpAny_pure ⟨rfl,rfl,List.toArray (List.range vs.length),Array.Perm.refl _,by simp,λi j hij hj=>?_,?_⟩)
 ·rw [show i=j by omega]
  exact Int.le_refl _
 ·show (vs.toArray.zip vs.toArray).map (·.2)=_
  match vs,h with
  | [],_=>simp [DA]
  | [v],_=>simp [DA]
theorem T5 {vs:List Value} {key:Nat->Int} (h:2<=vs.length) (h64:vs.length<64) (cm:Hz prog w A vs key s):Mu prog w A vs s (Jc vs key):=λE=>by
 have c:¬ vs.toArray.size<2:=by simpa using h
 simp only [if_neg c]
 obtain ⟨κ,kd,cm⟩:=cm
 obtain ⟨p,ep,g1,g2,g3⟩:=SD key (n:=vs.length) wF
 refine kd _ _ (kat_run (ks:=vs) (Q:=λst s2=>s2=s/\failedOf st=none/\Jc vs key st) (G:=λq s2=>s2=s/\q=p) rfl h h64 (λq st s2 _ a2 a3 a4=>⟨a4.1,a3,p,g1,g2,g3,?_⟩) (PJ (n:=vs.length) (lt:=BI key) cm _ (SE wF) λ_=>⟨rfl,ep⟩))
 rw [a4.2] at a2
 exact kat_snds (ks:=vs) (vs:=vs) rfl a2
theorem SF {a:Addr} {vs:List Value} {n:Nat} {key:Nat->Int} {P:PySem.Fin->Shared->Prop} (ho:s.heap.get? a=some (seqObj "list" vs.toArray n)) (h64:vs.length<64)
  (hk:2<=vs.length->Hz prog w A vs key { s with heap:=F8 s.heap a vs })
  (h:∀ p:Array Nat,p.Perm (List.toArray (List.range vs.length))->p.size=vs.length->C6 key p vs.length->P (.done (.ret .none)) { s with heap:=sortedHeap s.heap a vs (List.toArray (DA p vs)) }):wpAny (model prog w) A (Builtin.«list.sort» ⟨[.ref a],[]⟩) P E s:=by
 have lim:vs.length<=sizeLine:=by rw [sizeLine_eq]; omega
 refine SC (G:=Jc vs key) ho lim ?_ λst ⟨p,p1,p2,p3,e⟩=>?_
 ·by_cases c:vs.length<2
  ·exact T6 c
  ·exact T5 wF h64 (hk wF)
 ·rw [e]
  exact ⟨by simp [DA]; omega,h p p1 p2 p3⟩
theorem ZA {x:Value} {Q:Value->Shared->Prop}
  (hc:wpAny (model prog w) A.in1 (collect x) (λvs s1=>∃ key,vs.length<64/\(2<=vs.length->Hz prog w A.in1.in1 vs key { s1 with heap:=F8 (s1.heap.push (seqObj "list" vs.toArray 0)) s1.heap.objs.size vs }) /\
   ∀ p:Array Nat,p.Perm (List.toArray (List.range vs.length))->p.size=vs.length->C6 key p vs.length->Q (.ref s1.heap.objs.size) { s1 with heap:=sortedHeap (s1.heap.push (seqObj "list" vs.toArray 0)) s1.heap.objs.size vs (List.toArray (DA p vs)) }) E s):wpAny (model prog w) A (call (.builtin "sorted") [x]) Q E s:=by
 have body:wpAny (model prog w) A.in1 (Builtin.«sorted» ⟨[x],[]⟩) (λfin s'=>∃ v,fin=.done (.ret v)/\Q v s') E s:=by
  refine wpAny_bind (m:=checkCount "sorted" 1 1 _) (wpAny_pure (wpAny_bind (Ar hc λvs s1 ⟨key,h64,hk,hq⟩=>wpAny_bind (wpAny_newList (wpAny_bind (wpAny_holding ?_)) (by rw [sizeLine_eq]; omega)))))
  have own:(s1.heap.push (seqObj "list" vs.toArray 0)).get? s1.heap.objs.size=some (seqObj "list" vs.toArray 0):=Heap.get?_push_size _ rfl
  exact wpAny_call_entry slot_list_sort ⟨_,own,rfl⟩ entry_list_sort (SF (s:={ s1 with heap:=s1.heap.push (seqObj "list" vs.toArray 0) }) own h64 hk λp p1 p2 p3=>⟨_,rfl,wpAny_pure ⟨_,rfl,hq p p1 p2 p3⟩⟩) (args_list_sort _)
 exact Calls.call_function_entry kind_sorted plain_sorted entry_sorted (args_sorted1 _) body
end
theorem Fj {prog:Program} {w:World} {A:Around} {s:Shared} {id:String} {b:Builtin} {args:Args} {R:Result->Shared->Prop} (pl:plainId id=true) (en:entryFor table id=some b)
  (h:wpAny (model prog w) A.in1 (b args) (λfin s'=>match fin with | .done f=>R (.ok f) s' | .again c=>c.quiet=true/\codeAny (model prog w) A c R s') (λe s'=>R (.error e) s') s):codeAny (model prog w) A (.builtin id args) R s:=
 codeAny_builtin en (by rw [Around.under_plainId pl]; exact h)
abbrev Dn (its:List Value) (c:Nat):Obj:={ cls:=.type "list",dict:=none,data:=.seq its.toArray c,slots:=#[] }
theorem Z4 {M:Model} {A:Around} {E:Value->Shared->Prop} {s:Shared} {α:Type} {t:Sem α} {Q:α->Shared->Prop} {F:Shared->Prop} {u:Sem Unit} (hu:u=pure ()) (h:wpAny M A u (λ_ s2=>F s2) E s) (k:∀ s2,F s2->wpAny M A t Q E s2):wpAny M A t Q E s:=by
 subst hu
 have:=wpAny_bind (f:=λ_=>t) (wpAny_mono h (λ_ s2 q=>k s2 q) λ_ _ e=>e)
 simpa using this
theorem P7 {X:Cx} {pins:List (Addr×Obj)} {H:Hp} {b S:Addr} {o:Obj} (h:Cg X pins H b) (hb:S≠b):Cg X ((S,o)::pins) H b:=by
 obtain ⟨f0,f1,f2,f3,f4,f5⟩:=h
 refine ⟨f0,f1,f2,f3,f4,λp hp=>?_⟩
 simp only [List.mem_append,List.mem_cons] at hp
 rcases hp with q | rfl | q
 ·exact f5 p (List.mem_append_left _ q)
 ·exact hb
 ·exact f5 p (List.mem_append_right _ q)
theorem Rb {X:Cx} {pins:List (Addr×Obj)} {σ:L2.St} {H:Hp} {s:Shared} {q:Addr×Obj} (I:L2.Inv X (q::pins) σ H s):L2.Inv X pins σ H s:=I.pins_of λp hp=>I.pin p (List.mem_append_right _ (List.mem_cons_of_mem _ hp))
structure Ht (X:Cx) (pins:List (Addr×Obj)) (σ:L2.St) (O:Ad) (G1:Wd) (xs:List D) (S:Addr) (i:Nat) (s:Shared) (H:Hp) (G:Wd) (vs:List V) (its:List Value) (c:Nat):Prop where
 inv:L2.Inv X ((S,Dn its c)::pins) σ H s
 ext:Ah G1 G
 sa:SA X.K G H O
 iss:Am X.K G (xs.take i) vs
 vals:AC vs its
section
variable {X:Cx} {A:Around} {tg:Expr} {J:It} {fp:List Addr} {it:Addr} {tn:Nat->Heap->Prop} {pins:List (Addr×Obj)} {σ:L2.St} {O:Ad} {G1:Wd} {xs:List D} {S:Addr} {res:Value} {R:Result->Shared->Prop}
theorem Ht.more {i:Nat} {s s2:Shared} {H H2:Hp} {G G2:Wd} {vs:List V} {its:List Value} {c:Nat} {x:D} {xv:V} {u:Value} (g:Ht X pins σ O G1 xs S i s H G vs its c) (I2:L2.Inv X ((S,Dn its c)::pins) σ H2 s2) (hSs:X.s₀.heap.objs.size<=S) (hSC:∀ x c,X.env.cells.lookup x=some c->c≠S) (hSp:∀ p∈X.pn++pins,p.1≠S) (hx:xs[i]?=some x) (e2:Ah G G2) (sa2:SA X.K G2 H2 O) (ix:Is X.K G2 x xv) (r:AV xv u) :
  Ht X pins σ O G1 xs S (i+1) { s2 with heap:=s2.heap.update S (Obj.mapSeq (·.push u)) } H2 G2 (vs++[xv]) (its++[u]) (c+1):=by
 have p:=I2.pin (S,Dn its c) (List.mem_append_right _ List.mem_cons_self)
 have Iq:L2.Inv X pins σ H2 { s2 with heap:=s2.heap.update S (Obj.mapSeq (·.push u)) }:=(Rb I2).turned (t':=s2.toks) (λb o hb q=>(Heap.get?_update_other _ _ (Ne.symm hb)).trans q) p.2.1 p.2.2.1 (.inr hSs) hSC hSp
 refine ⟨Iq.pins_of λq hq=>?_,g.ext.trans e2,sa2,?_,g.vals.append (.cons r .nil)⟩
 ·rcases List.mem_cons.mp hq with rfl | hq
  ·refine ⟨?_,p.2.1,p.2.2.1,p.2.2.2.1,λv z=>by cases z⟩
   rw [Heap.get?_update_self _ p.1 rfl]
   simp [Obj.mapSeq,Dn]
  ·exact Iq.pin q (List.mem_append_right _ hq)
 ·rw [List.take_add_one,hx]
  exact (g.iss.ext e2).append (.cons ix .nil)
theorem PZ (hA:X.A=A.in1) (hc:X.calm=true) (T:EK X.prog X.w X.K tg J fp it tn) (hgo:∀ v,letOwnedTupleGo tg (.ref it) v=pure ()) (Yi:DI X.K G1 J xs) (hsz:xs.length<=sizeLine) (hSs:X.s₀.heap.objs.size<=S) (hSC:∀ x c,X.env.cells.lookup x=some c->c≠S) (hSp:∀ p∈X.pn++pins,p.1≠S)
  (fpS:∀ (H:Hp),(∀ b∈fp,H b=none)->∀ b∈fp,Cg X pins H b) (hSf:S∉fp)
  (fin:∀ s H G vs its c,Ht X pins σ O G1 xs S xs.length s H G vs its c->R (.ok (.ret res)) s) :
  ∀ (k i:Nat) (s:Shared) (H:Hp) (G:Wd) (vs:List V) (its:List Value) (c:Nat),i+k=xs.length->Ht X pins σ O G1 xs S i s H G vs its c->tn i s.heap->(∀ b∈fp,H b=none)->
   codeAny (model X.prog X.w) A (.builtin "list.extend.loop" ⟨[.ref S,.ref it,res],[]⟩) R s
 | 0,i,s,H,G,vs,its,c,hk,g,st,fr=>by
  have hi:i=xs.length:=by omega
  subst hi
  have fps:∀ b∈fp,Cg X ((S,Dn its c)::pins) H b:=λb hb=>P7 (fpS H fr b hb) λz=>hSf (z ▸ hb)
  refine Fj F.plain_extend_loop F.entry_extend_loop (hA ▸ wpAny_bind (Ar (T.done X rfl rfl rfl hc xs.length _ s σ H _ g.inv fps st (Yi.stop _ H (g.ext.g.trans g.sa.sub) (Nat.le_refl _))) λr s' ⟨hr,I'⟩=>?_))
  subst hr
  exact wpAny_pure (fin s' H G vs its c ⟨I',g.ext,g.sa,g.iss,g.vals⟩)
 | k+1,i,s,H,G,vs,its,c,hk,g,st,fr=>by
  have hi:i<xs.length:=by omega
  have fps:∀ b∈fp,Cg X ((S,Dn its c)::pins) H b:=λb hb=>P7 (fpS H fr b hb) λz=>hSf (z ▸ hb)
  have hl:its.length=i:=by
   rw [<- g.vals.length,<- g.iss.length,List.length_take]; omega
  refine Fj F.plain_extend_loop F.entry_extend_loop (hA ▸ wpAny_bind (Ar (T.item X rfl rfl rfl hc i _ s σ H _ g.inv fps st (Yi.go i H (g.ext.g.trans g.sa.sub) hi)) λr s1 ⟨u,hr,h1⟩=>?_))
  subst hr
  refine Z4 (hgo u) h1 λs2 ⟨xv,H2,I2,r2,y2,st2,fr2⟩=>?_
  obtain ⟨x,G2,hx,e2,sa2,ix⟩:=Yi.yld i xv H H2 G O g.ext g.sa y2 hi
  have p2:=I2.pin (S,Dn its c) (List.mem_append_right _ List.mem_cons_self)
  refine wpAny_bind (listUpdate_at p2.1 rfl (wpAny_pure ⟨plainId_quiet F.plain_extend_loop _,PZ hA hc T hgo Yi hsz hSs hSC hSp fpS hSf fin k (i+1) _ H2 G2 _ _ (c+1) wF (g.more I2 hSs hSC hSp hx e2 sa2 ix r2) ?_ fr2⟩) (by simp; omega) (by simp; omega))
  exact T.keep _ _ _ st2 λb hb o q=>(Heap.get?_update_other _ _ (λz=>hSf (by rw [z]; exact hb))).trans q
end
theorem Rj:typeLookup (.type "zip") "__len__" = pure none:=by rw [typeLookup_type,builtinLookup_eq_fast]; kernel_rfl
theorem Rk:typeLookup (.type "zip") "__length_hint__" = pure none:=by rw [typeLookup_type,builtinLookup_eq_fast]; kernel_rfl
structure Je (T:String):Prop where
 len:typeLookup (.type T) "__len__" = pure none
 hint:typeLookup (.type T) "__length_hint__" = pure none
 nl:(Value.type T==Value.type "list")=false
 nt:(Value.type T==Value.type "tuple")=false
theorem WP:Je "zip" :=⟨Rj,Rk,by decide,by decide⟩
theorem Zq {prog:Program} {w:World} {A:Around} {s:Shared} {E:Value->Shared->Prop} {it:Addr} {Ty:String} {Q:List Value->Shared->Prop} (hN:Je Ty) (hT:s.TypeIs (.ref it) Ty)
  (hi:∀ (h:Heap) (F:Value->Shared->Prop) (E':Value->Shared->Prop),(∀ c o,s.heap.get? c=some o->h.get? c=some o)->F (.ref it) { s with heap:=h }->wpAny (model prog w) A.in1 (pyIter (.ref it)) F E' { s with heap:=h })
  (k:∀ (h:Heap) (c:Nat) (R:Result->Shared->Prop),(∀ b o,s.heap.get? b=some o->h.get? b=some o)->h.get? s.heap.objs.size=some (Dn [] c)->(∀ s' its c',s'.heap.get? s.heap.objs.size=some (Dn its c')->Q its s'->R (.ok (.ret (.ref s.heap.objs.size))) s')->
   codeAny (model prog w) A (.builtin "list.extend.loop" ⟨[.ref s.heap.objs.size,.ref it,.ref s.heap.objs.size],[]⟩) R { s with heap:=h }) :
  wpAny (model prog w) A (collect (.ref it)) Q E s:=by
 obtain ⟨h,g,d,tk,os⟩:=s
 obtain ⟨o,ho,hc⟩:=hT
 have lt:it<h.objs.size:=Heap.lt_size ho
 have ne:h.objs.size≠it:=Nat.ne_of_gt lt
 dsimp only at hi k
 wp_walk
 refine Fj F.plain_proto_collect F.entry_proto_collect ?_
 wp_walk
 have up:∀ b u,h.get? b=some u->(h.push { cls:=.type "list",data:=.seq #[] }).get? b=some u:=λb u e=>Heap.get?_push_of_some _ e
 have own:(h.push { cls:=.type "list",data:=.seq #[] }).get? h.objs.size=some { cls:=.type "list",data:=.seq #[] }:=Heap.get?_push_size _ rfl
 have ty:Shared.TypeIs ⟨h.push { cls:=.type "list",data:=.seq #[] },g,d,tk,os⟩ (.ref it) Ty:=⟨o,up _ _ ho,hc⟩
 have len:=hN.len
 have hint:=hN.hint
 have nl:=hN.nl
 have nt:=hN.nt
 refine ⟨plainId_quiet F.plain_list_iadd _,Fj F.plain_list_iadd F.entry_list_iadd ?_⟩
 have sr:Builtin.List.listSameRef (.ref h.objs.size) (.ref it)=false:=beq_eq_false_iff_ne.mpr ne
 wp_walk using hi _ _ _ up
 have g1:=Heap.get?_update_self (Obj.mapSeq λx=>x.push Value.none) own rfl
 refine ⟨plainId_quiet F.plain_extend_loop _,k _ _ _ (λb u e=>?_) (Heap.get?_update_self (Obj.mapSeq λx=>x.pop) g1 rfl) λs' its c' e q=>wpAny_bind (wpAny_load e (wpAny_pure q))⟩
 have nb:h.objs.size≠b:=λz=>Nat.lt_irrefl _ (z ▸ Heap.lt_size e)
 rw [Heap.get?_update_other _ _ nb,Heap.get?_update_other _ _ nb]
 exact up b u e
theorem Zp {X:Cx} {A:Around} {tg:Expr} {J:It} {fp:List Addr} {it:Addr} {tn:Nat->Heap->Prop} {pins:List (Addr×Obj)} {σ:L2.St} {O:Ad} {G1:Wd} {xs:List D} {s:Shared} {H:Hp} {E:Value->Shared->Prop} {Ty:String} {Q:List Value->Shared->Prop}
  (hA:X.A=A.in1) (hc:X.calm=true) (T:EK X.prog X.w X.K tg J fp it tn) (hgo:∀ v,letOwnedTupleGo tg (.ref it) v=pure ()) (Yi:DI X.K G1 J xs) (hsz:xs.length<=sizeLine) (hN:Je Ty) (hT:s.TypeIs (.ref it) Ty) (I:L2.Inv X pins σ H s) (st:tn 0 s.heap) (f:∀ b∈fp,Cg X pins H b) (sa:SA X.K G1 H O)
  (hQ:∀ (s':Shared) (H':Hp) (G':Wd) (vs:List V) (its:List Value),L2.Inv X pins σ H' s'->Ah G1 G'->SA X.K G' H' O->Am X.K G' xs vs->AC vs its->Q its s'):wpAny (model X.prog X.w) A (collect (.ref it)) Q E s:=by
 have out:s.heap.objs.size∉fp:=λm=>let ⟨o,e,_⟩:=T.obj 0 _ st _ m; Nat.lt_irrefl _ (Heap.lt_size e)
 obtain ⟨g0,g1,g2,g3,g4,g5⟩:Cg X pins H s.heap.objs.size:=I.fpOk (Nat.le_refl _) (I.hok.fresh (Nat.le_refl _))
 refine Zq hN hT (λh F E' up q=>T.self A.in1 0 _ _ _ (T.keep 0 _ _ st λb _ o e=>up b o e) q) λh c R up own kr=>?_
 have I3:L2.Inv X pins σ H { s with heap:=h,toks:=s.toks }:=I.kept up
 refine PZ hA hc T hgo Yi hsz I.sz g4 g5 (λH' fr b hb=>⟨fr b hb,(f b hb).2⟩) out (λs' H' G' vs its c' g=>?_) xs.length 0 _ H G1 [] [] c wF ⟨I3.pins_of λp hp=>?_,Ah.refl _,sa,.nil,.nil⟩ (T.keep 0 _ _ st λb _ o e=>up b o e) λb hb=>(f b hb).1
 ·exact kr s' its c' (g.inv.pin (_,Dn its c') (List.mem_append_right _ List.mem_cons_self)).1 (hQ s' H' G' vs its (Rb g.inv) g.ext g.sa (by have:=g.iss; rwa [List.take_length] at this) g.vals)
 ·rcases List.mem_cons.mp hp with rfl | q
  ·exact ⟨own,g0,g1,g2,λv z=>by cases z⟩
  ·exact I3.pin p (List.mem_append_right _ q)
structure D1 {α:Type} (lt:α->α->Bool):Prop where
 irr:∀ a,lt a a=false
 tr:∀ a b c,lt a b=true->lt b c=true->lt a c=true
 tot:∀ a b,lt a b=false->lt b a=false->a=b
def Ca {α:Type} (lt:α->α->Bool) (l:List α):List α:=l.mergeSort λa b=>!lt b a
theorem HK {α:Type} (lt:α->α->Bool) (l:List α):(Ca lt l).Perm l:=List.mergeSort_perm _ _
theorem D1.trle {α:Type} {lt:α->α->Bool} (o:D1 lt):∀ a b c:α,(!lt b a)=true->(!lt c b)=true->(!lt c a)=true:=λa b c h1 h2=>by
 have h1:lt b a=false:=by simpa using h1
 have h2:lt c b=false:=by simpa using h2
 cases h:lt c a with
 | false=>rfl
 | true=>
  cases h3:lt a b with
  | true=>rw [o.tr _ _ _ h h3] at h2; cases h2
  | false=>rw [o.tot _ _ h3 h1] at h; rw [h] at h2; cases h2
theorem D1.totle {α:Type} {lt:α->α->Bool} (o:D1 lt):∀ a b:α,((!lt b a)||(!lt a b))=true:=λa b=>by
 cases h:lt b a with
 | false=>rfl
 | true=>
  cases h2:lt a b with
  | false=>rfl
  | true=>have:=o.tr _ _ _ h h2; rw [o.irr] at this; cases this
theorem Np {α:Type} {lt:α->α->Bool} (o:D1 lt) (l:List α):(Ca lt l).Pairwise λa b=>(!lt b a)=true:=List.pairwise_mergeSort o.trle o.totle l
theorem Sy {α:Type} {lt:α->α->Bool} (o:D1 lt) {l q:List α} (h1:q.Perm l) (h2:q.Pairwise λa b=>(!lt b a)=true):q=Ca lt l:=
 List.Perm.eq_of_pairwise (λa b _ _ x y=>o.tot a b (by simpa using y) (by simpa using x)) h2 (Np o l) (h1.trans (HK lt l).symm)
theorem UN {p:Array Nat} {n:Nat} (g:p.Perm (List.toArray (List.range n))):∀ i∈p.toList,i<n:=λi hi=>by
 have:i∈List.toArray (List.range n):=g.mem_iff.mp (Array.mem_toList_iff.mp hi)
 simpa using this
theorem UO {α:Type} [Inhabited α] {p:Array Nat} {ps:List α} (g:p.Perm (List.toArray (List.range ps.length))):(p.toList.map λi=>ps.getD i default).Perm ps:=by
 have e:(List.range ps.length).map (λi=>ps.getD i default)=ps:=by
  apply List.ext_getElem
  ·simp
  ·intro i h1 h2
   simp
   rw [List.getElem?_eq_getElem h2]
   rfl
 have q:p.toList.Perm (List.range ps.length):=by
  have:=Array.perm_iff_toList_perm.mp g
  simpa using this
 have:=q.map λi=>ps.getD i default
 rw [e] at this
 exact this
theorem SB {α:Type} [Inhabited α] {lt:α->α->Bool} (o:D1 lt) {K:PySem.W.Frag} {G:Wd} {ps:List α} {f:α->D} {vs:List V} {its:List Value} {key:Nat->Int} (hkey:∀ i,i<ps.length->key i=D8 lt ps (ps.getD i default)) (is:Am K G (ps.map f) vs) (va:AC vs its)
  {p:Array Nat} (g1:p.Perm (List.toArray (List.range ps.length))) (g2:p.size=ps.length) (g3:C6 key p ps.length):∃ us,AC us (DA p its)/\Am K G ((Ca lt ps).map f) us/\us.length=ps.length:=by
 have hb:=UN g1
 have e1:=is.length
 have e2:=va.length
 rw [List.length_map] at e1
 refine ⟨p.toList.map λi=>vs.getD i .non,?_,?_,by simp [g2]⟩
 ·unfold DA
  have:∀ l:List Nat,(∀ i∈l,i<ps.length)->AC (l.map λi=>vs.getD i .non) (l.map λi=>its.getD i Value.none):=λl=>by
   induction l with
   | nil=>intro _; exact .nil
   | cons a l ih=>
    intro h
    have ha:=h a List.mem_cons_self
    obtain ⟨u,hu,ru⟩:=va.get (i:=a) (x:=vs[a]'wF) (by simp)
    refine .cons ?_ (ih λi hi=>h i (List.mem_cons_of_mem _ hi))
    dsimp only
    rw [List.getD_eq_getElem?_getD,List.getD_eq_getElem?_getD,List.getElem?_eq_getElem (show a<vs.length by omega),hu]
    exact ru
  exact this _ hb
 ·rw [<- Sy o (UO g1) ?_]
  ·have:∀ l:List Nat,(∀ i∈l,i<ps.length)->Am K G ((l.map λi=>ps.getD i default).map f) (l.map λi=>vs.getD i .non):=λl=>by
    induction l with
    | nil=>intro _; exact .nil
    | cons a l ih=>
     intro h
     have ha:=h a List.mem_cons_self
     obtain ⟨v,hv,iv⟩:=is.get (i:=a) (d:=f ps[a]) (by simp [ha])
     refine .cons ?_ (ih λi hi=>h i (List.mem_cons_of_mem _ hi))
     dsimp only
     rw [List.getD_eq_getElem?_getD,List.getD_eq_getElem?_getD,List.getElem?_eq_getElem ha,hv]
     exact iv
   exact this _ hb
  ·rw [List.pairwise_iff_getElem]
   intro i j hi hj hij
   rw [List.length_map,Array.length_toList] at hi hj
   have kq:∀ i (h:i<p.size),KQ key p i=D8 lt ps (ps.getD p[i] default):=λi h=>by
    unfold KQ
    rw [Eg,Array.getElem?_eq_getElem h,Option.getD_some]
    exact hkey _ (hb _ (Array.mem_toList_iff.mpr (Array.getElem_mem h)))
   have k:=g3 i j (Nat.le_of_lt hij) wF
   rw [kq i hi,kq j hj] at k
   rw [List.getElem_map,List.getElem_map,Array.getElem_toList,Array.getElem_toList]
   have mem:∀ i (h:i<p.size),ps.getD p[i] default∈ps:=λi h=>by
    have:=hb _ (Array.mem_toList_iff.mpr (Array.getElem_mem h))
    rw [List.getD_eq_getElem?_getD,List.getElem?_eq_getElem this]
    exact List.getElem_mem _
   have:=OL o.irr o.tr o.tot (mem j hj) (mem i hi)
   rw [<- this]
   simp only [Bool.not_eq_true',decide_eq_false_iff_not]
   omega
def AY (a b:Int×Int):Bool:=decide (a.1<b.1\/(a.1=b.1/\a.2<b.2))
theorem GQ:D1 AY:=⟨λa=>by simp [AY],λa b c h1 h2=>by simp [AY] at *; omega,λa b h1 h2=>by
 simp [AY] at *
 obtain ⟨a1,a2⟩:=a; obtain ⟨b1,b2⟩:=b
 simp at *
 omega⟩
abbrev pD (p:Int×Int):D:=.tup [.int p.1,.int p.2]
def MF {α:Type} [Inhabited α] (X:Cx) (lt:α->α->Bool) (f:α->D):Prop:=
 ∀ (A:Around) (G:Wd) (H:Hp) (pins:List (Addr×Obj)) (σ:L2.St) (s:Shared) (s':Shared) (O:Ad) (ps:List α) (vs:List V) (its:List Value),L2.Inv X pins σ H s->SA X.K G H O->Am X.K G (ps.map f) vs->AC vs its->2<=ps.length->(∀ b o,s.heap.get? b=some o->s'.heap.get? b=some o)->
  Hz X.prog X.w A its (λi=>D8 lt ps (ps.getD i default)) s'
theorem P4 {α:Type} {l:List α} {i:Nat} (h:i<l.length) (d:α):l.getD i d=l[i]:=by rw [List.getD_eq_getElem?_getD,List.getElem?_eq_getElem h]; rfl
theorem QU {α:Type} {l:List α} {i:Nat} (h:i<l.length) (d:α):l.getD i d∈l:=by rw [P4 h]; exact List.getElem_mem _
theorem Zv {X:Cx}:MF X AY pD:=λA G H pins σ s s' O ps vs its I sa is va h2 up=>by
 have e1:=is.length
 have e2:=va.length
 rw [List.length_map] at e1
 have at':∀ i,i<ps.length->∃ a t u,its.getD i Value.none=.ref a/\∃ o n,s'.heap.get? a=some o/\o.cls=.type "tuple" /\ o.data=.seq #[.int (ps.getD i default).1 t,.int (ps.getD i default).2 u] n:=λi hi=>by
  obtain ⟨v,hv,iv⟩:=is.get (i:=i) (d:=pD ps[i]) (by simp [hi])
  obtain ⟨w,hw,rw'⟩:=va.get hv
  cases iv with
  | tup h r=>
  cases r with | cons j1 r=>cases r with | cons j2 r=>
  cases r
  cases j1
  cases j2
  cases rw'
  obtain ⟨its2,v2,⟨o,g1,g2,n,g3⟩,_⟩:=I.tuple (Dj sa.sub h)
  obtain ⟨u1,u2,rfl,q1,q2⟩:=Fx v2
  obtain ⟨t,rfl⟩:=q1
  obtain ⟨t',rfl⟩:=q2
  refine ⟨_,t,t',by rw [List.getD_eq_getElem?_getD,hw]; rfl,o,n,up _ _ g1,g2,?_⟩
  rw [P4 hi]
  exact g3
 refine ⟨tuples' (Value.type "int" != Value.type "tuple"),λE Q hq=>?_,λi j C hi hj hC=>?_⟩
 ·have tp:∀ (l:List Nat),(∀ i∈l,i<ps.length)->∃ fs,KatTups s'.heap (l.map λi=>its.getD i Value.none) fs/\fs.length=l.length/\∀ f∈fs,∃ k t,f=Value.int k t:=λl=>by
   induction l with
   | nil=>intro _; exact ⟨[],.nil,rfl,λf h=>by cases h⟩
   | cons a l ih=>
    intro h
    obtain ⟨fs,f1,f2,f3⟩:=ih λi hi=>h i (List.mem_cons_of_mem _ hi)
    obtain ⟨b,t,u,e,o,n,g1,g2,g3⟩:=at' a (h a List.mem_cons_self)
    refine ⟨.int (ps.getD a default).1 t::fs,?_,by simp [f2],λf hf=>?_⟩
    ·show KatTups s'.heap (its.getD a Value.none::_) _
     rw [e]
     exact .cons g1 g2 g3 rfl f1
    ·rcases List.mem_cons.mp hf with q | q
     ·exact ⟨_,_,q⟩
     ·exact f3 f q
  obtain ⟨fs,f1,f2,f3⟩:=tp (List.range ps.length) λi hi=>List.mem_range.mp hi
  have ei:((List.range ps.length).map λi=>its.getD i Value.none)=its:=by
   apply List.ext_getElem
   ·simp; omega
   ·intro i h1 h3
    simp
    rw [List.getElem?_eq_getElem h3]; rfl
  rw [ei] at f1
  refine kat_kind f1 (by rw [f2,List.length_range]; omega) (λf hf=>?_) wE hq
  obtain ⟨k,t,rfl⟩:=f3 f hf
  exact .now
 ·obtain ⟨a,t,u,ea,oa,na,a1,a2,a3⟩:=at' i wF
  obtain ⟨b,t',u',eb,ob,nb,b1,b2,b3⟩:=at' j wF
  have hr:=OL GQ.irr GQ.tr GQ.tot (QU (show i<ps.length by omega) default) (QU (show j<ps.length by omega) default)
  rw [hr] at hC
  rw [ea,eb]
  generalize ps.getD i default=x at hC a3
  generalize ps.getD j default=y at hC b3
  refine kat_lt a1 a3 b1 b3 ?_
  show KatLex _ _ _ _ _ _ [(Value.int x.1 t,Value.int y.1 t'),(Value.int x.2 u,Value.int y.2 u')] 0 s'
  refine kat_cons (wpAny_eqBool_int ?_)
  by_cases h1:x.1=y.1
  ·rw [show (x.1==y.1)=true by simpa using h1]
   refine kat_yes (kat_cons (wpAny_eqBool_int ?_))
   by_cases h2:x.2=y.2
   ·rw [show (x.2==y.2)=true by simpa using h2]
    refine kat_yes (kat_nil ?_)
    have:AY x y=false:=by unfold AY; exact decide_eq_false wF
    rw [this] at hC
    exact hC
   ·rw [show (x.2==y.2)=false by simpa using h2]
    refine kat_no (kat_one _ _ (lt_int ?_))
    have:AY x y=decide (x.2<y.2):=by unfold AY; exact decide_eq_decide.mpr wF
    rw [this] at hC
    exact hC
  ·rw [show (x.1==y.1)=false by simpa using h1]
   refine kat_no ?_
   have e:((Value.type "int" != Value.type "tuple")&&(0:Nat)==0)=true:=by decide
   rw [e]
   refine oneLt_int ?_
   have:AY x y=decide (x.1<y.1):=by unfold AY; exact decide_eq_decide.mpr wF
   rw [this] at hC
   exact hC
section
variable {X:Cx} {ρ:Aj} {O:Ad} {e a b c:Expr} {es:List Expr} {d da db:D} {ds:List D} {R:D->Ad->Prop} {pos p:Pos} {x:Str} {xs ys:List D} {α:Type} [Inhabited α] {lt:α->α->Bool} {f:α->D} {ps:List α}
theorem Sz (o:D1 lt) (cm:MF X lt f) {pins:List (Addr×Obj)} {σ:L2.St} {s1:Shared} {H1:Hp} {G1:Wd} {vs:List V} {its:List Value} {Q:VK} (I:L2.Inv X pins σ H1 s1) (sa:SA X.K G1 H1 O) (is:Am X.K G1 (ps.map f) vs) (va:AC vs its) (h64:ps.length<64)
  (hq:∀ v G' H',Ah G1 G'->SA X.K G' H' O->Is X.K G' (.lst ((Ca lt ps).map f)) v->Q v H') :
  ∃ key,its.length<64/\(2<=its.length->Hz X.prog X.w X.A.in1.in1 its key { s1 with heap:=F8 (s1.heap.push (seqObj "list" its.toArray 0)) s1.heap.objs.size its }) /\
   ∀ p:Array Nat,p.Perm (List.toArray (List.range its.length))->p.size=its.length->C6 key p its.length->EP X pins σ Q (.ref s1.heap.objs.size) { s1 with heap:=sortedHeap (s1.heap.push (seqObj "list" its.toArray 0)) s1.heap.objs.size its (List.toArray (DA p its)) }:=by
 have e1:=is.length
 have e2:=va.length
 rw [List.length_map] at e1
 have el:its.length=ps.length:=by omega
 refine ⟨λi=>D8 lt ps (ps.getD i default),by omega,λh2=>?_,λp p1 p2 p3=>?_⟩
 ·refine cm _ G1 H1 pins σ s1 _ O ps vs its I sa is va wF λb ob q=>?_
  exact XY (Nat.ne_of_lt (Heap.lt_size q)) (Heap.get?_push_of_some _ q)
 ·rw [el] at p1 p2 p3
  obtain ⟨us,u1,u2,u3⟩:=SB o (λi _=>rfl) is va p1 p2 p3
  obtain ⟨ec,hD⟩:=sortedHeap_at (h:=s1.heap.push (seqObj "list" its.toArray 0)) (a:=s1.heap.objs.size) (vs:=its) (n:=0) (out:=List.toArray (DA p its)) (Heap.get?_push_size _ rfl)
  have fr:H1 s1.heap.objs.size=none:=I.hok.fresh (Nat.le_refl _)
  obtain ⟨e3,s3⟩:=sa.laid (o:=.lst us) fr
  refine ⟨.ref s1.heap.objs.size,AN H1 s1.heap.objs.size (.lst us),?_,rfl,hq _ _ _ e3 s3 (.lst BF (u2.ext e3))⟩
  refine I.laid (t':=s1.toks) (λb u q=>?_) (Nat.le_refl _) ⟨by rw [u3,sizeLine_eq]; omega,DA p its,ec,u1,hD⟩
  have hb:b<s1.heap.objs.size:=Heap.lt_size q
  rw [sortedHeap_old (Nat.ne_of_lt hb) (by rw [Heap.size_push]; exact Nat.lt_succ_of_lt hb)]
  exact Heap.get?_push_of_some _ q
theorem YB (o:D1 lt) (cm:∀ Y,MF Y lt f) {Ty:String} (hN:Je Ty) (hz:Gn X ρ O e (ps.map f) Ty) (h64:ps.length<64) (hm:X.mg "sorted" = none) (hc:X.calm=true:=by rfl) (hg:Gl X "sorted" := by rfl) (hs:starEach [e] X.env=[(false,eval e X.env)]:=by rfl) :
  Ae X ρ O (.Call (.Name "sorted" p) [e] [] pos) (.lst ((Ca lt ps).map f)):=λG pins s σ H Q I ⟨h1,h2,h3⟩=>by
 refine wpAny_Call_Name_kw (EE I hg hm boot_sorted ?_)
 refine PyProof.Rows.callWith_builtin1 ?_ (by rw [hs]; rfl) rfl
 rw [hs]
 show wpAny _ _ (spliced ((false,eval e X.env)::backTo pos [])) _ _ s
 refine Calls.spliced_cons (Ar (hz G (.Name "" pos) pins s σ H (λJ H1=>∃ G1,Ah G G1/\SA X.K G1 H1 O/\DI X.K G1 J (ps.map f)) I h1 h2 λJ G' H' q1 q2 q3=>⟨G',q1,q2,q3⟩) λv s1 ⟨⟨it,fp,tn,J,H1,hv,I1,T,st,fo,G1,e1,sa1,Yi⟩,hT⟩=>Calls.spliced_nil ?_)
 subst hv
 refine ZA (Zp (X:=Cx.wA X X.A.in1.in1) (A:=X.A.in1) rfl hc T (λv=>rfl) Yi (by rw [List.length_map,sizeLine_eq]; omega) hN hT (Q1C I1 rfl rfl) st fo sa1 λs' H' G' vs its I' e' sa' is' va'=>?_)
 exact Sz o (cm X) (Q1B I' I.ok) sa' is' va' h64 λv G'' H'' q1 q2 q3=>h3 v G'' H'' (e1.trans (e'.trans q1)) q2 q3
end
mutual
def Di:D->PyData
 | .non=>.none | .bl b=>.bool b | .int i=>.int i | .str x=>.str x | .tup xs=>.tuple (Dy xs) | .lst xs=>.list (Dy xs) | .scr xs=>.list (Dy xs) | .ptr _=>.none | .ty _=>.none | .fn _=>.none | .dct _ _=>.none
def Dy:List D->List PyData
 | []=>[]
 | x::xs=>Di x::Dy xs
end
mutual
def Ct:D->Bool
 | .non=>true | .bl _=>true | .int _=>true | .str x=>PyData.strOk x | .tup xs=>Dl xs | .lst xs=>Dl xs | .scr xs=>Dl xs | .ptr _=>false | .ty _=>false | .fn _=>false | .dct _ _=>false
def Dl:List D->Bool
 | []=>true
 | x::xs=>Ct x&&Dl xs
end
mutual
def DH:D->Nat
 | .tup xs=>DG xs+1 | .lst xs=>DG xs+1 | .scr xs=>DG xs+1 | .non=>0 | .bl _=>0 | .int _=>0 | .str _=>0 | .ptr _=>0 | .ty _=>0 | .fn _=>0 | .dct _ _=>0
def DG:List D->Nat
 | []=>0
 | x::xs=>max (DH x) (DG xs)
end
def EG (a b:D):Bool:=PyData.eqv (Di a) (Di b)
def Qm (a b:List D):Bool:=PyData.eqvAll (Dy a) (Dy b)
mutual
theorem L8:∀ d:D,(Di d).depth=DH d
 | .non=>rfl | .bl _=>rfl | .int _=>rfl | .str _=>rfl | .ptr _=>rfl | .ty _=>rfl | .fn _=>rfl | .dct _ _=>rfl
 | .tup xs=>by simp only [Di,PyData.depth,DH]; rw [IS xs]
 | .lst xs=>by simp only [Di,PyData.depth,DH]; rw [IS xs]
 | .scr xs=>by simp only [Di,PyData.depth,DH]; rw [IS xs]
theorem IS:∀ xs:List D,PyData.depthAll (Dy xs)=DG xs
 | []=>rfl
 | x::xs=>by simp only [Dy,PyData.depthAll,DG]; rw [L8 x,IS xs]
end
mutual
theorem Lv:∀ d:D,Ct d=true->(Di d).canLay0=true
 | .non,_=>rfl | .bl _,_=>rfl | .int _,_=>rfl | .str x,h=>by simp only [Ct] at h; simp only [Di,PyData.canLay0]; exact h | .ptr _,h=>nomatch h | .ty _,h=>nomatch h | .fn _,h=>nomatch h | .dct _ _,h=>nomatch h
 | .tup xs,h=>Im xs h
 | .lst xs,h=>Im xs h
 | .scr xs,h=>Im xs h
theorem Im:∀ xs:List D,Dl xs=true->PyData.canLayAll0 (Dy xs)=true
 | [],_=>rfl
 | x::xs,h=>by
  have h:(Ct x&&Dl xs)=true:=h
  rw [Bool.and_eq_true] at h
  show (PyData.canLay0 (Di x)&&PyData.canLayAll0 (Dy xs))=true
  rw [Lv x h.1,Im xs h.2]; rfl
end
section
variable {X:Cx} {pins:List (Addr×Obj)} {σ:L2.St} {H:Hp} {s:Shared} {G:Wd}
mutual
theorem OI (I:L2.Inv X pins σ H s) (sub:Bw G.g H):∀ {d:D} {v:V} {u:Value},Is X.K G d v->AV v u->Ct d=true->∃ as,Reads s.heap u (Di d) as
 | _,_,_,.non,r,_=>by cases r; exact ⟨[],.none⟩
 | _,_,_,.bl b,r,_=>by cases r; exact ⟨[],.bool b⟩
 | _,_,_,.int i,r,_=>by obtain ⟨t,rfl⟩:=r; exact ⟨[],.int i t⟩
 | _,_,_,.str x,r,_=>by obtain ⟨t,rfl⟩:=r; exact ⟨[],.str x t⟩
 | _,_,_,.tup h q,r,p=>by
  cases r
  obtain ⟨its,va,⟨o,g1,g2,n,g3⟩,_⟩:=I.tuple (Dj sub h)
  obtain ⟨as,ra⟩:=GO I sub q va p
  exact ⟨as,.tuple g1 g2 g3 (by simpa using ra)⟩
 | _,_,_,.lst h q,r,p=>by
  cases r
  obtain ⟨its,va,pl,_⟩:=I.list (Ba.of (sub _ _ h))
  obtain ⟨o,g1,g2,n,g3⟩:=pl.isList
  obtain ⟨as,ra⟩:=GO I sub q va p
  exact ⟨_,.list g1 g2 g3 (by simpa using ra)⟩
 | _,_,_,.scr h q,r,p=>by
  cases r
  obtain ⟨its,va,pl,_⟩:=I.list (sub.seq h)
  obtain ⟨o,g1,g2,n,g3⟩:=pl.isList
  obtain ⟨as,ra⟩:=GO I sub q va p
  exact ⟨_,.list g1 g2 g3 (by simpa using ra)⟩
 | _,_,_,.ptr _ _,_,p=>by simp [Ct] at p
 | _,_,_,.ty _,_,p=>by simp [Ct] at p
 | _,_,_,.fn _,_,p=>by simp [Ct] at p
 | _,_,_,.dct _ _ _,_,p=>by simp [Ct] at p
theorem GO (I:L2.Inv X pins σ H s) (sub:Bw G.g H):∀ {ds:List D} {vs:List V} {us:List Value},Am X.K G ds vs->AC vs us->Dl ds=true->∃ as,ReadsAll s.heap us (Dy ds) as
 | _,_,_,.nil,.nil,_=>⟨[],.nil⟩
 | d::ds,_,_,.cons i is,.cons r rs,p=>by
  have p:(Ct d&&Dl ds)=true:=p
  rw [Bool.and_eq_true] at p
  obtain ⟨as,ra⟩:=OI I sub i r p.1
  obtain ⟨bs,rb⟩:=GO I sub is rs p.2
  exact ⟨_,.cons ra rb⟩
end
end
def RD (O:Ad) (d e:D):Prop:=e=d\/∃ n xs,d=.ptr n/\O[n]?=some (some (.lst xs))/\e=.lst xs
theorem RD.reads {X:Cx} {pins:List (Addr×Obj)} {σ:L2.St} {H:Hp} {s:Shared} {G:Wd} {O:Ad} {d e:D} {v:V} {u:Value} (h:RD O d e) (I:L2.Inv X pins σ H s) (sa:SA X.K G H O) (i:Is X.K G d v) (r:AV v u) (p:Ct e=true):∃ as,Reads s.heap u (Di e) as:=by
 rcases h with rfl | ⟨n,xs,rfl,h,rfl⟩
 ·exact OI I sa.sub i r p
 ·cases i with | ptr _ ha=>
  cases r
  obtain ⟨a,g0,_,vs,g1,g2⟩:=sa.mt n _ h
  have:=Option.some.inj (ha.symm.trans g0)
  subst this
  obtain ⟨its,va,pl,_⟩:=I.list (Ba.of g1)
  obtain ⟨o,q1,q2,k,q3⟩:=pl.isList
  obtain ⟨as,ra⟩:=GO I sa.sub g2 va p
  exact ⟨_,.list q1 q2 q3 (by simpa using ra)⟩
section
variable {X:Cx} {ρ:Aj} {O:Ad} {e a b c:Expr} {es:List Expr} {d da db ea eb:D} {ds xs ys:List D} {R:D->Ad->Prop} {pos p:Pos} {x:Str} {k:Nat}
theorem QF (hr:AR k X.A) (ha:RD O da ea) (hb:RD O db eb) (pa:Ct ea=true) (pb:Ct eb=true) (hd:min (DH ea) (DH eb)<=60):BE X O (compareOp .NotEq) da db (.bl (!EG ea eb)):=λG pins s σ H x y v u Q I rx ry ⟨h1,h2,h3,h4⟩=>by
 obtain ⟨as,ra⟩:=ha.reads I h1 h2 rx pa
 obtain ⟨bs,rb⟩:=hb.reads I h1 h3 ry pb
 have hu:=hr.units
 exact PySem.SeqAt.compareNe_reads ra rb (Lv _ pa) (Lv _ pb) (by rw [L8,L8]; omega) ⟨.bl _,H,I,rfl,h4 _ G H (Ah.refl _) h1 (.bl _)⟩
end
theorem US {l:List D} (h:∀ d∈l,Ct d=true):Dl l=true:=by
 induction l with
 | nil=>rfl
 | cons x xs ih=>
  show (Ct x&&Dl xs)=true
  rw [h x List.mem_cons_self,ih λd hd=>h d (List.mem_cons_of_mem _ hd)]; rfl
theorem Lw {α:Type} {f:α->D} {l:List α} (h:∀ a∈l,Ct (f a)=true):Dl (l.map f)=true:=US λd hd=>by obtain ⟨a,ha,rfl⟩:=List.mem_map.mp hd; exact h a ha
theorem Za {l:List D} {k:Nat} (h:∀ d∈l,DH d<=k):DG l<=k:=by
 induction l with
 | nil=>exact Nat.zero_le _
 | cons x xs ih=>
  show max (DH x) (DG xs)<=k
  have:=h x List.mem_cons_self
  have:=ih λd hd=>h d (List.mem_cons_of_mem _ hd)
  omega
theorem Y9 {α:Type} {f:α->D} {l:List α} {k:Nat} (h:∀ a∈l,DH (f a)<=k):DG (l.map f)<=k:=Za λd hd=>by obtain ⟨a,ha,rfl⟩:=List.mem_map.mp hd; exact h a ha
theorem L7 {α:Type} {f:α->D} [DecidableEq α] (h:∀ a b,EG (f a) (f b)=decide (a=b)):∀ l m:List α,Qm (l.map f) (m.map f)=decide (l=m)
 | [],[]=>rfl
 | [],_::_=>rfl
 | _::_,[]=>rfl
 | a::l,b::m=>by
  show (EG (f a) (f b)&&Qm (l.map f) (m.map f))=_
  rw [h a b,L7 h l m]
  by_cases h1:a=b
  ·by_cases h2:l=m
   ·simp [h1,h2]
   ·simp [h1,h2]
  ·simp [h1]
theorem Qo (a b:Int):EG (.int a) (.int b)=decide (a=b):=by
 show (a==b)=_
 by_cases h:a=b
 ·simp [h]
 ·simp [h]
theorem YV (a b:List Int):EG (.lst (a.map D.int)) (.lst (b.map D.int))=decide (a=b):=L7 Qo a b
theorem YU (a b:List Int):EG (.tup (a.map D.int)) (.tup (b.map D.int))=decide (a=b):=L7 Qo a b
theorem Lx (a:List Int):Dl (a.map D.int)=true:=Lw λ_ _=>rfl
theorem Qq (a:List Int):DG (a.map D.int)<=0:=Y9 λ_ _=>Nat.le_refl _
theorem Fd {α:Type} {l:List α} {i:Nat} (h:i<l.length) (d:α):l.getD i d=l[i]:=by simp [h]
section
variable {X:Cx} {ρ:Aj} {O:Ad} {e a b c:Expr} {es:List Expr} {d da db ea eb:D} {ds xs ys:List D} {R:D->Ad->Prop} {pos p:Pos} {x:Str} {k:Nat}
theorem LT.sq {K:PySem.W.Frag} {G:Wd} {H:Hp} {O:Ad} {d:D} {xs:List D} {v:V} (h:LT O d xs) (s:SA K G H O) (i:Is K G d v):∃ k a vs,v=.ref a/\Sq k K H a vs/\Am K G xs vs:=by
 rcases h with h | rfl
 ·obtain ⟨a,vs,rfl,q,r⟩:=h.sq s i; exact ⟨true,a,vs,rfl,q,r⟩
 ·obtain ⟨a,vs,rfl,q,r⟩:=Fy s i; exact ⟨false,a,vs,rfl,q,r⟩
theorem UL (ns:List Int):preSum (λi=>ns.getD i 0) ns.length=ns.sum:=by rw [preSum_getD,List.take_length]
theorem JI {k:Bool} {h:Heap} {l:Addr} {ys:Array Value} (q:Bx k h l ys):l<h.objs.size:=by
 cases k with
 | true=>obtain ⟨o,g,_⟩:=(q:h.IsList l ys); exact Heap.lt_size g
 | false=>obtain ⟨o,g,_⟩:=(q:h.IsTuple l ys); exact Heap.lt_size g
theorem Zz {prog:Program} {w:World} {A:Around} {E:Value->Shared->Prop} {s:Shared} {k:Bool} {l:Addr} {its:List Value} {ns:List Int} {Q:Value->Shared->Prop} (hh:A.handled=none) (q:Bx k s.heap l its.toArray) (hv:∀ (i:Nat) (v:Value),its[i]?=some v->∃ t,v=.int (ns.getD i 0) t) (hn:ns.length=its.length)
  (h:∀ h' tk t,(∀ b o,s.heap.get? b=some o->h'.get? b=some o)->Q (.int ns.sum t) { s with heap:=h',toks:=tk }):wpAny (model prog w) A (call (.builtin "sum") [.ref l]) Q E s:=by
 have hl:=JI q
 have fin:∀ (h2:Heap),(∀ b o,s.heap.get? b=some o->h2.get? b=some o)->∀ h' tk t',(∀ b o,b∉[s.heap.objs.size]->h2.get? b=some o->h'.get? b=some o)->Q (.int (preSum (λi=>ns.getD i 0) its.toArray.size) t') { s with heap:=h',toks:=tk }:=λh2 up h' tk t' kp=>by
  rw [show its.toArray.size=ns.length by simp [hn],UL]
  exact h h' tk t' λb o e=>kp b o (by simpa using Nat.ne_of_lt (Heap.lt_size e)) (up b o e)
 cases k with
 | true=>
  refine call_sum_walkG (wpAny_pyIter_list q ⟨s.heap.objs.size,[s.heap.objs.size,l],[s.heap.objs.size],its.toArray.size,λi v=>its.toArray[i]?=some v,λi h=>h.IsListIter s.heap.objs.size l i/\h.IsList l its.toArray,λi=>ns.getD i 0,rfl,Walks.list (A:=A.in1) hh _ l (Nat.ne_of_lt hl) its.toArray,⟨⟨_,Heap.get?_push_size _ rfl,rfl,rfl⟩,Heap.IsList.push q _⟩,λb hb=>?_,λi v e=>hv i v (by simpa using e),fin _ λb o e=>Heap.get?_push_of_some _ e⟩)
  rw [Heap.size_push]
  rcases List.mem_cons.mp hb with rfl | hb
  ·exact Nat.lt_succ_self _
  ·rw [List.mem_singleton.mp hb]; exact Nat.lt_succ_of_lt hl
 | false=>
  refine call_sum_walkG (wpAny_pyIter_tuple q ⟨s.heap.objs.size,[s.heap.objs.size,l],[s.heap.objs.size],its.toArray.size,λi v=>its.toArray[i]?=some v,λi h=>h.IsTupleIter s.heap.objs.size l i/\h.IsTuple l its.toArray,λi=>ns.getD i 0,rfl,Walks.tuple (A:=A.in1) hh _ l (Nat.ne_of_lt hl) its.toArray,⟨⟨_,Heap.get?_push_size _ rfl,rfl,rfl⟩,(Bx.at (k:=false) q λo e=>Heap.get?_push_of_some _ e:Bx false _ l _)⟩,λb hb=>?_,λi v e=>hv i v (by simpa using e),fin _ λb o e=>Heap.get?_push_of_some _ e⟩)
  rw [Heap.size_push]
  rcases List.mem_cons.mp hb with rfl | hb
  ·exact Nat.lt_succ_self _
  ·rw [List.mem_singleton.mp hb]; exact Nat.lt_succ_of_lt hl
theorem Gf {ns:List Int} (h:LT O d (ns.map D.int)) (hc:X.calm=true:=by rfl):BV X O (.builtin "sum") [d] (.int ns.sum):=λG pins s σ H vs us Q I r ⟨h1,h2,h3⟩=>by
 cases h2 with | cons i r2=>
 cases r2
 obtain ⟨kk,ad,ws,rfl,q,is⟩:=h.sq h1 i
 obtain ⟨u,rfl,ru⟩:=Dx r
 cases ru
 obtain ⟨its,va,sq,_⟩:=Du I q
 have e:=is.toInts
 subst e
 have el:=va.length
 rw [List.length_map] at el
 refine Zz (ns:=ns) (I.ok.hd hc) sq (λi v hv=>?_) el λh' tk t kp=>⟨.int ns.sum,H,I.kept kp,⟨t,rfl⟩,h3 _ G H (Ah.refl _) h1 (.int _)⟩
 have hi:i<ns.length:=by rw [el]; exact (List.getElem?_eq_some_iff.mp hv).1
 obtain ⟨w,hw,rw'⟩:=va.get (i:=i) (x:=.int ns[i]) (by simp [hi])
 rw [hv] at hw
 cases hw
 obtain ⟨t,e⟩:=rw'
 exact ⟨t,by rw [e,Fd hi]⟩
theorem ZK {prog:Program} {w:World} {A:Around} {E:Value->Shared->Prop} {s:Shared} {k:Bool} {l:Addr} {its:List Value} {bs:List Bool} {Q:Value->Shared->Prop} (hh:A.handled=none) (q:Bx k s.heap l its.toArray) (hv:∀ (i:Nat) (v:Value),its[i]?=some v->v=.bool (bs.getD i true)) (hn:bs.length=its.length) (al:Bool)
  (h:∀ h' tk,(∀ b o,s.heap.get? b=some o->h'.get? b=some o)->Q (.bool (if al then bs.all id else bs.any id)) { s with heap:=h',toks:=tk }):wpAny (model prog w) A (call (.builtin (if al then "all" else "any")) [.ref l]) Q E s:=by
 have hl:=JI q
 have ea:(List.range its.toArray.size).all (λi=>bs.getD i true)=bs.all id:=by
  have:bs=(List.range bs.length).map λi=>bs.getD i true:=by
   apply List.ext_getElem
   ·simp
   ·intro i h1 h2; simp; rw [List.getElem?_eq_getElem h1]; rfl
  conv=>rhs; rw [this,List.all_map]
  rw [show its.toArray.size=bs.length by simp [hn]]
  rfl
 have eb:(List.range its.toArray.size).any (λi=>bs.getD i true)=bs.any id:=by
  have:bs=(List.range bs.length).map λi=>bs.getD i true:=by
   apply List.ext_getElem
   ·simp
   ·intro i h1 h2; simp; rw [List.getElem?_eq_getElem h1]; rfl
  conv=>rhs; rw [this,List.any_map]
  rw [show its.toArray.size=bs.length by simp [hn]]
  rfl
 have kp':∀ (h2:Heap),(∀ b o,s.heap.get? b=some o->h2.get? b=some o)->∀ h':Heap,(∀ b o,b∉[s.heap.objs.size]->h2.get? b=some o->h'.get? b=some o)->∀ b o,s.heap.get? b=some o->h'.get? b=some o:=λh2 up h' kp b o e=>kp b o (by simpa using Nat.ne_of_lt (Heap.lt_size e)) (up b o e)
 have tr:TruthOf prog w A.in1 (λi v=>its.toArray[i]?=some v) (λi=>bs.getD i true):=λi v s Q E hP hQ=>by
  rw [hv i v (by simpa using hP)]; exact wpAny_truthy_bool hQ
 cases k with
 | true=>
  have W:=Walks.list (prog:=prog) (w:=w) (A:=A.in1) hh s.heap.objs.size l (Nat.ne_of_lt hl) its.toArray
  have st:(s.heap.push { cls:=.type "list_iterator",data:=.fields #[.ref l,.int 0 0] }).IsListIter s.heap.objs.size l 0/\(s.heap.push { cls:=.type "list_iterator",data:=.fields #[.ref l,.int 0 0] }).IsList l its.toArray:=⟨⟨_,Heap.get?_push_size _ rfl,rfl,rfl⟩,Heap.IsList.push q _⟩
  cases al with
  | true=>exact call_all_walk (wpAny_pyIter_list q ⟨_,_,_,_,_,_,_,rfl,W,st,tr,λh' tk kp=>by rw [ea]; exact h h' tk (kp' _ (λb o e=>Heap.get?_push_of_some _ e) h' kp)⟩)
  | false=>exact call_any_walk (wpAny_pyIter_list q ⟨_,_,_,_,_,_,_,rfl,W,st,tr,λh' tk kp=>by rw [eb]; exact h h' tk (kp' _ (λb o e=>Heap.get?_push_of_some _ e) h' kp)⟩)
 | false=>
  have W:=Walks.tuple (prog:=prog) (w:=w) (A:=A.in1) hh s.heap.objs.size l (Nat.ne_of_lt hl) its.toArray
  have st:(s.heap.push { cls:=.type "tuple_iterator",data:=.fields #[.ref l,.int 0 0] }).IsTupleIter s.heap.objs.size l 0/\(s.heap.push { cls:=.type "tuple_iterator",data:=.fields #[.ref l,.int 0 0] }).IsTuple l its.toArray:=⟨⟨_,Heap.get?_push_size _ rfl,rfl,rfl⟩,(Bx.at (k:=false) q λo e=>Heap.get?_push_of_some _ e:Bx false _ l _)⟩
  cases al with
  | true=>exact call_all_walk (wpAny_pyIter_tuple q ⟨_,_,_,_,_,_,_,rfl,W,st,tr,λh' tk kp=>by rw [ea]; exact h h' tk (kp' _ (λb o e=>Heap.get?_push_of_some _ e) h' kp)⟩)
  | false=>exact call_any_walk (wpAny_pyIter_tuple q ⟨_,_,_,_,_,_,_,rfl,W,st,tr,λh' tk kp=>by rw [eb]; exact h h' tk (kp' _ (λb o e=>Heap.get?_push_of_some _ e) h' kp)⟩)
theorem QK {bs:List Bool} (al:Bool) (h:LT O d (bs.map D.bl)) (hc:X.calm=true):BV X O (.builtin (if al then "all" else "any")) [d] (.bl (if al then bs.all id else bs.any id)):=λG pins s σ H vs us Q I r ⟨h1,h2,h3⟩=>by
 cases h2 with | cons i r2=>
 cases r2
 obtain ⟨kk,ad,ws,rfl,q,is⟩:=h.sq h1 i
 obtain ⟨u,rfl,ru⟩:=Dx r
 cases ru
 obtain ⟨its,va,sq,_⟩:=Du I q
 have e1:=is.length
 have e2:=va.length
 rw [List.length_map] at e1
 refine ZK (bs:=bs) (I.ok.hd hc) sq (λi v hv=>?_) wF al λh' tk kp=>⟨.bl _,H,I.kept kp,rfl,h3 _ G H (Ah.refl _) h1 (.bl _)⟩
 have hi:i<bs.length:=by rw [e1,e2]; exact (List.getElem?_eq_some_iff.mp hv).1
 obtain ⟨w,hw,iw⟩:=is.get (i:=i) (d:=.bl bs[i]) (by simp [hi])
 obtain ⟨z,hz,rz⟩:=va.get hw
 rw [hv] at hz
 cases hz
 cases iw
 rw [Fd hi]
 exact rz
theorem Mj {bs:List Bool} (h:LT O d (bs.map D.bl)) (hc:X.calm=true:=by rfl):BV X O (.builtin "all") [d] (.bl (bs.all id)):=QK true h hc
theorem ZR {bs:List Bool} (h:LT O d (bs.map D.bl)) (hc:X.calm=true:=by rfl):BV X O (.builtin "any") [d] (.bl (bs.any id)):=QK false h hc
theorem Zt {i:Int} {ns:List Int} (h:LT O d (ns.map D.int)):BE X O (compareOp .In) (.int i) d (.bl (decide (i∈ns))):=.of Vn λG v u H Q s h1 h2 k=>by
  cases h1
  obtain ⟨kk,ad,ws,rfl,q,is⟩:=h.sq s h2
  have e:=is.toInts
  subst e
  have ev:IG (.int i) (ns.map V.int)=decide (i∈ns):=by
    unfold IG
    rw [List.any_map]
    by_cases hm:i∈ns
    ·
      rw [decide_eq_true hm,List.any_eq_true]
      exact ⟨i,hm,by simp [DV]⟩
    ·
      rw [decide_eq_false hm,List.any_eq_false]
      intro y hy
      simp only [Function.comp,DV]
      intro z
      exact hm (by
                   have:y=i:=by simpa using z
                   rw [<- this]; exact hy)
  refine ⟨ad,ns.map V.int,rfl,?_,rfl,by simp [Eh],by rw [ev]; exact k _ G H (Ah.refl _) s (.bl _)⟩
  cases kk with
  | true=>exact .inl q
  | false=>exact .inr q
end
end DL
namespace DL
open PySem PySem.Spec PyProof.Rows L2
mutual
def F1:D->Bool
 | .ptr _=>false
 | .tup xs=>Eb xs
 | .lst xs=>Eb xs
 | .scr xs=>Eb xs
 | .dct _ xs=>Eb xs
 | _=>true
def Eb:List D->Bool
 | []=>true
 | d::ds=>F1 d&&Eb ds
end
theorem LA {α:Type} {f:α->D} (h:∀ a,F1 (f a)=true) (l:List α):Eb (l.map f)=true:=by
 induction l with
 | nil=>rfl
 | cons a l ih=>rw [List.map_cons]; unfold Eb; rw [h,ih]; rfl
section
variable {K:PySem.W.Frag} {G G':Wd} {t:List Addr}
mutual
theorem Is.cut:∀ {d:D} {v:V},Is K G' d v->F1 d=true->∀ l,Is K ⟨G'.g,l⟩ d v
 | _,_,.non,_,l=>.non
 | _,_,.bl b,_,l=>.bl b
 | _,_,.int i,_,l=>.int i
 | _,_,.str x,_,l=>.str x
 | _,_,.tup h r,e,l=>.tup h (Am.cut r e l)
 | _,_,.lst h r,e,l=>.lst h (Am.cut r e l)
 | _,_,.scr h r,e,l=>.scr h (Am.cut r e l)
 | _,_,.ptr n h,e,l=>by cases e
 | _,_,.ty n,_,l=>.ty n
 | _,_,.fn n,_,l=>.fn n
 | _,_,.dct h hl r,e,l=>.dct h hl (Am.cut r e l)
theorem Am.cut:∀ {ds:List D} {vs:List V},Am K G' ds vs->Eb ds=true->∀ l,Am K ⟨G'.g,l⟩ ds vs
 | _,_,.nil,_,l=>.nil
 | _,_,.cons h r,e,l=>by
  have e:=(Bool.and_eq_true _ _).mp e
  exact .cons (Is.cut h e.1 l) (Am.cut r e.2 l)
end
mutual
theorem Is.back (e:G'.l=G.l++t):∀ {d:D} {v v0:V},Is K G d v0->Is K G' d v->Is K ⟨G'.g,G.l⟩ d v
 | _,_,_,.non,h=>by cases h; exact .non
 | _,_,_,.bl b,h=>by cases h; exact .bl b
 | _,_,_,.int i,h=>by cases h; exact .int i
 | _,_,_,.str x,h=>by cases h; exact .str x
 | _,_,_,.tup _ r0,h=>by cases h with | tup h r=>exact .tup h (Am.back e r0 r)
 | _,_,_,.lst _ r0,h=>by cases h with | lst h r=>exact .lst h (Am.back e r0 r)
 | _,_,_,.scr _ r0,h=>by cases h with | scr h r=>exact .scr h (Am.back e r0 r)
 | _,_,_,.ptr n q,h=>by
  cases h with
  | ptr _ h=>
   refine .ptr n ?_
   rw [e,List.getElem?_append_left (List.getElem?_eq_some_iff.mp q).1] at h
   exact h
 | _,_,_,.ty n,h=>by cases h; exact .ty n
 | _,_,_,.fn n,h=>by cases h; exact .fn n
 | _,_,_,.dct _ _ r0,h=>by cases h with | dct h hl r=>exact .dct h hl (Am.back e r0 r)
theorem Am.back (e:G'.l=G.l++t):∀ {ds:List D} {vs v0:List V},Am K G ds v0->Am K G' ds vs->Am K ⟨G'.g,G.l⟩ ds vs
 | _,_,_,.nil,h=>by cases h; exact .nil
 | _,_,_,.cons q r,h=>by cases h with | cons h1 h2=>exact .cons (Is.back e q h1) (Am.back e r h2)
end
theorem BA.back (e:G'.l=G.l++t):∀ {fs:List (Str×D)} {vs v0:List (Str×V)},BA K G fs v0->BA K G' fs vs->BA K ⟨G'.g,G.l⟩ fs vs
 | _,_,_,.nil,h=>by cases h; exact .nil
 | _,_,_,.cons q r,h=>by cases h with | cons h1 h2=>exact .cons (Is.back e q h1) (BA.back e r h2)
theorem SA.cut {H H':Hp} {O O2:Ad} (s:SA K G H O) (e:Ah G G') (s':SA K G' H' (O++O2)):Ah G ⟨G'.g,G.l⟩/\SA K ⟨G'.g,G.l⟩ H' O:=by
 obtain ⟨t,et⟩:=e.l
 refine ⟨⟨e.g,[],(List.append_nil _).symm⟩,⟨s'.sub,s.len,s.nd,λa ha=>s'.liv a (by rw [et]; exact List.mem_append_left _ ha),λn m h=>?_⟩⟩
 have hn:=(List.getElem?_eq_some_iff.mp h).1
 obtain ⟨a,q1,q2,q3⟩:=s'.mt n m (by rw [List.getElem?_append_left hn]; exact h)
 obtain ⟨a0,p1,p2,p3⟩:=s.mt n m h
 rw [et,List.getElem?_append_left (by rw [s.len]; exact hn)] at q1
 refine ⟨a,q1,q2,?_⟩
 cases m with
 | lst xs=>
  obtain ⟨vs,g1,g2⟩:=q3
  obtain ⟨v0,h1,h2⟩:=p3
  exact ⟨vs,g1,Am.back et h2 g2⟩
 | ins C fs=>
  obtain ⟨dx,vs,g1,g2⟩:=q3
  obtain ⟨dx0,v0,h1,h2⟩:=p3
  exact ⟨dx,vs,g1,BA.back et h2 g2⟩
 | exc C fs ha=>
  obtain ⟨ob,g1,g2,g3,g4⟩:=q3
  obtain ⟨ob0,h1,h2,h3,_⟩:=p3
  refine ⟨ob,g1,g2,?_,g4⟩
  rcases h3 with h3 | ⟨dx0,v0,b1,b2,b3⟩
  ·exact .inl h3
  ·refine g3.imp id ?_
   rintro ⟨dx,vs,a1,a2,a3⟩
   exact ⟨dx,vs,a1,a2,BA.back et b3 a3⟩
 | dct ks xs=>
  obtain ⟨vs,g1,g2,g3⟩:=q3
  obtain ⟨v0,h1,h2,h3⟩:=p3
  exact ⟨vs,g1,g2,Am.back et h3 g3⟩
 | pin ob vs ks xs=>exact ⟨q3.1,q3.2.1,Am.back et p3.2.2 q3.2.2⟩
end
section
variable {X:Cx} {ρ:Aj} {O:Ad} {e a b c:Expr} {es:List Expr} {d da db:D} {ds:List D} {R:D->Ad->Prop} {pos p:Pos} {x:Str} {rest:List Stmt} {P:Bg}
theorem Jq (h:Ch X ρ O rest { nx:=λ_ _=>False,rt:=λd O'=>(∃ O2,O'=O++O2)/\F1 d=true/\P.rt d O }):Ch X ρ O rest P:=λG pins s σ H E I ⟨q1,q2,q3⟩=>by
 refine h G pins s σ H E I ⟨q1,q2,⟨λσ' ρ' O' G3 H3 e3 s3 n3 q=>q.elim,λv d O' G3 H3 e3 s3 i3 r=>?_,λσ' ρ' O' G3 H3 e3 s3 n3 q=>q.elim,λσ' ρ' O' G3 H3 e3 s3 n3 q=>q.elim⟩⟩
 obtain ⟨⟨O2,rfl⟩,r2,r3⟩:=r
 obtain ⟨e4,s4⟩:=q1.cut e3 s3
 exact q3.rt v d O _ H3 e4 s4 (i3.cut r2 _) r3
def FV (pre:List D->Prop) (f:List D->D->Prop):AQ:=λds O R=>pre ds/\∀ d,f ds d->R d O
theorem Fv {tg:Expr} (he:Ev X ρ O e λd O'=>∃ ρ1,Tg X tg d ρ ρ1/\P.nx ρ1 O') (hs:swapsWithSole [tg] e pos.line X.env=pure false:=by rfl) (hw:swappedStores [tg] e X.env=pure none:=by rfl)
  (h1:(assignEach [tg] X.env).map (·.2)=[assign tg X.env]:=by rfl):Ex X ρ O (.Assign [tg] e pos) P:=λG=>
 PS.imp (Lp (he G) (g:=λv σ H Q=>∃ G1 d ρ1,Tg X tg d ρ ρ1/\Is X.K G1 d v/\Bw G1.g H/\AH X.K G1 σ ρ/\∀ σ',AH X.K G1 σ' ρ1->Q σ' H) (λpins s σ H v u Q I r ⟨G1,d,ρ1,ht,q⟩=>ht G1 pins s σ H v u Q I r q) hs hw h1) λE σ H ⟨q1,q2,q3⟩=>
  ⟨q1,q2,λv d O' G' H' e1 s1 i1 ⟨ρ1,t1,r1⟩=>⟨G',d,ρ1,t1,i1,s1.sub,q2.ext e1,λσ' n'=>q3.nx _ _ O' G' H' e1 s1 n' r1⟩⟩
theorem Br {m:Option MO} {O2:Ad}:(O++m::O2)[O.length]?=some m:=by
 rw [List.getElem?_append_right (Nat.le_refl _),Nat.sub_self]; rfl
theorem CV {m z:Option MO} {O2:Ad}:(O++m::O2).set O.length z=O++z::O2:=by
 rw [List.set_append_right (h:=Nat.le_refl _),Nat.sub_self]; rfl
section
variable {α:Type} {ps:List α} {f g:α->D} {h:α->Option D} {tg iter elt:Expr} {ifs:List Expr} {scope:Scope}
theorem Qc (ps:List α) (g:α->D):(ps.map λq=>some (g q)).filterMap id=ps.map g:=by
 induction ps with
 | nil=>rfl
 | cons a l ih=>rw [List.map_cons,List.filterMap_cons,ih]; rfl
theorem II (ps:List α) (h:α->Option D):(ps.map h).filterMap id=ps.filterMap h:=by
 rw [List.filterMap_map]; rfl
theorem L6 (h:α->Option D) (T F:List Str) (js:List Nat) (hi:Ci X ρ O tg iter (ps.map f)) (hsz:ps.length<=sizeLine) (turn:∀ q,q∈ps->Gp X T F js ρ O scope tg elt ifs (f q) (h q))
  (hfl:F.length=js.length:=by rfl) (hB:C1 X.N X.env.scope.names scope.names F js=true:=by rfl) (hc:X.calm=true:=by rfl) (hk:scope.kind=.function:=by rfl) (hs:∀ x,foldedSetIterable iter X.env x=pure x:=by intro _; rfl) :
  Ae X ρ O (.ListComp elt [⟨tg,iter,ifs,0⟩] scope pos) (.lst (ps.filterMap h)):=by
 rw [<- II]
 refine YJ T F js hi (by rw [List.length_map,List.length_map]) (by rw [List.length_map]; exact hsz) (λi x z h1 h2=>?_) hfl hB hc hk hs
 rw [List.getElem?_map] at h1 h2
 cases e:ps[i]? with
 | none=>rw [e] at h1; cases h1
 | some q=>rw [e] at h1 h2; cases h1; cases h2; exact turn q (List.mem_of_getElem? e)
theorem Cy (g:α->D) (T F:List Str) (js:List Nat) (hi:Ci X ρ O tg iter (ps.map f)) (hsz:ps.length<=sizeLine) (turn:∀ q,q∈ps->Gp X T F js ρ O scope tg elt ifs (f q) (some (g q)))
  (hfl:F.length=js.length:=by rfl) (hB:C1 X.N X.env.scope.names scope.names F js=true:=by rfl) (hc:X.calm=true:=by rfl) (hk:scope.kind=.function:=by rfl) (hs:∀ x,foldedSetIterable iter X.env x=pure x:=by intro _; rfl) :
  Ae X ρ O (.ListComp elt [⟨tg,iter,ifs,0⟩] scope pos) (.lst (ps.map g)):=by
 rw [<- Qc,II]
 exact L6 (λq=>some (g q)) T F js hi hsz turn hfl hB hc hk hs
theorem MM {x:Str} {p spos:Pos} (k:Nat) (h:α->Option D) (T F:List Str) (js:List Nat) (hi:Ci X ρ O tg iter (ps.map f)) (hsz:ps.length<=sizeLine) (turn:∀ q,q∈ps->Gp X T F js ρ O scope tg elt ifs (f q) (h q))
  (hP:P.nx (ρ.set k (some (.lst (ps.filterMap h)))) O) (hN:X.N.Nodup) (hx:X.N[k]?=some x:=by rfl) (hlc:Ep X.env.scope x:=by first | exact Or.inl rfl | exact Or.inr rfl) (hf:X.fn x=true\/X.env.scope.names.lookup x=some .local:=by first | exact .inl rfl | exact .inr rfl | assumption)
  (hfl:F.length=js.length:=by rfl) (hB:C1 X.N X.env.scope.names scope.names F js=true:=by rfl) (hc:X.calm=true:=by rfl) (hk:scope.kind=.function:=by rfl) (hs:∀ x,foldedSetIterable iter X.env x=pure x:=by intro _; rfl)
  (hsw:swapsWith (.ListComp elt [⟨tg,iter,ifs,0⟩] scope pos) (some (.Name x p)) spos.line X.env=pure true:=by rfl):Ex X ρ O (.Assign [.Name x p] (.ListComp elt [⟨tg,iter,ifs,0⟩] scope pos) spos) P:=by
 rw [<- II] at hP
 refine Rq k T F js hi (by rw [List.length_map,List.length_map]) (by rw [List.length_map]; exact hsz) (λi x z h1 h2=>?_) hP hN hx hlc hf hfl hB hc hk hs hsw
 rw [List.getElem?_map] at h1 h2
 cases e:ps[i]? with
 | none=>rw [e] at h1; cases h1
 | some q=>rw [e] at h1 h2; cases h1; cases h2; exact turn q (List.mem_of_getElem? e)
theorem Rp {x:Str} {p spos:Pos} (k:Nat) (g:α->D) (T F:List Str) (js:List Nat) (hi:Ci X ρ O tg iter (ps.map f)) (hsz:ps.length<=sizeLine) (turn:∀ q,q∈ps->Gp X T F js ρ O scope tg elt ifs (f q) (some (g q)))
  (hP:P.nx (ρ.set k (some (.lst (ps.map g)))) O) (hN:X.N.Nodup) (hx:X.N[k]?=some x:=by rfl) (hlc:Ep X.env.scope x:=by first | exact Or.inl rfl | exact Or.inr rfl) (hf:X.fn x=true\/X.env.scope.names.lookup x=some .local:=by first | exact .inl rfl | exact .inr rfl | assumption)
  (hfl:F.length=js.length:=by rfl) (hB:C1 X.N X.env.scope.names scope.names F js=true:=by rfl) (hc:X.calm=true:=by rfl) (hk:scope.kind=.function:=by rfl) (hs:∀ x,foldedSetIterable iter X.env x=pure x:=by intro _; rfl)
  (hsw:swapsWith (.ListComp elt [⟨tg,iter,ifs,0⟩] scope pos) (some (.Name x p)) spos.line X.env=pure true:=by rfl):Ex X ρ O (.Assign [.Name x p] (.ListComp elt [⟨tg,iter,ifs,0⟩] scope pos) spos) P:=by
 rw [<- Qc,II] at hP
 exact MM k (λq=>some (g q)) T F js hi hsz turn hP hN hx hlc hf hfl hB hc hk hs hsw
theorem Cq {xs:List D} (he:Ae X ρ O e d) (fa:LF d xs):Ci X ρ O tg e xs:=by
 rcases fa with rfl | rfl | rfl
 ·exact Y6 he
 ·exact Y4 he
 ·exact Y3 he
end
end
def Hf {α:Type} (a:List α) (lo hi:Option Int):List α:=(a.drop (HT.sIx a.length 0 lo)).take (HT.sIx a.length a.length hi-HT.sIx a.length 0 lo)
theorem SO {α:Type} {f:α->D} (a:List α) (lo hi:Option Int):GC (a.map f) lo hi=(Hf a lo hi).map f:=by
 unfold GC Hf
 rw [List.length_map,List.map_take,List.map_drop]
theorem Zg {α:Type} (a:List α) (lo hi:Option Int):(Hf a lo hi).length<=a.length:=by
 unfold Hf
 rw [List.length_take,List.length_drop]
 omega
theorem MK {α β:Type} {f:α->D} {g:β->D}:∀ (a:List α) (b:List β),EO (a.map f) (b.map g)=(a.zip b).map λq=>.tup [f q.1,g q.2]
 | [],_=>rfl
 | _::_,[]=>rfl
 | x::a,y::b=>by
  have ih:=MK (f:=f) (g:=g) a b
  unfold EO at ih ⊢
  rw [List.map_cons,List.map_cons,List.zipWith_cons_cons,ih]
  rfl
section
variable {X:Cx} {ρ:Aj} {O:Ad} {e a b c:Expr} {es:List Expr} {d da db:D} {ds:List D} {R:D->Ad->Prop} {pos p:Pos} {x:Str} {rest:List Stmt} {P:Bg}
theorem YC {α:Type} {f:α->D} {as:List α} {lo hi:Option Expr} {l u:Option Int} {p2:Pos} (ha:Ae X ρ O a da) (hx:LV O da (as.map f)) (hl:Go X ρ O lo l) (hh:Go X ρ O hi u):Ae X ρ O (.Subscript a (.Slice lo hi none p2) pos) (.lst ((Hf as l u).map f)):=by
 rw [<- SO]
 exact YD ha hx hl hh
theorem GZ {α β:Type} {f:α->D} {g:β->D} {as:List α} {bs:List β} (ha:Ae X ρ O a da) (hb:Ae X ρ O b db) (fa:LF da (as.map f)) (fb:LF db (bs.map g)) (hm:X.mg "zip" = none) (hg:Gl X "zip" := by rfl) (hs:starEach [a,b] X.env=[(false,eval a X.env),(false,eval b X.env)]:=by rfl) (hs2:starEach [b] X.env=[(false,eval b X.env)]:=by rfl) :
  Gn X ρ O (.Call (.Name "zip" p) [a,b] [] pos) ((as.zip bs).map λq=>.tup [f q.1,g q.2]) "zip" := by
 rw [<- MK]
 exact Yy ha hb fa fb hm hg hs hs2
end
theorem QW {α:Type} {f:α->D} {a:List α} {i:Int} {v:α} (h0:0<=i) (h:a[i.toNat]?=some v):BO (a.map f) i=some (f v):=by
 obtain ⟨k,rfl⟩:=Int.eq_ofNat_of_zero_le h0
 rw [Int.toNat_natCast] at h
 exact Fl (by rw [List.getElem?_map,h]; rfl)
theorem Qn (a:List Int):EG (.lst (a.map D.int)) (.lst [])=decide (a=[]):=YV a []
def sm {α:Type} (g:α->Int):List α->Int
 | []=>0
 | a::l=>g a+sm g l
section
variable {α β:Type} {g h:α->Int} {l m:List α}
theorem JZ:sm g (l++m)=sm g l+sm g m:=by
 induction l with
 | nil=>exact (Int.zero_add _).symm
 | cons a l ih=>show g a+sm g (l++m)=(g a+sm g l)+sm g m; rw [ih]; omega
theorem JY (p:l.Perm m):sm g l=sm g m:=by
 induction p with
 | nil=>rfl
 | cons a _ ih=>unfold sm; rw [ih]
 | swap a b l=>unfold sm; unfold sm; omega
 | trans _ _ h1 h2=>rw [h1,h2]
theorem SK {i:Nat} {a:α} (e:l[i]?=some a):sm g (l.take (i+1))=sm g (l.take i)+g a:=by
 rw [List.take_add_one,e,JZ]
 show _+(g a+0)=_
 omega
theorem D6 (g:α->Int) (l:List α):(l.map g).sum=sm g l:=by
 induction l with
 | nil=>rfl
 | cons a l ih=>rw [List.map_cons,List.sum_cons,ih]; rfl
theorem Su (l:List Int):l.sum=sm (λi=>i) l:=by rw [<- D6,List.map_id']
theorem GB (q:∀ a∈l,g a<=h a):sm g l<=sm h l:=by
 induction l with
 | nil=>exact Int.le_refl _
 | cons a l ih=>
  have h1:=q a List.mem_cons_self
  have h2:=ih λb hb=>q b (List.mem_cons_of_mem _ hb)
  unfold sm
  omega
theorem EA (q:∀ a∈l,g a=h a):sm g l=sm h l:=by
 induction l with
 | nil=>rfl
 | cons a l ih=>
  have h1:=q a List.mem_cons_self
  have h2:=ih λb hb=>q b (List.mem_cons_of_mem _ hb)
  unfold sm
  omega
theorem FN:sm (λa=>g a+h a) l=sm g l+sm h l:=by
 induction l with
 | nil=>rfl
 | cons a l ih=>unfold sm; rw [ih]; omega
theorem N8:sm (λ_:α=>(0:Int)) l=0:=by
 induction l with
 | nil=>rfl
 | cons a l ih=>unfold sm; rw [ih]; rfl
theorem Ez (q:∀ a∈l,0<=g a):0<=sm g l:=by
 have:=GB (g:=λ_=>0) (h:=g) q
 rw [N8] at this
 exact this
theorem SN {B:Int} (q:∀ a∈l,g a<=B):sm g l<=l.length*B:=by
 induction l with
 | nil=>show (0:Int)<=((0:Nat):Int)*B; simp
 | cons a l ih=>
  have h1:=q a List.mem_cons_self
  have h2:=ih λb hb=>q b (List.mem_cons_of_mem _ hb)
  unfold sm
  rw [List.length_cons,Int.natCast_add,Int.add_mul]
  show _<=_+(1:Int)*B
  omega
theorem sm_bd' {B:Int} {n:Nat} (hB:0<=B) (hn:l.length<=n) (q:∀ a∈l,g a<=B):sm g l<=n*B:=by
 have h1:=SN q
 have h2:(l.length:Int)*B<=(n:Int)*B:=Int.mul_le_mul_of_nonneg_right wF hB
 omega
theorem N7 {a:List β} {b:List Int} (e:a.length=b.length):sm (λq:β×Int=>q.2) (a.zip b)=b.sum:=by
 induction a generalizing b with
 | nil=>cases b with | nil=>rfl | cons _ _=>cases e
 | cons x a ih=>
  cases b with
  | nil=>cases e
  | cons y b=>
   rw [List.zip_cons_cons,List.sum_cons]
   unfold sm
   rw [ih (by simpa using e)]
end
theorem QL {b:Int} {n:Nat} (h0:0<=b) (h1:b<2 ^ n):PySem.Builtin.Int.intBits b<=n:=by
 unfold PySem.Builtin.Int.intBits
 split
 ·exact Nat.zero_le _
 ·rename_i hz
  have hn:b.natAbs<2 ^ n:=by
   have e:((2 ^ n:Nat):Int)=2 ^ n:=by rw [Int.natCast_pow]; rfl
   omega
  have hp:b.natAbs≠0:=by
   intro z; apply hz; rw [Int.natAbs_eq_zero.mp z]; rfl
  have:=(Nat.log2_lt hp).mpr hn
  omega
theorem Ec {a b:Int} {m n:Nat} (a0:0<=a) (a1:a<2 ^ m) (b0:0<=b) (b1:b<2 ^ n) (h:m+n<=134217728:=by decide):IntMulOk a b:=IntMulOk.of_le (QL a0 a1) (QL b0 b1) h
section
variable {prog:Program} {w:World} {A:Around} {E:Value->Shared->Prop} {s:Shared}
end
section
variable {X:Cx} {ρ:Aj} {O:Ad} {e a b c st:Expr} {es:List Expr} {d da db:D} {ds xs:List D} {R:D->Ad->Prop} {pos p p2:Pos} {x:Str} {rest:List Stmt} {P:Bg}
theorem Ub {K:PySem.W.Frag} {G:Wd} {vs:List V} (r:Am K G xs vs) (k:Nat):Am K G (List.replicate k xs).flatten (List.replicate k vs).flatten:=by
 induction k with
 | zero=>exact .nil
 | succ k ih=>rw [List.replicate_succ,List.replicate_succ,List.flatten_cons,List.flatten_cons]; exact r.append ih
theorem Ll {d:D} (n:Nat):(List.replicate n [d]).flatten=List.replicate n d:=by
 induction n with
 | zero=>rfl
 | succ n ih=>rw [List.replicate_succ,List.flatten_cons,ih]; rfl
end
theorem Qd {α:Type} (p:α->Bool) (g:α->D) (l:List α):l.filterMap (λq=>if p q=true then some (g q) else none)=(l.filter p).map g:=by
 induction l with
 | nil=>rfl
 | cons a l ih=>
  rw [List.filterMap_cons,List.filter_cons]
  cases h:p a with
  | true=>simp [ih]
  | false=>simp [ih]
theorem SM {α:Type} {p:α->Bool} {g:α->Int} {l:List α} (h:∀ a∈l,p a=false->g a=0):sm g (l.filter p)=sm g l:=by
 induction l with
 | nil=>rfl
 | cons a l ih=>
  have ih:=ih λb hb=>h b (List.mem_cons_of_mem _ hb)
  rw [List.filter_cons]
  cases e:p a with
  | true=>rw [if_pos rfl]; show g a+_=g a+_; rw [ih]
  | false=>
   rw [if_neg Bool.false_ne_true,ih]
   show _=g a+_
   rw [h a List.mem_cons_self e,Int.zero_add]
theorem HP {α:Type} {g:α->Int} {l:List α} (c:Int):sm (λa=>c*g a) l=c*sm g l:=by
 induction l with
 | nil=>show (0:Int)=c*0; rw [Int.mul_zero]
 | cons a l ih=>show c*g a+_=c*(g a+_); rw [ih,Int.mul_add]
theorem SL {α β:Type} {g:β->Int} {f:α->β} {l:List α}:sm g (l.map f)=sm (λa=>g (f a)) l:=by
 induction l with
 | nil=>rfl
 | cons a l ih=>show g (f a)+_=g (f a)+_; rw [ih]
section
variable {prog:Program} {w:World} {A:Around} {E:Value->Shared->Prop} {s:Shared}
theorem WQ:fillsNumberSlot (.type "tuple") "mul" = pure false:=
 PySem.fillsNumberSlot_seq (id := "tuple.__mul__") (r:=some (.builtin "tuple.__rmul__")) F.slot_tuple_mul.lookup wD F.slot_tuple_rmul.lookup wD
theorem Uc:seqRepeat? (.type "tuple")=pure (some (.builtin "tuple.__mul__")):=by
 unfold seqRepeat?
 rw [PySem.seqSlot_of (T := "tuple") (name := "__mul__") F.slot_tuple_mul.lookup wD,PySem.seqSlot_of (T := "tuple") (name := "__rmul__") F.slot_tuple_rmul.lookup wD]
 rfl
theorem Ua {a:Int} {t:Tok} {l:Addr} {its:List Value} {Q:Value->Shared->Prop} (ht:IsTup s.heap l its.toArray) (h:Q .notImplemented s):wpAny (model prog w) A (call (.builtin "int.__rmul__") [.int a t,.ref l]) Q E s:=by
 refine wpAny_call_entry F.slot_int_rmul (typeIs_int s a t) F.entry_int_rmul ?_ (F.args_int_rmul_2 _ _)
 obtain ⟨o,ho,hc,n,hd⟩:=ht
 show wpAny (model prog w) _ (asInt? (.ref l) >>= _) _ _ s
 refine wpAny_bind ?_
 unfold asInt?
 refine wpAny_bind (wpAny_load ho ?_)
 rw [hd]
 refine wpAny_pure ?_
 exact wpAny_bind (wpAny_rule (wpAny_pure ⟨_,rfl,h⟩))
theorem WY {k:Int} {t:Tok} {l:Addr} {its:List Value} {Q:Value->Shared->Prop} (ht:IsTup s.heap l its.toArray) (h1:1<=k) (h2:k<2 ^ 62) (hn:its≠[]) (hz:its.length*k.toNat<=sizeLine)
  (hq1:k=1->Q (.ref l) s) (hq2:k≠1->Q (.ref s.heap.objs.size) { s with heap:=s.heap.push { cls:=.type "tuple",data:=.seq (List.replicate k.toNat its).flatten.toArray } }):wpAny (model prog w) A (call (.builtin "tuple.__mul__") [.ref l,.int k t]) Q E s:=by
 refine wpAny_call_entry F.slot_tuple_mul ht.typeIs F.entry_tuple_mul ?_ (F.args_tuple_mul_2 _ _)
 show wpAny (model prog w) _ (asIndex (.int k t) >>= _) _ _ s
 refine wpAny_bind ?_
 show wpAny (model prog w) _ (pure k) _ _ s
 refine wpAny_pure ?_
 rw [if_neg (by rw [Bool.or_eq_true,decide_eq_true_eq,decide_eq_true_eq]; omega)]
 refine wpAny_bind (tupleItemsOf_ ht ?_)
 have he:its.toArray.isEmpty=false:=by cases its with | nil=>exact absurd rfl hn | cons a l=>rfl
 by_cases hk:k=1
 ·rw [if_pos (by rw [hk,Bool.or_eq_true]; exact Or.inr rfl)]
  unfold Builtin.Tuple.tupleIsExact
  refine wpAny_bind (wpAny_bind (wpAny_typeOf ht.typeIs (wpAny_pure ?_)))
  rw [if_pos wE]
  exact wpAny_bind (wpAny_rule (wpAny_pure ⟨_,rfl,hq1 hk⟩))
 ·have hk2:(k==1)=false:=by simpa using hk
  rw [if_neg (by rw [he,hk2]; exact Bool.false_ne_true)]
  rw [if_neg (by rw [he,Bool.or_false,decide_eq_true_eq]; omega)]
  have hs:((its.toArray.size:Nat):Int)*k<=(sizeLine:Nat):=by
   rw [List.size_toArray]
   have e:k=((k.toNat:Nat):Int):=by omega
   rw [e]
   exact_mod_cast hz
  have hl:=sizeLine_eq
  rw [hl] at hs
  rw [if_neg wF]
  have ht2:Builtin.Tuple.tupleTooMany (((its.toArray.size:Nat):Int)*k)=false:=by
   unfold Builtin.Tuple.tupleTooMany
   rw [hl]
   exact decide_eq_false wF
  rw [if_neg (by rw [ht2]; exact Bool.false_ne_true)]
  have e:List.foldl (λx1 x2=>x1++x2) #[] (List.replicate k.toNat its.toArray)=(List.replicate k.toNat its).flatten.toArray:=by
   have:=P8 its k.toNat []
   rw [List.nil_append] at this
   exact this
  rw [e]
  exact wpAny_bind (m:=Builtin.Tuple.tupleExact _) (wpAny_newObj_type (wpAny_pure ⟨_,rfl,hq2 hk⟩) (by
   show (List.replicate k.toNat its).flatten.toArray.size<=sizeLine
   rw [List.size_toArray,Pv,Nat.mul_comm]
   exact hz))
end
section
variable {X:Cx} {O:Ad} {xs:List D}
theorem F0 {i:Int} (h1:1<=i) (h2:i<2 ^ 62) (hn:xs≠[]) (hz:xs.length*i.toNat<=sizeLine):BE X O (binaryOp .Mult) (.tup xs) (.int i) (.tup (List.replicate i.toNat xs).flatten):=λG pins s σ H x y v u Q I rx ry ⟨sa,j1,j2,k⟩=>by
 cases j2
 have j:=j1
 obtain ⟨q,vs,rfl,g,r⟩:=Fy sa j1
 cases rx
 obtain ⟨t,rfl⟩:=ry
 obtain ⟨its,rr,ht,hzz⟩:=I.tuple g
 have hlen:=rr.length
 have hn2:its≠[]:=by
  rintro rfl
  have:=r.length
  rw [hlen] at this
  exact hn (List.eq_nil_of_length_eq_zero this)
 refine wpAny_binaryOp_repeat_ref (T := "tuple") (U := "int") wE ht.typeIs (λs'=>typeIs_int s' i t) WQ F.fills_int_mul F.slot_int_rmul Uc F.slot_int_index.lookup
  (Ua ht ⟨rfl,ht.typeIs,WY ht h1 h2 hn2 (by rw [<- hlen,<- r.length]; exact hz) (λe=>?_) (λe=>?_)⟩)
 ·subst e
  refine ⟨.ref q,H,I,rfl,k _ G H (Ah.refl _) sa ?_⟩
  have:(List.replicate (1:Int).toNat xs).flatten=xs:=by show (xs++[])=xs; rw [List.append_nil]
  rw [this]
  exact j
 ·obtain ⟨e4,s4⟩:=sa.laid (o:=.tup (List.replicate i.toNat vs).flatten) (p:=s.heap.objs.size) (I.hok.fresh (Nat.le_refl _))
  refine ⟨.ref _,_,I.laid (t':=s.toks) (o:=.tup (List.replicate i.toNat vs).flatten) (λb ob q=>Heap.get?_push_of_some _ q) (Nat.le_refl _) ?_,rfl,k _ _ _ e4 s4 (.tup (Bu.of BF) ((Ub r _).ext e4))⟩
  exact ⟨by rw [Pv,Nat.mul_comm,<- r.length]; exact hz,_,rr.rep i.toNat,En.new _ _⟩
end
def A9 (f:Str) (d:D):List (Str×D)->List (Str×D)
 | []=>[(f,d)]
 | (g,x)::r=>if g=f then (g,d)::r else (g,x)::A9 f d r
section
variable {K:PySem.W.Frag} {G:Wd}
theorem BA.look {f:Str} {d:D}:∀ {fs:List (Str×D)} {vs:List (Str×V)},BA K G fs vs->fs.lookup f=some d->∃ v,vs.lookup f=some v/\Is K G d v
 | _,_,.nil,e=>by cases e
 | _,_,.cons (f:=g) h r,e=>by
  rw [List.lookup_cons] at e
  cases hc:f==g with
  | true=>
   rw [hc] at e
   cases e
   exact ⟨_,by rw [List.lookup_cons,hc],h⟩
  | false=>
   rw [hc] at e
   obtain ⟨v,e1,e2⟩:=BA.look r e
   exact ⟨v,by rw [List.lookup_cons,hc]; exact e1,e2⟩
theorem BA.none {f:Str}:∀ {fs:List (Str×D)} {vs:List (Str×V)},BA K G fs vs->fs.lookup f=Option.none->vs.lookup f=Option.none
 | _,_,.nil,e=>rfl
 | _,_,.cons (f:=g) h r,e=>by
  rw [List.lookup_cons] at e
  cases hc:f==g with
  | true=>rw [hc] at e; cases e
  | false=>
   rw [hc] at e
   rw [List.lookup_cons,hc]
   exact BA.none r e
theorem BA.put {f:Str} {d:D} {v:V} (i:Is K G d v):∀ {fs:List (Str×D)} {vs:List (Str×V)},BA K G fs vs->BA K G (A9 f d fs) (Cr f v vs)
 | _,_,.nil=>.cons i .nil
 | _,_,.cons (f:=g) h r=>by
  unfold A9 Cr
  by_cases e:g=f
  ·rw [if_pos e,if_pos e]; exact .cons i r
  ·rw [if_neg e,if_neg e]; exact .cons h (BA.put i r)
theorem BA.len:∀ {fs:List (Str×D)} {vs:List (Str×V)},BA K G fs vs->fs.length=vs.length
 | _,_,.nil=>rfl
 | _,_,.cons _ r=>by rw [List.length_cons,List.length_cons,r.len]
end
theorem SA.ins {K:PySem.W.Frag} {G:Wd} {H:Hp} {O:Ad} {q:Nat} {C:Addr} {fs:List (Str×D)} {v:V} (s:SA K G H O) (i:Is K G (.ptr q) v) (h:O[q]?=some (some (.ins C fs))):∃ a dx vs,v=.ref a/\G.l[q]?=some a/\H a=some (.ins C dx vs)/\BA K G fs vs:=by
 cases i with
 | ptr _ ha=>
  obtain ⟨a,h1,h2,dx,vs,h3,h4⟩:=s.mt q _ h
  cases Option.some.inj (ha.symm.trans h1)
  exact ⟨_,dx,vs,rfl,h1,h3,h4⟩
section
variable {X:Cx} {ρ:Aj} {O:Ad} {e a b c o value:Expr} {es:List Expr} {d da db:D} {ds:List D} {R:D->Ad->Prop} {pos p apos pos':Pos} {x f m:Str} {rest:List Stmt} {P:Bg} {q:Nat} {C:Addr} {fs:List (Str×D)}
theorem As (he:Ae X ρ O e (.ptr q)) (hq:O[q]?=some (some (.ins C fs))) (c:A7 X.K C) (n:Ap X.K C f) (hl:fs.lookup f=some d) (hb:attributeBase e f X.env (eval e X.env)=eval e X.env:=by rfl):Ae X ρ O (.Attribute e f pos) d:=λG=>
 PE.imp (Vb (he G) hb) λσ H Q ⟨h1,h2,h3⟩=>⟨h1,h2,λv G1 H1 e1 s1 i1=>by
  obtain ⟨a,dx,vs,rfl,g1,g2,g3⟩:=s1.ins i1 hq
  obtain ⟨v,l,iv⟩:=g3.look hl
  exact ⟨a,C,dx,vs,v,rfl,g2,c,n,l,h3 v G1 H1 e1 s1 iv⟩⟩
theorem B0 (hv:Ae X ρ O value d) (ho:Ae X ρ O o (.ptr q)) (hq:O[q]?=some (some (.ins C fs))) (c:A7 X.K C) (n:Ap X.K C f) (hz:fs.length<1000) (h:P.nx ρ (O.set q (some (.ins C (A9 f d fs))))) (hs:swapsWith value (some (.Attribute o f pos')) pos.line X.env=pure false:=by rfl) :
  Ex X ρ O (.Assign [.Attribute o f pos'] value pos) P:=λG pins s σ H E I ⟨h1,h2,h3⟩=>by
 refine plainObj_wpAny_Assign_Attribute (Ar (hv G pins s σ H (λv H1=>∃ G1,Ah G G1/\SA X.K G1 H1 O/\Is X.K G1 d v) I ⟨h1,h2,λv G' H' e s i=>⟨G',e,s,i⟩⟩) λu s1 ⟨y,H1,I1,ry,G1,e1,sa1,i1⟩=>
  Ar (ho G1 pins s1 σ H1 (λv H2=>∃ G2,Ah G1 G2/\SA X.K G2 H2 O/\Is X.K G2 (.ptr q) v) I1 ⟨sa1,h2.ext e1,λv G' H' e s i=>⟨G',e,s,i⟩⟩) λov s2 ⟨x,H2,I2,rx,G2,e2,sa2,i2⟩=>?_) hs
 obtain ⟨a,dx,vs,rfl,g1,g2,g3⟩:=sa2.ins i2 hq
 obtain rfl:ov=Value.ref a:=rx
 refine Of I2 g2 c n (by rw [<- g3.len]; exact hz) ry λs3 I3=>⟨σ,_,I3,?_⟩
 exact h3.nx σ ρ _ G2 _ (e1.trans e2) (sa2.put (m':=.ins C (A9 f d fs)) hq g1 ⟨dx,_,BF,g3.put (i1.ext e2)⟩) (h2.ext (e1.trans e2)) h
structure Al (P:Program) (w:World) (K:PySem.W.Frag) (mg:Str->Option Value) (base:Heap) (C:Addr) (k:Nat) (m:Str) (sp:AQ):Prop where
 ex:∃ f fd ps,AF P w K mg base AL k f fd ps (AJ K sp)/\Jg K C m f/\Binds K fd ps []
 cls:A7 K C
theorem CP {k:Nat} {sp:AQ} {pl:Sem Bool} (M:Al X.prog X.w X.K X.mg X.base C k m sp) (hr:AR k X.A) (ho:Ae X ρ O o (.ptr q)) (hq:O[q]?=some (some (.ins C fs))) (hno:fs.lookup m=none) (ha:BZ X ρ O (e::es) ds) (hs:sp (.ptr q::ds) O R)
  (hst:starEach (e::es) X.env=(false,eval e X.env)::starEach es X.env:=by rfl) (hpl:(backTo pos (starEach es X.env)).any (·.1)=false:=by rfl)
  (ht:eval (.Call (.Attribute o m apos) (e::es) [] pos) X.env=(do
   let ov <- eval o X.env
   standAt apos.atName
   let (f,first) <- holding [ov] (getMethod ov m pl)
   callWith pos f first (backTo pos (starEach (e::es) X.env)) (backToKw pos (keywordEach [] X.env))):=by rfl):Ev X ρ O (.Call (.Attribute o m apos) (e::es) [] pos) R:=λG pins s σ H Q I ⟨h1,h2,h3⟩=>by
 obtain ⟨f,fd,ps,g1,g2,g3⟩:=M.ex
 refine U9 (t:=λσ H Q=>∃ G1,SA X.K G1 H O/\AH X.K G1 σ ρ/\∀ vs G' H',Ah G1 G'->SA X.K G' H' O->Am X.K G' ds vs->Q vs H') (ho G) M.cls g2 g1 hr g3 .nil FX (λpos pins s σ H Q I ⟨G1,z⟩=>ha G1 pos pins s σ H Q I z) hst hpl ht pins s σ H Q I ⟨h1,h2,λv G1 H1 e1 s1 i1=>?_⟩
 obtain ⟨a,dx,vs,rfl,k1,k2,k3⟩:=s1.ins i1 hq
 refine ⟨a,dx,vs,rfl,k2,k3.none hno,G1,s1,h2.ext e1,λus G2 H2 e2 s2 i2=>?_⟩
 show AJ X.K sp (V.ref a::(us++[])) H2 Q E0
 rw [List.append_nil]
 exact ⟨G2,O,.ptr q::ds,R,s2,.cons (i1.ext e2) i2,hs,λv d O' G' H' e3 s3 i3 r3=>h3 v d O' G' H' ((e1.trans e2).trans e3) s3 i3 r3⟩
theorem Dr {k:Nat} {sp:AQ} {pl:Sem Bool} (M:Al X.prog X.w X.K X.mg X.base C k m sp) (hr:AR k X.A) (ho:Ae X ρ O o (.ptr q)) (hq:O[q]?=some (some (.ins C fs))) (hno:fs.lookup m=none) (hs:sp [.ptr q] O R)
  (ht:eval (.Call (.Attribute o m apos) [] [] pos) X.env=(do
   let ov <- eval o X.env
   standAt apos.atName
   let (f,first) <- holding [ov] (getMethod ov m pl)
   callWith pos f first (backTo pos (starEach [] X.env)) (backToKw pos (keywordEach [] X.env))):=by rfl):Ev X ρ O (.Call (.Attribute o m apos) [] [] pos) R:=λG pins s σ H Q I ⟨h1,h2,h3⟩=>by
 obtain ⟨f,fd,ps,g1,g2,g3⟩:=M.ex
 refine U8 (ho G) M.cls g2 g1 hr g3 .nil FX ht pins s σ H Q I ⟨h1,h2,λv G1 H1 e1 s1 i1=>?_⟩
 obtain ⟨a,dx,vs,rfl,k1,k2,k3⟩:=s1.ins i1 hq
 refine ⟨a,dx,vs,rfl,k2,k3.none hno,?_⟩
 show AJ X.K sp (V.ref a::[]) H1 Q E0
 exact ⟨G1,O,[.ptr q],R,s1,.cons i1 .nil,hs,λv d O' G' H' e3 s3 i3 r3=>h3 v d O' G' H' (e1.trans e3) s3 i3 r3⟩
structure CI (P:Program) (w:World) (K:PySem.W.Frag) (mg:Str->Option Value) (base:Heap) (C:Addr) (k:Nat) (x:Str) (sp:AQ):Prop where
 ex:∃ f fd ps,AF P w K mg base AL k f fd ps (AJ K sp)/\Mk K C f/\Binds K fd ps []
 at_:mg x=some (.ref C)
theorem made {K:PySem.W.Frag} {G:Wd} {H:Hp} {y dx:Addr} (s:SA K G H O) (h1:H y=none) (h2:H dx=none) (h3:dx≠y):Ah G ⟨G.g,G.l++[y]⟩/\SA K ⟨G.g,G.l++[y]⟩ (AN (AN H dx (.own y)) y (.ins C dx [])) (O++[some (.ins C [])]):=
 (s.grow (GJ h2)).new (by rw [A4]; exact h1; exact λe=>h3 e.symm) ⟨dx,[],BF,.nil⟩
theorem DD {k:Nat} {sp:AQ} (M:CI X.prog X.w X.K X.mg X.base C k x sp) (hr:AR (k+1) X.A) (ha:BZ X ρ O (e::es) ds) (hs:sp (.ptr O.length::ds) (O++[some (.ins C [])]) λd O'=>d=.non/\R (.ptr O.length) O')
  (hg:Gl X x:=by rfl) (hdb:(x==("__debug__" : Str))=false:=by decide) (he:starEach (e::es) X.env=(false,eval e X.env)::starEach es X.env:=by rfl) (hpl:(backTo pos (starEach es X.env)).any (·.1)=false:=by rfl) :
  Ev X ρ O (.Call (.Name x p) (e::es) [] pos) R:=λG pins s σ H Q I ⟨h1,h2,h3⟩=>by
 obtain ⟨f,fd,ps,g1,g2,g3⟩:=M.ex
 refine OT g2 g1 hr hg M.at_ g3 .nil FX (ha G) hdb he hpl pins s σ H Q I ⟨h1,h2,λvs G1 H1 e1 s1 i1=>λy dx k1 k2 k3=>?_⟩
 obtain ⟨e2,s2⟩:=made (C:=C) s1 k1 k2 k3
 have iy:Is X.K ⟨G1.g,G1.l++[y]⟩ (.ptr O.length) (.ref y):=.ptr _ (by rw [<- s1.len,List.getElem?_append_right (Nat.le_refl _),Nat.sub_self]; rfl)
 show AJ X.K sp (V.ref y::(vs++[])) _ _ E0
 rw [List.append_nil]
 refine ⟨_,_,.ptr O.length::ds,_,s2,.cons iy (i1.ext e2),hs,λv d O' G' H' e3 s3 i3 r3=>?_⟩
 obtain ⟨rfl,r⟩:=r3
 cases i3
 exact ⟨rfl,h3 _ _ O' G' H' ((e1.trans e2).trans e3) s3 (iy.ext e3) r⟩
end
section
variable {X:Cx} {ρ:Aj} {O:Ad} {e a b c o ix value:Expr} {es:List Expr} {d da db:D} {ds xs:List D} {R:D->Ad->Prop} {pos p apos tpos:Pos} {x f m:Str} {rest:List Stmt} {P:Bg} {q j:Nat} {i:Int}
theorem SA.lstAt {K:PySem.W.Frag} {G:Wd} {H:Hp} {v:V} (s:SA K G H O) (h1:Is K G (.ptr q) v) (h:O[q]?=some (some (.lst xs))):∃ ad vs,v=.ref ad/\G.l[q]?=some ad/\H ad=some (.lst vs)/\Am K G xs vs:=by
 cases h1 with
 | ptr _ ha=>
  obtain ⟨ad,g1,g2,vs,g3,g4⟩:=s.mt q _ h
  cases Option.some.inj (ha.symm.trans g1)
  exact ⟨_,vs,rfl,g1,g3,g4⟩
theorem Rr (hv:Ae X ρ O value d) (ho:Ae X ρ O o (.ptr q)) (hq:O[q]?=some (some (.lst xs))) (hi:Ae X ρ O ix (.int i)) (hj:DS xs.length i=some j) (h:P.nx ρ (O.set q (some (.lst (xs.set j d)))))
  (hs:swapsWithSole [.Subscript o ix tpos] value pos.line X.env=pure false:=by rfl) (hw:swappedStores [.Subscript o ix tpos] value X.env=pure none:=by rfl)
  (h1:(assignEach [.Subscript o ix tpos] X.env).map (·.2)=[assign (.Subscript o ix tpos) X.env]:=by rfl)
  (ha:∀ v,assign (.Subscript o ix tpos) X.env v=(do
   let ov <- holding [v] (eval o X.env)
   let iv <- holding [v,ov] (eval ix X.env)
   standAt tpos
   holding [v,ov,iv] (setItem ov iv v)
   release [v,ov,iv] []):=by intro _; rfl):Ex X ρ O (.Assign [.Subscript o ix tpos] value pos) P:=λG=>by
 refine PS.imp (Lp (hv G) (UZ (to:=λσ H Q=>∃ G1,SA X.K G1 H O/\AH X.K G1 σ ρ/\∀ v G' H',Ah G1 G'->SA X.K G' H' O->Is X.K G' (.ptr q) v->Q v H') (ti:=λσ H Q=>∃ G1,SA X.K G1 H O/\AH X.K G1 σ ρ/\∀ v G' H',Ah G1 G'->SA X.K G' H' O->Is X.K G' (.int i) v->Q v H')
  (λpins s σ H Q I ⟨G1,z⟩=>ho G1 pins s σ H Q I z) (λpins s σ H Q I ⟨G1,z⟩=>hi G1 pins s σ H Q I z) SV ha) hs hw h1) λE σ H ⟨q1,q2,q3⟩=>?_
 refine ⟨q1,q2,λy G1 H1 e1 s1 i1=>⟨G1,s1,q2.ext e1,λov G2 H2 e2 s2 i2=>⟨G2,s2,q2.ext (e1.trans e2),λiv G3 H3 e3 s3 i3=>?_⟩⟩⟩
 obtain ⟨ad,vs,rfl,g1,g3,g4⟩:=s3.lstAt (i2.ext e3) hq
 cases i3
 refine ⟨ad,vs,i,j,rfl,rfl,g3,by rw [<- g4.length]; exact hj,?_⟩
 exact q3.nx σ ρ _ G3 _ ((e1.trans e2).trans e3) (s3.put (m':=.lst (xs.set j d)) hq g1 ⟨_,BF,g4.set (i1.ext (e2.trans e3)) j⟩) (q2.ext ((e1.trans e2).trans e3)) h
end
end DL
namespace DL
open PySem PySem.Spec PyProof.Rows L2 PySem.W
structure EW (n:Nat) (k:Bool) (l i:Nat) (j:Int) (xs:Array Value) (f0 f1 old:Value) (h:Heap):Prop where
 z:h.get? (n+1)=some { cls:=.type "enumerate",dict:=none,data:=.fields #[f0,f1,.ref n,.int j 0,.none,old],slots:=#[] }
 w:CG k h n l i
 s:Bx k h l xs
 b:l<n
def BP (n:Nat) (h h':Heap):Prop:=∀ c o,c≠n->c≠n+1->h.get? c=some o->h'.get? c=some o
theorem BP.refl (n:Nat) (h:Heap):BP n h h:=λ_ _ _ _ e=>e
theorem BP.on {n:Nat} {h h1 h2:Heap} (p:BP n h h1) (q:BP n h1 h2):BP n h h2:=λc o c1 c2 e=>q c o c1 c2 (p c o c1 c2 e)
theorem BP.more {n:Nat} {h h':Heap} {o:Obj} (p:BP n h h'):BP n h (h'.push o):=p.on λc u _ _ q=>Heap.get?_push_of_some _ q
section
variable {prog:Program} {w:World} {A:Around} {E:Value->Shared->Prop} {s:Shared} {n l i:Nat} {j:Int} {k:Bool} {xs:Array Value} {f0 f1 old v:Value}
theorem EW.set {m:Nat} {vs:Array Value} {Q:Unit->Shared->Prop} (W:EW n k l i j xs f0 f1 old s.heap) (hm:m<6)
  (hQ:∀ h',h'.get? (n+1)=some { cls:=.type "enumerate",dict:=none,data:=.fields ((#[f0,f1,.ref n,.int j 0,.none,old]:Array Value).setIfInBounds m v),slots:=#[] }->CG k h' n l i->Bx k h' l xs->BP n s.heap h'->h'.objs.size=s.heap.objs.size->Q () { s with heap:=h' }):wpAny (model prog w) A (setField (.ref (n+1)) m v) Q E s:=
 wpAny_setField_rec W.z hm λh' g e=>hQ h' g (W.w.at λo=>e.extBut _ _ (ap wF)) (W.s.at λo=>e.extBut _ _ (ap (by have:=W.b; omega))) (λc o _ c2 q=>e.extBut _ _ c2 q) e.1
theorem EW.set0 {Q:Unit->Shared->Prop} (W:EW n k l i j xs f0 f1 old s.heap) (hQ:∀ h',EW n k l i j xs v f1 old h'->BP n s.heap h'->h'.objs.size=s.heap.objs.size->Q () { s with heap:=h' }):wpAny (model prog w) A (setField (.ref (n+1)) 0 v) Q E s:=W.set (vs:=#[]) wE λh' a b c d e=>hQ h' ⟨a,b,c,W.b⟩ d e
theorem EW.set1 {Q:Unit->Shared->Prop} (W:EW n k l i j xs f0 f1 old s.heap) (hQ:∀ h',EW n k l i j xs f0 v old h'->BP n s.heap h'->h'.objs.size=s.heap.objs.size->Q () { s with heap:=h' }):wpAny (model prog w) A (setField (.ref (n+1)) 1 v) Q E s:=W.set (vs:=#[]) wE λh' a b c d e=>hQ h' ⟨a,b,c,W.b⟩ d e
theorem EW.set3 {j':Int} {Q:Unit->Shared->Prop} (W:EW n k l i j xs f0 f1 old s.heap) (hQ:∀ h',EW n k l i j' xs f0 f1 old h'->BP n s.heap h'->h'.objs.size=s.heap.objs.size->Q () { s with heap:=h' }):wpAny (model prog w) A (setField (.ref (n+1)) 3 (rawInt j')) Q E s:=W.set (vs:=#[]) wE λh' a b c d e=>hQ h' ⟨a,b,c,W.b⟩ d e
theorem EW.set4 {Q:Unit->Shared->Prop} (W:EW n k l i j xs f0 f1 old s.heap) (hQ:∀ h',EW n k l i j xs f0 f1 old h'->BP n s.heap h'->h'.objs.size=s.heap.objs.size->Q () { s with heap:=h' }):wpAny (model prog w) A (setField (.ref (n+1)) 4 .none) Q E s:=W.set (vs:=#[]) wE λh' a b c d e=>hQ h' ⟨a,b,c,W.b⟩ d e
theorem EW.set5 {Q:Unit->Shared->Prop} (W:EW n k l i j xs f0 f1 old s.heap) (hQ:∀ h',EW n k l i j xs f0 f1 v h'->BP n s.heap h'->h'.objs.size=s.heap.objs.size->Q () { s with heap:=h' }):wpAny (model prog w) A (setField (.ref (n+1)) 5 v) Q E s:=W.set (vs:=#[]) wE λh' a b c d e=>hQ h' ⟨a,b,c,W.b⟩ d e
theorem EW.inner {Q:Value->Shared->Prop} (W:EW n k l i j xs f0 f1 old s.heap) (h:Q (.ref n) s):wpAny (model prog w) A (field (.ref (n+1)) 2) Q E s:=wpAny_field W.z rfl (x:=.ref n) rfl h
theorem EW.draw {x:Value} {Q:Value->Shared->Prop} (W:EW n k l i j xs f0 f1 old s.heap) (hx:xs[i]?=some x) (hQ:∀ h',EW n k l (i+1) j xs f0 f1 old h'->BP n s.heap h'->h'.objs.size=s.heap.objs.size->Q x { s with heap:=h' }):wpAny (model prog w) A (Builtin.SmallTypes.nextOf (.ref n)) Q E s:=
 JJ W.w W.s hx λh' g e=>hQ h' ⟨e.extBut _ _ (ap wF) W.z,g,W.s.at λo=>e.extBut _ _ (ap (by have:=W.b; omega)),W.b⟩ (λc o c1 _ q=>e.extBut _ _ c1 q) e.1
theorem EW.free {Q:Bool->Shared->Prop} (W:EW n k l i j xs f0 f1 old s.heap) (hf:ZF f0) (y:Q true s) (z:∀ h' f,EW n k l i j xs f0 f old h'->BP n s.heap h'->h'.objs.size=s.heap.objs.size->Q false { s with heap:=h' }):wpAny (model prog w) A (Builtin.SmallTypes.ownedTupleIsFree (.ref (n+1))) Q E s:=by
 obtain ⟨h,g,d,tk,os⟩:=s
 have hz:=W.z
 dsimp only at hz
 rcases hf with rfl | ⟨c,rfl⟩
 ·wp_walk
  exact y
 ·wp_walk using Q2
  cases h.get? (Int.toNat (c:Int)) with
  | none=>wp_walk; exact y
  | some o=>
   by_cases m:f1=.bool true
   ·subst m
    wp_walk
    exact z _ _ W (BP.refl _ _) rfl
   ·wp_walk using W.set1
    exact λh' V o1 o2=>wpAny_pure (z h' _ V o1 o2)
theorem EW.more {h:Heap} {o:Obj} (W:EW n k l i j xs f0 f1 old h):EW n k l i j xs f0 f1 old (h.push o):=
 have e:∀ c u,h.get? c=some u->(h.push o).get? c=some u:=λc u q=>Heap.get?_push_of_some _ q
 ⟨e _ _ W.z,W.w.at (e _),W.s.at (e _),W.b⟩
theorem Y0 {x:Value} {Q:Value->Shared->Prop} (W:EW n k l i j xs f0 f1 old s.heap) (hf:ZF f0) (hx:xs[i]?=some x)
  (hQ:∀ h' t f0' f1' old' tk',EW n k l (i+1) (j+1) xs f0' f1' old' h'->ZF f0'->IsPair h' s.heap.objs.size (.int j t) x->BP n s.heap h'->Q (.ref s.heap.objs.size) { s with heap:=h',toks:=tk' }) :
  wpAny (model prog w) A (Builtin.«enumerate.__next__» ⟨[.ref (n+1)],[]⟩) (λfin s'=>∃ v,fin=.done (.ret v)/\Q v s') E s:=by
 obtain ⟨h,g,d,tk,os⟩:=s
 dsimp only at W hQ
 have z:=W.z
 have lt:n+1<h.objs.size:=Heap.lt_size z
 wp_walk using W.inner,W.draw hx
 intro h1 W1 o1 z1
 have t1:=W1.z
 wp_walk using EW.set3 (s:=⟨h1,g,d,tk+1,os⟩) W1
 intro h2 W2 o2 z2
 wp_walk using EW.set4 (s:=⟨h2,g,d,tk+1,os⟩) W2
 intro h3 W3 o3 z3
 have zl:h3.objs.size=h.objs.size:=z3.trans (z2.trans z1)
 have ol:BP n h h3:=o1.on (o2.on o3)
 have W4:EW n k l (i+1) (j+1) xs f0 f1 old (h3.push { cls:=.type "tuple",data:=.seq #[.int j tk,x] }):=W3.more
 have t4:=W4.z
 have pr:IsPair (h3.push { cls:=.type "tuple",data:=.seq #[.int j tk,x] }) h3.objs.size (.int j tk) x:=Heap.get?_push_size _ rfl
 have BL:∀ m,m<=1->h3.objs.size≠n+m:=λm hm=>by omega
 have far0:h3.objs.size≠n:=BL 0 wE
 have far1:h3.objs.size≠n+1:=BL 1 wE
 rw [<- zl] at hQ
 wp_walk using EW.free (s:=⟨h3.push _,g,d,tk+1,os⟩) W4 hf,EW.set5 (s:=⟨h3.push _,g,d,tk+1,os⟩) W4
 ·intro h5 W5 o5 z5
  wp_walk using EW.set0 (s:=⟨h5,g,d,tk+1,os⟩) W5
  intro h6 W6 o6 z6
  wp_walk using EW.set1 (s:=⟨h6,g,d,tk+1,os⟩) W6
  intro h7 W7 o7 z7
  wp_walk
  exact ⟨_,rfl,hQ h7 tk _ _ _ _ W7 (.inr ⟨_,rfl⟩) (o7 _ _ far0 far1 (o6 _ _ far0 far1 (o5 _ _ far0 far1 pr))) (ol.more.on (o5.on (o6.on o7)))⟩
 ·intro h5 f W5 o5 z5
  wp_walk
  exact ⟨_,rfl,hQ h5 tk _ _ _ _ W5 hf (o5 _ _ far0 far1 pr) (ol.more.on o5)⟩
theorem Y1 {Q:PySem.Fin->Shared->Prop} (hh:A.handled=none) (W:EW n k l i j xs f0 f1 old s.heap) (he:xs[i]?=none) (hE:∀ h' e,BP n s.heap h'->(∃ o,h'.get? e=some o/\o.cls=.type "StopIteration")->E (.ref e) { s with heap:=h' }) :
  wpAny (model prog w) A (Builtin.«enumerate.__next__» ⟨[.ref (n+1)],[]⟩) Q E s:=by
 obtain ⟨h,g,d,tk,os⟩:=s
 dsimp only at W hE
 wp_walk using W.inner,JK hh W.w W.s he
 exact λh' e x y=>hE h' e (λc o c1 _ q=>x c o c1 q) y
def Fh (k:Bool) (n l i:Nat) (h:Heap):Prop:=∃ f0 f1 old,ZF f0/\h.get? (n+1)=some { cls:=.type "enumerate",dict:=none,data:=.fields #[f0,f1,.ref n,.int i 0,.none,old],slots:=#[] }/\CG k h n l i
theorem EW.tn {h:Heap} (W:EW n k l i i xs f0 f1 old h) (hf:ZF f0):Fh k n l i h:=⟨f0,f1,old,hf,W.z,W.w⟩
theorem Yk {tg:Expr} {u:Value} {Q:Unit->Shared->Prop} (W:EW n k l i j xs f0 f1 old s.heap) (hf:ZF f0) (hQ:∀ h' f,EW n k l i j xs f f1 old h'->ZF f->BP n s.heap h'->Q () { s with heap:=h' }):wpAny (model prog w) A (letOwnedTupleGo tg (.ref (n+1)) u) Q E s:=by
 have same:Q () s:=hQ s.heap _ W hf (BP.refl _ _)
 obtain ⟨h,g,d,tk,os⟩:=s
 have z:=W.z
 dsimp only at z
 unfold letOwnedTupleGo
 cases tg <;> try exact wpAny_pure same
 all_goals cases u <;> try exact wpAny_pure same
 all_goals
  wp_walk
  split
  ·exact wpAny_bind (wpAny_rule (W.set0 (s:=⟨h,g,d,tk,os⟩) (v:=.none) λh' V o z=>hQ h' _ V (.inl rfl) o))
  ·exact wpAny_pure same
theorem R1 {M:Model} {c:Value} {Q:Bool->Shared->Prop} (h:∀ b,Q b s):wpAny M A (Builtin.SmallTypes.calledThroughType c) Q E s:=wpAny_bind (wpAny_stack_any λ_=>wpAny_pure (h _))
end
theorem YZ (k:Bool) (l:Addr) (xs:Array Value) :
  Meets (Builtin.«enumerate.__new__» ⟨[.type "enumerate",.ref l],[]⟩) (λ_ R s=>Bx k s.heap l xs /\
   ∀ h',EW s.heap.objs.size k l 0 0 xs .none (.bool false) .none h'->(∀ c o,s.heap.get? c=some o->h'.get? c=some o)->R (.ok (.ret (.ref (s.heap.objs.size+1)))) { s with heap:=h' }):=
 .of_wp λprog w A R s q=>by
  obtain ⟨h,g,d,tk,os⟩:=s
  obtain ⟨t,q⟩:=q
  have hsub:=sub_enumerate
  have lt:l<h.objs.size:=by
   cases k with
   | true=>obtain ⟨o,g,_⟩:=(t:h.IsList l xs); exact Heap.lt_size g
   | false=>obtain ⟨o,g,_⟩:=(t:h.IsTuple l xs); exact Heap.lt_size g
  wp_walk using R1
  intro b
  have fin:∀ a,a.isFreed=false->(∀ (h:Heap) c,h.get? c=some a->CG k h c l 0)->R (.ok (.ret (.ref (h.push a).objs.size))) ⟨(h.push a).push { cls:=.type "enumerate",data:=.fields #[.none,.bool false,.ref h.objs.size,.int 0 0,.none,.none] },g,d,tk,os⟩:=λa fa ia=>by
   have up:∀ c u,h.get? c=some u->((h.push a).push { cls:=.type "enumerate",data:=.fields #[.none,.bool false,.ref h.objs.size,.int 0 0,.none,.none] }).get? c=some u:=λc u e=>Heap.get?_push_of_some _ (Heap.get?_push_of_some _ e)
   rw [Heap.size_push]
   refine q _ ⟨?_,ia _ _ (Heap.get?_push_of_some _ (Heap.get?_push_size _ fa)),t.at (up _),lt⟩ up
   rw [<- Heap.size_push h a]
   exact Heap.get?_push_size _ rfl
  cases b
  all_goals
   wp_walk using LN t
   intro a fa ia
   wp_walk
   exact ⟨_,rfl,fin a fa ia⟩
theorem ZI {prog:Program} {w:World} {A:Around} {E:Value->Shared->Prop} {s:Shared} {k:Bool} {l:Addr} {xs:Array Value} {Q:Value->Shared->Prop} (t:Bx k s.heap l xs)
  (hQ:∀ h',Fh k s.heap.objs.size l 0 h'->(∀ c o,s.heap.get? c=some o->h'.get? c=some o)->Q (.ref (s.heap.objs.size+1)) { s with heap:=h' }):wpAny (model prog w) A (call (.type "enumerate") [.ref l]) Q E s:=
 callType_new F.called_enumerate wE (F.typeCall_enumerate_1 _) (F.newCall_enumerate_1 _) (λobj=>F.args_object_init_2 obj _) F.entry_enumerate_new (YZ k l xs) ⟨t,λh' W up=>⟨⟨_,W.z,rfl⟩,hQ h' (W.tn (.inl rfl)) up⟩⟩
def MD (k:Bool) (K:PySem.W.Frag) (l:Addr):It:=
  ⟨λi H=>∃ as a,Sq k K H l as/\as[i]?=some a,
   λi H x H'=>∃ T a,H T=none/\H'=AN H T (.tup [.int (i:Nat),a])/\x=.ref T/\∀ as,Sq k K H l as->as[i]?=some a,
   λi H=>∃ as,Sq k K H l as/\as.length<=i⟩
def DF (n:Nat):List Addr:=[n,n+1]
theorem YR {k:Bool} {n l i:Nat} {h h':Heap} (st:Fh k n l i h) (q:∀ b∈DF n,∀ o,h.get? b=some o->h'.get? b=some o):Fh k n l i h':=by
 obtain ⟨f0,f1,old,hf,z,w⟩:=st
 exact ⟨f0,f1,old,hf,q _ (by simp [DF]) _ z,w.at (q _ (by simp [DF]))⟩
theorem Qk {k:Bool} {n l i:Nat} {h:Heap} (st:Fh k n l i h):∀ b∈DF n,∃ o,h.get? b=some o/\∀ v,o.data≠.cell v:=by
 obtain ⟨f0,f1,old,hf,z,w⟩:=st
 intro b hb
 rcases List.mem_cons.mp hb with rfl | hb
 ·exact w.obj
 ·cases List.mem_singleton.mp hb
  exact ⟨_,z,λv e=>by cases e⟩
theorem BP.fp {n:Nat} {h h':Heap} (p:BP n h h'):∀ c o,c∉DF n->h.get? c=some o->h'.get? c=some o:=λc o hc=>p c o (λe=>hc (by simp [DF,e])) (λe=>hc (by simp [DF,e]))
theorem RO {P:Program} {w:World} {K:PySem.W.Frag} {tg:Expr} (k:Bool) (n l:Nat) (hl:l<n):EK P w K tg (MD k K l) (DF n) (n+1) (Fh k n l) where
 mem:=by simp [DF]
 obj:=λi h st=>Qk st
 keep:=λi h h' st q=>YR st q
 item:=by
  intro X hP hw hK hc i pins s σ H E I hf st hg
  subst hP hw hK
  obtain ⟨as,a,q1,ga⟩:=hg
  obtain ⟨ia,va,sa,_⟩:=Du I q1
  obtain ⟨ua,hua,rua⟩:=va.get ga
  have hTn:s.heap.objs.size∉DF n:=λm=>let ⟨o,e,_⟩:=Qk st _ m; Nat.lt_irrefl _ (Heap.lt_size e)
  obtain ⟨f0,f1,old,zf,z,w1⟩:=st
  refine Iv ⟨_,z,rfl⟩ F.slot_enumerate_next F.entry_enumerate_next (F.args_enumerate_next_1 _) (Y0 (x:=ua) ⟨z,w1,sa,hl⟩ zf (by simpa using hua) λh1 t f0' f1' old' tk' W1 zf1 pr o1=>⟨_,rfl,Yk (s:={ s with heap:=h1,toks:=tk' }) W1 zf1 λh2 f W2 zf2 o2=>?_⟩)
  have Iz:L2.Inv X pins σ H { s with heap:=h2,toks:=tk' }:=Jj I hf (o1.on o2).fp
  have fr:H s.heap.objs.size=none:=I.hok.fresh (Nat.le_refl _)
  refine ⟨.ref s.heap.objs.size,AN H s.heap.objs.size (.tup [.int (i:Nat),a]),?_,rfl,⟨_,a,fr,rfl,rfl,λcs q=>?_⟩,?_,λc hb=>?_⟩
  ·refine Rc Iz (I.fpOk (Nat.le_refl _) fr) I.sz ⟨show 2<=sizeLine by decide,[.int i t,ua],.cons ⟨t,rfl⟩ (.cons rua .nil),?_⟩
   exact ⟨_,o2.fp _ _ hTn pr,rfl,rfl,_,rfl⟩
  ·rw [ME I q q1]; exact ga
  ·exact EW.tn (i:=i+1) W2 zf2
  ·rw [A4 (λe=>hTn (by rw [<- e]; exact hb))]; exact (hf c hb).1
 done:=by
  intro X hP hw hK hc i pins s σ H E I hf st hg
  subst hP hw hK
  obtain ⟨as,q1,hend⟩:=hg
  obtain ⟨ia,va,sa,_⟩:=Du I q1
  obtain ⟨f0,f1,old,zf,z,w1⟩:=st
  have e1:=va.length
  exact Iv ⟨_,z,rfl⟩ F.slot_enumerate_next F.entry_enumerate_next (F.args_enumerate_next_1 _) (Y1 (I.ok.hd hc) ⟨z,w1,sa,hl⟩ (by simp; omega) λh' e p q=>⟨q,rfl,Jj (t':=s.toks) I hf p.fp⟩)
 self:=λA i s Q E st h=>by
  obtain ⟨f0,f1,old,zf,z,_⟩:=st
  exact O5 ⟨_,z,rfl⟩ F.slot_enumerate_iter F.entry_enumerate_iter (F.args_enumerate_iter_1 _) F.slot_enumerate_next (wpAny_pure ⟨rfl,rfl⟩) h
theorem XL {K:PySem.W.Frag} {G:Wd} {k:Bool} {l:Addr} {vs:List V} {xs:List D} (h1:Sq k K G.g l vs) (r1:Am K G xs vs):DI K G (MD k K l) (xs.zipIdx.map λp=>.tup [.int (p.2:Nat),p.1]) where
 go:=λi H e hi=>by
  have hi:i<xs.length:=by simpa using hi
  obtain ⟨a,ha,_⟩:=r1.get (i:=i) (d:=xs[i]) (by simp)
  exact ⟨vs,a,h1.same e,ha⟩
 stop:=λi H e hi=>by
  have hi:xs.length<=i:=by simpa using hi
  exact ⟨vs,h1.same e,by rw [<- r1.length]; exact hi⟩
 yld:=λi v H H' G2 O2 e s y hi=>by
  obtain ⟨T,a,hT,rfl,rfl,y1⟩:=y
  obtain ⟨x,hx,ix⟩:=r1.getV (y1 vs (h1.same (e.g.trans s.sub)))
  obtain ⟨e3,s3⟩:=s.laid (o:=.tup [.int (i:Nat),a]) hT
  refine ⟨.tup [.int (i:Nat),x],_,?_,e3,s3,.tup (Bu.of BF) (.cons (.int _) (.cons (ix.ext (e.trans e3)) .nil))⟩
  rw [List.getElem?_map,List.getElem?_zipIdx,hx]
  simp
section
variable {X:Cx} {ρ:Aj} {O:Ad} {e a b c:Expr} {es:List Expr} {d da db:D} {ds:List D} {R:D->Ad->Prop} {pos p:Pos} {x:Str} {xs ys:List D}
theorem YA (ha:Ae X ρ O a da) (fa:LF da xs) (hm:X.mg "enumerate" = none) (hg:Gl X "enumerate" := by rfl) (hs:starEach [a] X.env=[(false,eval a X.env)]:=by rfl) :
  Gn X ρ O (.Call (.Name "enumerate" p) [a] [] pos) (xs.zipIdx.map λp=>.tup [.int (p.2:Nat),p.1]) "enumerate" := λG tg pins s σ H R I sa en k=>by
 refine Call_ (EE I hg hm boot_enumerate (PyProof.Rows.callWith_type1 (Ar (Ab ha Af hs G pos pins s σ H (λvs H'=>∃ G',Ah G G'/\SA X.K G' H' O/\Am X.K G' [da] vs) I ⟨sa,en,λvs G' H' e1 s1 i1=>⟨G',e1,s1,i1⟩⟩) λus s1 ⟨vs,H1,I1,r1,G1,e1,sa1,is1⟩=>?_) (by rw [hs]; rfl) rfl))
 cases is1 with | cons i1 is1=>
 cases is1
 obtain ⟨k1,l1,v1,rfl,q1,j1⟩:=fa.sq i1
 obtain ⟨u,rfl,ru⟩:=Dx r1
 cases ru
 obtain ⟨t1,w1,g1,z1⟩:=Du I1 (q1.same sa1.sub)
 have lt:l1<s1.heap.objs.size:=by
  cases k1 with
  | true=>obtain ⟨o,g,_⟩:=(g1:s1.heap.IsList l1 _); exact Heap.lt_size g
  | false=>obtain ⟨o,g,_⟩:=(g1:s1.heap.IsTuple l1 _); exact Heap.lt_size g
 refine ZI g1 λh' Z kp=>?_
 have Ik:L2.Inv X pins σ H1 { s1 with heap:=h',toks:=s1.toks }:=I1.kept kp
 refine ⟨⟨s1.heap.objs.size+1,DF s1.heap.objs.size,Fh k1 s1.heap.objs.size l1,MD k1 X.K l1,H1,rfl,Ik,RO k1 _ l1 lt,Z,λb hb=>?_,k _ G1 H1 e1 sa1 (XL q1 j1)⟩,?_⟩
 ·have hb':s1.heap.objs.size<=b:=by
   rcases List.mem_cons.mp hb with rfl | hb
   ·exact Nat.le_refl _
   ·cases List.mem_singleton.mp hb; exact Nat.le_succ _
  exact I1.fpOk hb' (I1.hok.fresh hb')
 ·obtain ⟨f0,f1,old,_,hz,_⟩:=Z
  exact ⟨_,hz,rfl⟩
theorem Yz {α:Type} {f:α->D} {as:List α} (ha:Ae X ρ O a da) (fa:LF da (as.map f)) (hm:X.mg "enumerate" = none) (hg:Gl X "enumerate" := by rfl) (hs:starEach [a] X.env=[(false,eval a X.env)]:=by rfl) :
  Gn X ρ O (.Call (.Name "enumerate" p) [a] [] pos) (as.zipIdx.map λp=>.tup [.int (p.2:Nat),f p.1]) "enumerate" := by
 have e:(as.zipIdx.map λp=>D.tup [.int (p.2:Nat),f p.1])=((as.map f).zipIdx.map λp=>D.tup [.int (p.2:Nat),p.1]):=by
  rw [List.zipIdx_map,List.map_map]
  rfl
 rw [e]
 exact YA ha fa hm hg hs
end
end DL
namespace DL
open PySem PySem.Spec PyProof.Rows L2
section
variable {X:Cx} {ρ:Aj} {O:Ad} {e a b c o value:Expr} {es:List Expr} {d da db:D} {ds:List D} {R:D->Ad->Prop} {pos p p2 apos pos':Pos} {x y f m:Str} {rest:List Stmt} {P:Bg} {q:Nat} {C C2:Addr} {fs:List (Str×D)}
theorem Ha {i:Int} {t:Tok} (hm:X.mg x=some (.int i t)) (hg:Gl X x:=by rfl) (hd:(x==("__debug__" : Str))=false:=by decide):Ae X ρ O (.Name x pos) (.int i):=λG=>
 PE.imp (OW (v:=.int i) hg hm ⟨t,rfl⟩ hd) λσ H Q ⟨h1,h2,h3⟩=>h3 _ G H (Ah.refl _) h1 (.int i)
structure Cm (K:PySem.W.Frag) (C:Addr):Prop where
 cls:A7 K C
 ha:PySem.W.findIn K (.ref C) "__class__" = some (some (.builtin "object.__class__"))
 hn:PySem.W.specialIn K (.builtin "object.__class__") "__get__" = some (some (.builtin "getset_descriptor.__get__"))
 htk:PySem.W.takesIn K (.builtin "object.__class__")=some true
 hm:PySem.W.mroIn K C (.type "object")=some true
theorem Gb {k:Bool} (hm:X.mg "isinstance" = none) (he:Ae X ρ O e (.ptr q)) (hq:O[q]?=some (some (.ins C fs))) (T:Cm X.K C) (hx:X.mg x=some (.ref C2)) (hk:PySem.W.kitOne X.K (.ref C) (.ref C2)=some k)
  (hg:Gl X "isinstance" := by rfl) (hgx:Gl X x:=by rfl) (hdx:(x==("__debug__" : Str))=false:=by decide) (hs:starEach [e,.Name x p2] X.env=(false,eval e X.env)::starEach [.Name x p2] X.env:=by rfl) (hpl:(backTo pos (starEach [.Name x p2] X.env)).any (·.1)=false:=by rfl) :
  Ae X ρ O (.Call (.Name "isinstance" p) [e,.Name x p2] [] pos) (.bl k):=λG=>by
 refine PE.imp (OY (id := "isinstance") (r:=λvs H Q=>∃ a dx fs,vs=[.ref a,.ref C2]/\H a=some (.ins C dx fs)/\Q (.bl k) H) (λpins s σ H xs us Q I r h=>?_) hg hm (by first | rfl | decide +kernel) (FY (he G) (FY (OW (v:=.ref C2) hgx hx rfl hdx) Io rfl) hs) wE wE hs hpl) λσ H Q ⟨h1,h2,h3⟩=>?_
 ·obtain ⟨a,dx,fs,rfl,ha,hQ⟩:=h
  obtain ⟨u,u',rfl,ru,ru'⟩:=Fx r
  cases ru'
  exact XO I ru (.ins ha T.cls T.ha T.hn T.htk T.hm) hk λtk=>⟨.bl k,H,I.kept λ_ _ e=>e,rfl,hQ⟩
 ·refine ⟨h1,h2,λv G1 H1 e1 s1 i1=>?_⟩
  obtain ⟨a,dx,vs,rfl,g1,g2,g3⟩:=s1.ins i1 hq
  exact ⟨a,dx,vs,rfl,g2,h3 _ G1 H1 e1 s1 (.bl k)⟩
structure EL (P:Program) (w:World) (K:PySem.W.Frag) (mg:Str->Option Value) (base:Heap) (x:Str) (k:Nat) (m:Str) (sp:AQ):Prop where
 ex:∃ C mc f fd ps,mg x=some (.ref C)/\PySem.W.specialIn K (.ref C) "__getattribute__" = some (some (.builtin "type.__getattribute__"))/\PySem.W.readsIn K C mc=true/\PySem.W.findCls K (.ref C) mc m=some (.val (.ref f))/\PySem.W.handedIn (.ref f)=true /\
  AF P w K mg base AL k f fd ps (AJ K sp)/\PySem.W.keepIn K (.ref f)=true/\Binds K fd ps []
theorem G0 {k:Nat} {sp:AQ} {pl:Sem Bool} (M:EL X.prog X.w X.K X.mg X.base x k m sp) (hr:AR k X.A) (ha:BZ X ρ O (e::es) ds) (hs:sp ds O R) (hg:Gl X x:=by rfl) (hdb:(x==("__debug__" : Str))=false:=by decide)
  (hst:starEach (e::es) X.env=(false,eval e X.env)::starEach es X.env:=by rfl) (hpl:(backTo pos (starEach es X.env)).any (·.1)=false:=by rfl)
  (ht:eval (.Call (.Attribute (.Name x p) m apos) (e::es) [] pos) X.env=(do
   let ov <- eval (.Name x p) X.env
   standAt apos.atName
   let (f,first) <- holding [ov] (getMethod ov m pl)
   callWith pos f first (backTo pos (starEach (e::es) X.env)) (backToKw pos (keywordEach [] X.env))):=by rfl):Ev X ρ O (.Call (.Attribute (.Name x p) m apos) (e::es) [] pos) R:=λG pins s σ H Q I ⟨h1,h2,h3⟩=>by
 obtain ⟨C,mc,f,fd,ps,g1,g2,g3,g4,g5,g6,g7,g8⟩:=M.ex
 refine PySem.W.methodCall_KW (pl:=pl) (ID I hg g1 (PySem.W.method_cls I.kIn g2 (PySem.W.cls_value I.kIn g3 g4 g5 ?_)) hdb) ht
 have I1:L2.Inv X pins σ H { s with toks:=s.toks+1 }:=I.kept λ_ _ e=>e
 refine PySem.W.callWith_K (first:=[]) (h₀:=X.base) I.ok.mod.kin g7 (Ar (ha G pos pins _ σ H (λvs H'=>∃ G',Ah G G'/\SA X.K G' H' O/\Am X.K G' ds vs) I1 ⟨h1,h2,λvs G' H' e1 s1 i1=>⟨G',e1,s1,i1⟩⟩) λus s2 ⟨vs,H2,I2,r,G1,e1,s1,i1⟩=>⟨I2.kIn,?_⟩) hst hpl
 refine Ig (us:=us) (vs:=vs) (dvs:=[]) (E:=E0) g6 hr g8 .nil FX I2 r ?_
 show AJ X.K sp (vs++[]) H2 Q E0
 rw [List.append_nil]
 exact ⟨G1,O,ds,R,s1,i1,hs,λv d O' G' H' e2 s2 i2 r2=>h3 v d O' G' H' (e1.trans e2) s2 i2 r2⟩
end
section
variable {X:Cx} {ρ:Aj} {O:Ad} {e a b c:Expr} {body orelse:List Stmt} {d da db:D} {pos:Pos} {P:Bg}
end
section
variable {X:Cx} {ρ:Aj} {O:Ad} {a b:Expr} {pos:Pos} {R:D->Ad->Prop} {xs:List D}
end
end DL
namespace DL
open PySem PySem.Spec PyProof.Rows L2 PySem.W
section
variable {X:Cx} {ρ:Aj} {O:Ad} {d:D} {xs ys:List D}
def DR (ns:List Int):Int:=ns.getD (argBest (λi j=>decide (ns.getD i 0<ns.getD j 0)) (ns.length-1)) 0
def PY (ns:List Int):Int:=ns.getD (argBest (λi j=>decide (ns.getD i 0>ns.getD j 0)) (ns.length-1)) 0
theorem Ml (bt:Nat->Nat->Bool):∀ k,argBest bt k<=k
 | 0=>Nat.le_refl _
 | k+1=>by
  have:=Ml bt k
  unfold argBest
  split <;> omega
theorem Ps (g:Nat->Int):∀ k i,i<=k->g (argBest (λi j=>decide (g i<g j)) k)<=g i
 | 0,i,h=>by
  have:i=0:=by omega
  subst this
  exact Int.le_refl _
 | k+1,i,h=>by
  have ih:=Ps g k
  unfold argBest
  by_cases hd:g (k+1)<g (argBest (λi j=>decide (g i<g j)) k)
  ·rw [if_pos (decide_eq_true hd)]
   by_cases he:i=k+1
   ·subst he; exact Int.le_refl _
   ·have:=ih i wF; omega
  ·rw [if_neg (by simpa using hd)]
   by_cases he:i=k+1
   ·subst he; omega
   ·exact ih i wF
theorem Xj {ns:List Int} (h:ns≠[]):DR ns∈ns:=by
 have h0:=List.length_pos_iff.mpr h
 unfold DR
 rw [Fd (by have:=Ml (λi j=>decide (ns.getD i 0<ns.getD j 0)) (ns.length-1); omega)]
 exact List.getElem_mem _
theorem LG {ns:List Int} {x:Int} (h:x∈ns):DR ns<=x:=by
 obtain ⟨i,hi,rfl⟩:=List.getElem_of_mem h
 have:=Ps (λi=>ns.getD i 0) (ns.length-1) i wF
 rw [Fd hi] at this
 exact this
theorem ZJ {prog:Program} {w:World} {A:Around} {E:Value->Shared->Prop} {s:Shared} {k:Bool} {l:Addr} {its:List Value} {ns:List Int} {Q:Value->Shared->Prop} (mx:Bool) (hh:A.handled=none) (q:Bx k s.heap l its.toArray) (hv:∀ (i:Nat) (v:Value),its[i]?=some v->∃ t,v=.int (ns.getD i 0) t) (hn:ns.length=its.length) (h0:0<ns.length)
  (h:∀ h' tk t,(∀ b o,s.heap.get? b=some o->h'.get? b=some o)->Q (.int (if mx then PY ns else DR ns) t) { s with heap:=h',toks:=tk }):wpAny (model prog w) A (call (.builtin (if mx then "max" else "min")) [.ref l]) Q E s:=by
 have hl:=JI q
 have hz:its.toArray.size=ns.length:=by simp [hn]
 have hv':∀ (i:Nat) (v:Value),its.toArray[i]?=some v->∃ t,v=.int (ns.getD i 0) t:=λi v e=>hv i v (by simpa using e)
 have BL:∀ (h2:Heap),(∀ b o,s.heap.get? b=some o->h2.get? b=some o)->∀ h':Heap,(∀ b o,b∉[s.heap.objs.size]->h2.get? b=some o->h'.get? b=some o)->∀ b o,s.heap.get? b=some o->h'.get? b=some o:=λh2 up h' kp b o e=>kp b o (by simpa using Nat.ne_of_lt (Heap.lt_size e)) (up b o e)
 have fpl:∀ b∈[s.heap.objs.size,l],b<s.heap.objs.size+1:=λb hb=>by
  rcases List.mem_cons.mp hb with rfl | hb
  ·exact Nat.lt_succ_self _
  ·rw [List.mem_singleton.mp hb]; exact Nat.lt_succ_of_lt hl
 cases k with
 | true=>
  have W:=Walks.list (prog:=prog) (w:=w) (A:=A.in1) hh s.heap.objs.size l (Nat.ne_of_lt hl) its.toArray
  have st:(s.heap.push { cls:=.type "list_iterator",data:=.fields #[.ref l,.int 0 0] }).IsListIter s.heap.objs.size l 0/\(s.heap.push { cls:=.type "list_iterator",data:=.fields #[.ref l,.int 0 0] }).IsList l its.toArray:=⟨⟨_,Heap.get?_push_size _ rfl,rfl,rfl⟩,Heap.IsList.push q _⟩
  cases mx with
  | true=>
   refine call_max_walk (wpAny_pyIter_list q ⟨_,_,_,_,_,_,_,rfl,W,st,by rw [Heap.size_push]; exact fpl,by rw [hz]; exact h0,CmpOf.ints_gt (λi=>ns.getD i 0) hv',λv h' tk hP kp=>?_⟩)
   obtain ⟨t,rfl⟩:=hv' _ _ hP
   rw [hz]
   exact h h' tk t (BL _ (λb o e=>Heap.get?_push_of_some _ e) h' kp)
  | false=>
   refine call_min_walk (wpAny_pyIter_list q ⟨_,_,_,_,_,_,_,rfl,W,st,by rw [Heap.size_push]; exact fpl,by rw [hz]; exact h0,CmpOf.ints_lt (λi=>ns.getD i 0) hv',λv h' tk hP kp=>?_⟩)
   obtain ⟨t,rfl⟩:=hv' _ _ hP
   rw [hz]
   exact h h' tk t (BL _ (λb o e=>Heap.get?_push_of_some _ e) h' kp)
 | false=>
  have W:=Walks.tuple (prog:=prog) (w:=w) (A:=A.in1) hh s.heap.objs.size l (Nat.ne_of_lt hl) its.toArray
  have st:(s.heap.push { cls:=.type "tuple_iterator",data:=.fields #[.ref l,.int 0 0] }).IsTupleIter s.heap.objs.size l 0/\(s.heap.push { cls:=.type "tuple_iterator",data:=.fields #[.ref l,.int 0 0] }).IsTuple l its.toArray:=⟨⟨_,Heap.get?_push_size _ rfl,rfl,rfl⟩,(Bx.at (k:=false) q λo e=>Heap.get?_push_of_some _ e:Bx false _ l _)⟩
  cases mx with
  | true=>
   refine call_max_walk (wpAny_pyIter_tuple q ⟨_,_,_,_,_,_,_,rfl,W,st,by rw [Heap.size_push]; exact fpl,by rw [hz]; exact h0,CmpOf.ints_gt (λi=>ns.getD i 0) hv',λv h' tk hP kp=>?_⟩)
   obtain ⟨t,rfl⟩:=hv' _ _ hP
   rw [hz]
   exact h h' tk t (BL _ (λb o e=>Heap.get?_push_of_some _ e) h' kp)
  | false=>
   refine call_min_walk (wpAny_pyIter_tuple q ⟨_,_,_,_,_,_,_,rfl,W,st,by rw [Heap.size_push]; exact fpl,by rw [hz]; exact h0,CmpOf.ints_lt (λi=>ns.getD i 0) hv',λv h' tk hP kp=>?_⟩)
   obtain ⟨t,rfl⟩:=hv' _ _ hP
   rw [hz]
   exact h h' tk t (BL _ (λb o e=>Heap.get?_push_of_some _ e) h' kp)
theorem ZQ {ns:List Int} (mx:Bool) (h:LT O d (ns.map D.int)) (h0:ns≠[]) (hc:X.calm=true):BV X O (.builtin (if mx then "max" else "min")) [d] (.int (if mx then PY ns else DR ns)):=λG pins s σ H vs us Q I r ⟨h1,h2,h3⟩=>by
 cases h2 with | cons i r2=>
 cases r2
 obtain ⟨kk,ad,ws,rfl,q,is⟩:=h.sq h1 i
 obtain ⟨u,rfl,ru⟩:=Dx r
 cases ru
 obtain ⟨its,va,sq,_⟩:=Du I q
 have e:=is.toInts
 subst e
 have el:=va.length
 rw [List.length_map] at el
 refine ZJ (ns:=ns) mx (I.ok.hd hc) sq (λi v hv=>?_) el (List.length_pos_iff.mpr h0) λh' tk t kp=>⟨.int _,H,I.kept kp,⟨t,rfl⟩,h3 _ G H (Ah.refl _) h1 (.int _)⟩
 have hi:i<ns.length:=by rw [el]; exact (List.getElem?_eq_some_iff.mp hv).1
 obtain ⟨w,hw,rw'⟩:=va.get (i:=i) (x:=.int ns[i]) (by simp [hi])
 rw [hv] at hw
 cases hw
 obtain ⟨t,e⟩:=rw'
 exact ⟨t,by rw [e,Fd hi]⟩
theorem QH {ns:List Int} (h:LT O d (ns.map D.int)) (h0:ns≠[]) (hc:X.calm=true:=by rfl):BV X O (.builtin "min") [d] (.int (DR ns)):=ZQ false h h0 hc
end
structure Hu (K:PySem.W.Frag) (x qual:Str) (st:Stmt) (f:Addr) (fd:FuncData) (dv:List Value):Prop where
 ex:∃ (T:Addr) (cT:Value) (dT:Option Addr) (nT:Nat) (sT:Array (Option Value)) (oc:Value) (od:Option Addr) (kV doc pm:Value) (an:Option Addr) (cdv ct:Value) (osl:Array (Option Value)),
  fd=PySem.W.fnOf x qual (De st) (CC st) (An st) (.ref T) kV doc pm an cdv ct/\K.lookup f=some ⟨oc,od,.func fd,osl⟩/\PySem.W.codeIn K cdv qual=true/\K.lookup T=some ⟨cT,dT,.seq dv.toArray nT,sT⟩
 kp:PySem.W.keepIn K (.ref f)=true
theorem Yt {K:PySem.W.Frag} {x qual:Str} {st:Stmt} {f T:Addr} {cT oc:Value} {dT od an:Option Addr} {nT:Nat} {sT osl:Array (Option Value)} {kV doc pm cdv ct:Value} {dv:List Value} (l:K.lookup f=some ⟨oc,od,.func (PySem.W.fnOf x qual (De st) (CC st) (An st) (.ref T) kV doc pm an cdv ct),osl⟩)
  (t:K.lookup T=some ⟨cT,dT,.seq dv.toArray nT,sT⟩) (c:PySem.W.codeIn K cdv qual=true) (k:PySem.W.keepIn K (.ref f)=true):Hu K x qual st f (PySem.W.fnOf x qual (De st) (CC st) (An st) (.ref T) kV doc pm an cdv ct) dv:=⟨⟨T,cT,dT,nT,sT,oc,od,kV,doc,pm,an,cdv,ct,osl,rfl,l,c,t⟩,k⟩
theorem Hu.binds {K:PySem.W.Frag} {x qual:Str} {st:Stmt} {f:Addr} {fd:FuncData} {dv rest:List Value} {ps:List Str} (F:Hu K x qual st f fd dv)
  (h:∀ (T:Addr) (kV doc pm:Value) (an:Option Addr) (cdv ct:Value) (us:List Value),(us++rest).length=ps.length->∃ k,bindArgs (PySem.W.fnOf x qual (De st) (CC st) (An st) (.ref T) kV doc pm an cdv ct) ⟨us,[]⟩=seqItems? (.ref T) >>= k/\k (some dv.toArray)=pure (ps.zip (us++rest))):Binds K fd ps rest:=by
 obtain ⟨T,cT,dT,nT,sT,oc,od,kV,doc,pm,an,cdv,ct,osl,rfl,l,c,t⟩:=F.ex
 intro s us X hl
 obtain ⟨k,h1,h2⟩:=h T kV doc pm an cdv ct us hl
 exact PySem.W.binds_K X rfl t rfl h1 h2
section
variable {P:Program} {w:World} {K:PySem.W.Frag} {mg:Str->Option Value} {base:Heap}
theorem WN {x qual:Str} {st:Stmt} {f:Addr} {fd:FuncData} {N ps:List Str} {k:Nat} {sp:AQ} {dv:List Value} (F:Hu K x qual st f fd dv) (S:AB N ps (An st))
  (len:∀ ds O R,sp ds O R->ds.length=ps.length)
  (hbody:∀ (cdv:Value) (A:Around) (outer:List Env) (s:Shared) (H:Hp) (E:XK) (ds:List D) (O:Ad) (R:D->Ad->Prop),AR k (A.deeper (envOfC qual (An st) s.heap.objs.size f cdv))->sp ds O R->
   Ch (El AL P w K mg base N qual (An st) f cdv A outer s H E).nox (FB N ds) O (CC st) { nx:=λ_ O'=>R .non O',rt:=R }):AF P w K mg base AL (k+1) f fd ps (AJ K sp):=by
 obtain ⟨T,cT,dT,nT,sT,oc,od,kV,doc,pm,an,cdv,ct,osl,rfl,l,c,t⟩:=F.ex
 refine Qa l c S (λvs H Q E h=>?_) λA outer s H vs Q E hr h=>?_
 ·obtain ⟨G,O,ds,R,h1,h2,h3,h4⟩:=h
  rw [<- h2.length]
  exact len _ _ _ h3
 ·obtain ⟨G,O,ds,R,h1,h2,h3,h4⟩:=h
  exact ⟨_,(hbody cdv A outer s H E ds O R hr h3 G).nox,h1,Nn h2,⟨λσ ρ O' G' H' e1 s1 n1 q=>h4 _ _ O' G' H' e1 s1 .non q,λv d O' G' H' e1 s1 i1 q=>h4 v d O' G' H' e1 s1 i1 q,λσ ρ O' G' H' e1 s1 n1 q=>q.elim,λσ ρ O' G' H' e1 s1 n1 q=>q.elim⟩⟩
end
section
variable {X:Cx} {ρ:Aj} {O:Ad} {a:Expr} {pos p:Pos} {R:D->Ad->Prop} {xs:List D} {d:D}
end
def Fb (ps:List (Int×Int)):Int×Int:=ps.getD (argBest (λi j=>AY (ps.getD i (0,0)) (ps.getD j (0,0))) (ps.length-1)) (0,0)
theorem Pr (g:Nat->Int×Int):∀ k i,i<=k->AY (g i) (g (argBest (λi j=>AY (g i) (g j)) k))=false
 | 0,i,h=>by
  have:i=0:=by omega
  subst this
  show AY (g 0) (g 0)=false
  unfold AY
  exact decide_eq_false wF
 | k+1,i,h=>by
  have ih:=Pr g k
  unfold argBest
  by_cases hd:AY (g (k+1)) (g (argBest (λi j=>AY (g i) (g j)) k))=true
  ·rw [if_pos hd]
   by_cases he:i=k+1
   ·subst he; unfold AY; exact decide_eq_false wF
   ·have:=ih i wF
    generalize argBest (λi j=>AY (g i) (g j)) k=b at *
    unfold AY at *
    have h1:=of_decide_eq_true hd
    have h2:=of_decide_eq_false this
    exact decide_eq_false wF
  ·rw [if_neg hd]
   by_cases he:i=k+1
   ·subst he; exact Bool.eq_false_iff.mpr hd
   ·exact ih i wF
theorem W9 {ps:List (Int×Int)} (h:ps≠[]):Fb ps∈ps:=by
 have h0:=List.length_pos_iff.mpr h
 unfold Fb
 rw [Fd (by have:=Ml (λi j=>AY (ps.getD i (0,0)) (ps.getD j (0,0))) (ps.length-1); omega)]
 exact List.getElem_mem _
theorem Xa {ps:List (Int×Int)} {q:Int×Int} (h:q∈ps):AY q (Fb ps)=false:=by
 obtain ⟨i,hi,rfl⟩:=List.getElem_of_mem h
 have:=Pr (λi=>ps.getD i (0,0)) (ps.length-1) i wF
 rw [Fd hi] at this
 exact this
def Hl (h:Heap) (v:Value) (p:Int×Int):Prop:=∃ a o n t u,v=.ref a/\h.get? a=some o/\o.cls=.type "tuple" /\ o.data=.seq #[.int p.1 t,.int p.2 u] n
section
variable {prog:Program} {w:World} {A:Around} {E:Value->Shared->Prop} {s:Shared}
theorem Pq {a b:Int} {t u:Tok} {Q:Value->Shared->Prop} (h:Q (.bool (decide (a<b))) s):wpAny (model prog w) A (richCompare .Lt (.int a t) (.int b u)) Q E s:=
 CmpOf.ints_lt (P:=λi v=>v=if i=0 then .int a t else .int b u) (λi=>if i=0 then a else b) (λi v e=>⟨if i=0 then t else u,by subst e; split <;> rfl⟩) 0 1 _ _ s Q E rfl rfl h
theorem Xi {x y:Value} {p q:Int×Int} {Q:Value->Shared->Prop} (hx:Hl s.heap x p) (hy:Hl s.heap y q) (hu:A.units<cLine) (h:Q (.bool (AY p q)) s):wpAny (model prog w) A (richCompare .Lt x y) Q E s:=by
 obtain ⟨a,oa,na,ta,ua,rfl,a1,a2,a3⟩:=hx
 obtain ⟨b,ob,nb,tb,ub,rfl,b1,b2,b3⟩:=hy
 have Ta:s.TypeIs (.ref a) "tuple" :=⟨oa,a1,a2⟩
 have Tb:s.TypeIs (.ref b) "tuple" :=⟨ob,b1,b2⟩
 refine wpAny_richCompare_same_room (op:=.Lt) Ta Tb PySem.F.slot_tuple_lt (wpAny_call_entry PySem.F.slot_tuple_lt Ta PySem.F.entry_tuple_lt ?_ (PySem.F.args_tuple_lt_2 _ _)) hu
 obtain ⟨h0,g,d,tk,os⟩:=s
 obtain ⟨ca,da,xa,sa⟩:=oa
 obtain ⟨cb,db,xb,sb⟩:=ob
 simp only at a2 a3 b2 b3
 subst a2 a3 b2 b3
 dsimp only at a1 b1
 have f2:=AutoSeq1.sub_tuple_tuple
 have hq1:((p.1==q.1)=true) ↔ p.1=q.1:=by simp
 by_cases e1:p.1=q.1
 ·have z1:(p.1==q.1)=true:=by simpa using e1
  by_cases e2:p.2=q.2
  ·have z2:(p.2==q.2)=true:=by simpa using e2
   have z:AY p q=false:=by unfold AY; exact decide_eq_false wF
   rw [z] at h
   wp_walk using wpAny_loadPart' a1,wpAny_loadPart' b1,wpAny_eqBool_int
   exact ⟨.bool false,rfl,λz=>(by cases z),h⟩
  ·have z2:(p.2==q.2)=false:=by simpa using e2
   have z:AY p q=decide (p.2<q.2):=by unfold AY; exact decide_eq_decide.mpr wF
   rw [z] at h
   wp_walk using wpAny_loadPart' a1,wpAny_loadPart' b1,wpAny_eqBool_int,Pq
   exact ⟨_,rfl,λz=>(by cases z),h⟩
 ·have z1:(p.1==q.1)=false:=by simpa using e1
  have z:AY p q=decide (p.1<q.1):=by unfold AY; exact decide_eq_decide.mpr wF
  rw [z] at h
  wp_walk using wpAny_loadPart' a1,wpAny_loadPart' b1,wpAny_eqBool_int,Pq
  exact ⟨_,rfl,λz=>(by cases z),h⟩
theorem LC {R:Result->Shared->Prop} {I S:Addr} {fp wr:List Addr} {n:Nat} {P:Nat->Value->Prop} {St:Nat->Heap->Prop} {Kp:Heap->Prop} {bt:Nat->Nat->Bool} (W:Walks prog w A.in1 I fp wr n P St)
  (hc:∀ i j vi vj (s:Shared) (Q:Value->Shared->Prop) (E:Value->Shared->Prop),P i vi->P j vj->Kp s.heap->Q (.bool (bt i j)) s->wpAny (model prog w) A.in1 (richCompare .Lt vi vj) Q E s)
  (hK:∀ h h':Heap,Kp h->(∀ b o,b∉wr->b≠S->h.get? b=some o->h'.get? b=some o)->Kp h') (hS:S∉fp) :
  ∀ (k j:Nat) (s:Shared) (vb:Value) (c:Nat),j+1+k=n->St (j+1) s.heap->Kp s.heap->P (argBest bt j) vb->s.heap.get? S=some (Dn [vb,vb] c)->
   (∀ v h' tk,P (argBest bt (n-1)) v->(∀ b o,b∉wr->b≠S->s.heap.get? b=some o->h'.get? b=some o)->R (.ok (.ret v)) { s with heap:=h',toks:=tk })->codeAny (model prog w) A (.builtin "min.loop" ⟨[.ref I,.none,.ref S],[]⟩) R s
 | 0,j,s,vb,c,hk,st,kp,pb,own,fin=>by
  refine Fj F.plain_min_loop F.entry_min_loop ?_
  obtain ⟨h,g,d,tk,os⟩:=s
  have hn:j+1=n:=hk
  subst hn
  have nx:∀ (Q:Option Value->Shared->Prop) (E:Value->Shared->Prop) (f:Value->Sem (Option Value)),(∀ h' tk',(∀ b o,b∉wr->h.get? b=some o->h'.get? b=some o)->Q none ⟨h',g,d,tk',os⟩)->wpAny (model prog w) A.in1 ((pyNext (.ref I)).tryCatch f) Q E ⟨h,g,d,tk,os⟩:=λQ E f q=>wpAny_tryCatch (W.done _ _ _ st q)
  wp_walk using wpAny_seqItems own rfl,nx
  intro h' tk' ke
  have own':=ke S _ (λz=>hS (W.sub _ z)) own
  wp_walk using wpAny_updateSeq own' rfl
  exact fin vb _ _ pb λb o hb hbS e=>(Heap.get?_update_other _ _ (Ne.symm hbS)).trans (ke b o hb e)
 | k+1,j,s,vb,c,hk,st,kp,pb,own,fin=>by
  refine Fj F.plain_min_loop F.entry_min_loop ?_
  obtain ⟨h,g,d,tk,os⟩:=s
  have nx:∀ (Q:Option Value->Shared->Prop) (E:Value->Shared->Prop) (f:Value->Sem (Option Value)),(∀ v h' tk',P (j+1) v->St (j+2) h'->(∀ b o,b∉wr->h.get? b=some o->h'.get? b=some o)->Q (some v) ⟨h',g,d,tk',os⟩)->wpAny (model prog w) A.in1 ((pyNext (.ref I)).tryCatch f) Q E ⟨h,g,d,tk,os⟩:=λQ E f q=>wpAny_tryCatch (W.item _ _ _ _ wF st q)
  wp_walk using wpAny_seqItems own rfl,nx
  intro v h' tk' pv st' ke
  have own':=ke S _ (λz=>hS (W.sub _ z)) own
  have kp':Kp h':=hK h h' kp λb o hb _ e=>ke b o hb e
  have cmp:∀ (Q:Value->Shared->Prop) (E:Value->Shared->Prop),Q (.bool (bt (j+1) (argBest bt j))) ⟨h',g,d,tk',os⟩->wpAny (model prog w) A.in1 (richCompare .Lt v vb) Q E ⟨h',g,d,tk',os⟩:=λQ E q=>hc _ _ _ _ _ Q E pv pb kp' q
  wp_walk
  refine wpAny_tryCatch ?_
  have nm:(toString "min" ++ toString ".loop" : String) = "min.loop" := by decide
  rw [nm]
  have hb1:argBest bt (j+1)=if bt (j+1) (argBest bt j) then j+1 else argBest bt j:=rfl
  cases hz:bt (j+1) (argBest bt j) with
  | true=>
   rw [hz] at cmp hb1
   wp_walk using cmp,wpAny_truthy_bool,wpAny_updateSeq own' rfl
   refine ⟨plainId_quiet F.plain_min_loop _,LC W hc hK hS k (j+1) _ v _ wF (W.frame _ _ _ st' λb hbf o e=>(Heap.get?_update_other _ _ (λz:S=b=>hS (by rw [z]; exact hbf))).trans e) (hK _ _ kp' λb o _ hbS e=>(Heap.get?_update_other _ _ (Ne.symm hbS)).trans e) (by rw [hb1]; exact pv) (Heap.get?_update_self _ own' rfl) λv2 h2 tk2 p2 ke2=>fin v2 h2 tk2 p2 λb o hbw hbS e=>ke2 b o hbw hbS ((Heap.get?_update_other _ _ (Ne.symm hbS)).trans (ke b o hbw e))⟩
  | false=>
   rw [hz] at cmp hb1
   wp_walk using cmp,wpAny_truthy_bool
   exact ⟨plainId_quiet F.plain_min_loop _,LC W hc hK hS k (j+1) _ vb _ wF st' kp' (by rw [hb1]; exact pb) own' λv2 h2 tk2 p2 ke2=>fin v2 h2 tk2 p2 λb o hbw hbS e=>ke2 b o hbw hbS (ke b o hbw e)⟩
theorem W8 {R:Result->Shared->Prop} {I S:Addr} {fp wr:List Addr} {n:Nat} {P:Nat->Value->Prop} {St:Nat->Heap->Prop} {Kp:Heap->Prop} {bt:Nat->Nat->Bool} {c:Nat} (W:Walks prog w A.in1 I fp wr n P St)
  (hc:∀ i j vi vj (s:Shared) (Q:Value->Shared->Prop) (E:Value->Shared->Prop),P i vi->P j vj->Kp s.heap->Q (.bool (bt i j)) s->wpAny (model prog w) A.in1 (richCompare .Lt vi vj) Q E s)
  (hK:∀ h h':Heap,Kp h->(∀ b o,b∉wr->b≠S->h.get? b=some o->h'.get? b=some o)->Kp h') (hS:S∉fp) (hn:0<n) (st:St 0 s.heap) (kp:Kp s.heap) (own:s.heap.get? S=some (Dn [] c))
  (fin:∀ v h' tk,P (argBest bt (n-1)) v->(∀ b o,b∉wr->b≠S->s.heap.get? b=some o->h'.get? b=some o)->R (.ok (.ret v)) { s with heap:=h',toks:=tk }):codeAny (model prog w) A (.builtin "min.loop" ⟨[.ref I,.none,.ref S],[]⟩) R s:=by
 refine Fj F.plain_min_loop F.entry_min_loop ?_
 obtain ⟨h,g,d,tk,os⟩:=s
 have nx:∀ (Q:Option Value->Shared->Prop) (E:Value->Shared->Prop) (f:Value->Sem (Option Value)),(∀ v h' tk',P 0 v->St 1 h'->(∀ b o,b∉wr->h.get? b=some o->h'.get? b=some o)->Q (some v) ⟨h',g,d,tk',os⟩)->wpAny (model prog w) A.in1 ((pyNext (.ref I)).tryCatch f) Q E ⟨h,g,d,tk,os⟩:=λQ E f q=>wpAny_tryCatch (W.item _ _ _ _ hn st q)
 wp_walk using wpAny_seqItems own rfl,nx
 intro v h' tk' pv st' ke
 have own':=ke S _ (λz=>hS (W.sub _ z)) own
 wp_walk using wpAny_updateSeq own' rfl
 have nm:(toString "min" ++ toString ".loop" : String) = "min.loop" := by decide
 rw [nm]
 exact ⟨plainId_quiet F.plain_min_loop _,LC W hc hK hS (n-1) 0 _ v _ wF (W.frame _ _ _ st' λb hbf o e=>(Heap.get?_update_other _ _ (λz:S=b=>hS (by rw [z]; exact hbf))).trans e) (hK _ _ (hK _ _ kp λb o hb _ e=>ke b o hb e) λb o _ hbS e=>(Heap.get?_update_other _ _ (Ne.symm hbS)).trans e) pv (Heap.get?_update_self _ own' rfl) λv2 h2 tk2 p2 ke2=>fin v2 h2 tk2 p2 λb o hbw hbS e=>ke2 b o hbw hbS ((Heap.get?_update_other _ _ (Ne.symm hbS)).trans (ke b o hbw e))⟩
theorem ZB {l:Addr} {its:List Value} {ps:List (Int×Int)} {Q:Value->Shared->Prop} (hh:A.handled=none) (hu:A.in1.units<cLine) (q:s.heap.IsList l its.toArray) (hv:∀ (i:Nat) (v:Value),its[i]?=some v->Hl s.heap v (ps.getD i (0,0))) (hn:ps.length=its.length) (h0:0<ps.length)
  (h:∀ v h' tk,its[argBest (λi j=>AY (ps.getD i (0,0)) (ps.getD j (0,0))) (ps.length-1)]?=some v->(∀ b o,s.heap.get? b=some o->h'.get? b=some o)->Q v { s with heap:=h',toks:=tk }):wpAny (model prog w) A (call (.builtin "min") [.ref l]) Q E s:=by
 obtain ⟨h1,g,d,tk,os⟩:=s
 dsimp only at q hv h
 have hl:l<h1.objs.size:=by obtain ⟨o,e,_⟩:=q; exact Heap.lt_size e
 refine call_function_tree F.kind_min F.plain_min F.entry_min (F.args_min1 (.ref l)) ?_
 have bp:Builtin.Builtins.bindParams "min" ["key","default"] 0 ⟨[],[]⟩=pure [none,none]:=rfl
 wp_walk using wpAny_pyIter_list q
 have nm:(toString "min" ++ toString ".loop" : String) = "min.loop" := by decide
 rw [nm]
 have W:=Walks.list (prog:=prog) (w:=w) (A:=A.in1) hh h1.objs.size l (Nat.ne_of_lt hl) its.toArray
 have ez:its.toArray.size=ps.length:=by simp [hn]
 have up:∀ b o,h1.get? b=some o->((h1.push { cls:=.type "list_iterator",data:=.fields #[.ref l,.int 0 0] }).push { cls:=.type "list",data:=.seq #[] }).get? b=some o:=λb o e=>Heap.get?_push_of_some _ (Heap.get?_push_of_some _ e)
 have es:(h1.push { cls:=.type "list_iterator",data:=.fields #[.ref l,.int 0 0] }).objs.size=h1.objs.size+1:=Heap.size_push ..
 refine ⟨plainId_quiet F.plain_min_loop _,W8 (c:=0) (Kp:=λh'=>∀ b o,h1.get? b=some o->h'.get? b=some o) (bt:=λi j=>AY (ps.getD i (0,0)) (ps.getD j (0,0))) W (λi j vi vj s' Q' E' pi pj kp hq=>?_) (λh2 h3 kp ke b o e=>?_) ?_ (by rw [ez]; exact h0) ⟨⟨_,Heap.get?_push_of_some _ (Heap.get?_push_size _ rfl),rfl,rfl⟩,?_⟩ up (Heap.get?_push_size _ rfl) λv h2 tk2 pv ke=>?_⟩
 ·have BL:∀ {x:Value} {p:Int×Int},Hl h1 x p->Hl s'.heap x p:=λ⟨a,o,n,t,u,e,e1,r⟩=>⟨a,o,n,t,u,e,kp a o e1,r⟩
  exact Xi (BL (hv i vi (by simpa using pi))) (BL (hv j vj (by simpa using pj))) hu hq
 ·have hb:=Heap.lt_size e
  refine ke b o (by simpa using Nat.ne_of_lt hb) (λz=>?_) (kp b o e)
  rw [z] at hb
  have hb:h1.objs.size+1<h1.objs.size:=by rw [<- es]; exact hb
  omega
 ·intro z
  have z:h1.objs.size+1∈[h1.objs.size,l]:=by rw [<- es]; exact z
  rcases List.mem_cons.mp z with z | z
  ·exact Nat.succ_ne_self _ z
  ·have z:=List.mem_singleton.mp z
   rw [<- z] at hl
   exact Nat.lt_irrefl _ (Nat.lt_of_succ_lt hl)
 ·obtain ⟨o,e,r⟩:=q
  exact ⟨o,up _ _ e,r⟩
 ·rw [ez] at pv
  refine h v h2 tk2 (by simpa using pv) λb o e=>ke b o (by simpa using Nat.ne_of_lt (Heap.lt_size e)) (λz=>?_) (up b o e)
  have hb:=Heap.lt_size e
  rw [z] at hb
  have hb:h1.objs.size+1<h1.objs.size:=by rw [<- es]; exact hb
  omega
end
section
variable {X:Cx} {O:Ad} {d:D} {k:Nat}
theorem ZM {ps:List (Int×Int)} (hr:AR k X.A) (h:LV O d (ps.map pD)) (h0:ps≠[]) (hc:X.calm=true:=by rfl):BV X O (.builtin "min") [d] (pD (Fb ps)):=λG pins s σ H vs us Q I r ⟨h1,h2,h3⟩=>by
 cases h2 with | cons i r2=>
 cases r2
 obtain ⟨ad,ws,rfl,q,is⟩:=h.sq h1 i
 obtain ⟨u,rfl,ru⟩:=Dx r
 cases ru
 obtain ⟨its,va,sq,_⟩:=I.list q
 have e1:=is.length
 have e2:=va.length
 rw [List.length_map] at e1
 have hp:=List.length_pos_iff.mpr h0
 have at':∀ i (v:Value),its[i]?=some v->∃ x,ws[i]?=some x/\AV x v/\∃ p,ps[i]?=some p/\Is X.K G (pD p) x:=λi v hv=>by
  have hi:i<ps.length:=by rw [e1,e2]; exact (List.getElem?_eq_some_iff.mp hv).1
  obtain ⟨x,hx,ix⟩:=is.get (i:=i) (d:=pD ps[i]) (by simp [hi])
  obtain ⟨z,hz,rz⟩:=va.get hx
  rw [hv] at hz
  cases hz
  exact ⟨x,hx,rz,ps[i],List.getElem?_eq_getElem hi,ix⟩
 refine ZB (ps:=ps) (I.ok.hd hc) (show X.A.in1.units<cLine from ?_) sq.isList (λi v hv=>?_) wF hp λv h' tk hv kp=>?_
 ·exact X9 hr
 ·obtain ⟨x,hx,rx,p,hpp,ix⟩:=at' i v hv
  rw [List.getD_eq_getElem?_getD,hpp]
  cases ix with
  | tup hh rr=>
  cases rr with | cons j1 rr=>cases rr with | cons j2 rr=>
  cases rr
  cases j1
  cases j2
  cases rx
  obtain ⟨its2,v2,⟨o,g1,g2,n,g3⟩,_⟩:=I.tuple (Dj h1.sub hh)
  obtain ⟨u1,u2,rfl,q1,q2⟩:=Fx v2
  obtain ⟨t,rfl⟩:=q1
  obtain ⟨t',rfl⟩:=q2
  exact ⟨_,o,n,t,t',rfl,g1,g2,g3⟩
 ·obtain ⟨x,hx,rx,p,hpp,ix⟩:=at' _ v hv
  have e:Fb ps=p:=by
   unfold Fb
   rw [List.getD_eq_getElem?_getD,hpp]
   rfl
  rw [e] at h3
  exact ⟨x,H,I.kept kp,rx,h3 _ G H (Ah.refl _) h1 ix⟩
end
section
variable {X:Cx} {ρ:Aj} {O:Ad} {e:Expr} {p p2 pos pos2:Pos}
end
section
variable {X:Cx} {ρ:Aj} {O:Ad} {e:Expr} {es:List Expr} {ds:List D} {R:D->Ad->Prop} {pos p:Pos} {x:Str} {C:Addr}
end
end DL
namespace DL
open PySem PySem.Spec PyProof.Rows L2
section
variable {X:Cx} {ρ:Aj} {O:Ad} {a b:Expr} {pos:Pos}
end
section
variable {X:Cx} {ρ:Aj} {O:Ad} {a e:Expr} {d:D}
end
section
variable {prog:Program} {w:World} {A:Around} {E:Value->Shared->Prop} {s:Shared}
end
section
variable {X:Cx} {O:Ad} {xs:List D}
end
section
variable {X:Cx} {ρ:Aj} {O:Ad} {a b:Expr} {d:D} {pos:Pos}
end
section
variable {X:Cx} {ρ:Aj} {O:Ad} {e a b c st:Expr} {d da db:D} {xs ys:List D} {R:D->Ad->Prop} {pos p p2:Pos} {P:Bg} {q:Nat}
end
section
variable {prog:Program} {w:World} {A:Around} {E:Value->Shared->Prop} {s:Shared}
end
section
variable {X:Cx} {ρ:Aj} {O:Ad} {a st lo:Expr} {xs:List D} {pos p2:Pos}
end
section
variable {X:Cx} {ρ:Aj} {O:Ad} {e:Expr} {C C2:Addr} {x:Str} {p p2 pos:Pos} {R:D->Ad->Prop}
end
section
variable {X:Cx} {ρ:Aj} {O:Ad} {o ix e:Expr} {pos tpos:Pos} {P:Bg} {q:Nat}
end
end DL
namespace DL
open PySem PySem.Spec PyProof.Rows L2 PySem.W
section
variable {prog:Program} {w:World} {A:Around} {E:Value->Shared->Prop} {s:Shared} {n l:Nat} {j:Int} {xs:Array Value} {v:Value}
end
section
variable {X:Cx} {ρ:Aj} {O:Ad} {a:Expr} {pos p:Pos} {xs:List D}
end
section
variable {prog:Program} {w:World} {A:Around} {E:Value->Shared->Prop} {s:Shared} {l:Nat} {k:Int} {t:Tok} {vs:List Value} {ns:List Int}
end
section
variable {X:Cx} {ρ:Aj} {O:Ad} {a e:Expr}
end
end DL
namespace L2
open PySem PySem.Spec PyProof.Rows
def Dt {α:Type}:Sem α->Prop
 | .pure _=>True
 | .raise _=>True
 | .unsupported _=>True
 | .finish _=>True
 | .rule _ k=>Dt (k ())
 | .at _ k=>Dt (k ())
 | .load _ _ k=>∀ o,Dt (k o)
 | .update _ _ f k=>(∀ o:Obj,((f o).dict=o.dict/\ctxOf (f o)=ctxOf o)/\(o.data≠.freed->(f o).data≠.freed))/\Dt (k ())
 | .alloc _ k=>∀ a,Dt (k a)
 | .loadIfAlive _ k=>∀ o,Dt (k o)
 | .point _ k=>Dt (k ())
 | .fresh k=>∀ t,Dt (k t)
 | .ask k=>∀ t,Dt (k t)
 | .handled _ k=>∀ t,Dt (k t)
 | .stack k=>∀ t,Dt (k t)
 | .thread k=>∀ t,Dt (k t)
 | _=>False
section
variable {P:Program} {w:World}
end
section
variable {CX:C7} {P:Program} {w:World} {K:PySem.W.Frag} {mg:Str->Option Value} {base:Heap} {N:List Str} {qual:Str} {scope:Scope} {f:Addr} {cd:Value} {A:Around} {outer:List Env} {s:Shared} {H:Hp} {E:XK}
end
end L2
namespace DL
open PySem PySem.Spec PyProof.Rows L2
abbrev XR:=Addr->List (Str×D)->Ad->Prop
abbrev SpX:=List D->Ad->(D->Ad->Prop)->XR->Prop
abbrev XC:=Addr->List (Str×D)->Aj->Ad->Prop
section
variable {X:Cx} {mk:Prop} {ρ:Aj} {O:Ad} {e a b c o:Expr} {es:List Expr} {d da db:D} {ds:List D} {R:D->Ad->Prop} {RX:XC} {pos p apos:Pos} {x m:Str} {st:Stmt} {rest body orelse:List Stmt} {P:Bg} {C:Addr} {q:Nat} {fs:List (Str×D)}
end
section
variable {P:Program} {w:World} {K:PySem.W.Frag} {mg:Str->Option Value} {base:Heap}
end
end DL
namespace L2
open PySem PySem.Spec PyProof.Rows
section
variable {X:Cx} {pins:List (Addr×Obj)} {σ:St} {H:Hp} {s:Shared}
abbrev Cx.as (X:Cx) (A:Around) (calm:Bool) (pn:List (Addr×Obj)) (E:Value->Shared->Prop):Cx:={ X with A:=A,calm:=calm,pn:=pn,xe:=E }
end
end L2
namespace DL
open PySem PySem.Spec PyProof.Rows L2
abbrev bmV:List Value:=[.type "ValueError",.type "Exception",.type "BaseException",.type "object"]
section
variable {X:Cx} {mk:Prop} {ρ:Aj} {O:Ad} {e a b c o:Expr} {es:List Expr} {d da db:D} {ds:List D} {R:D->Ad->Prop} {RX:XC} {pos p np cpos hpos:Pos} {x y n:Str} {st b₀:Stmt} {rest body suite:List Stmt} {P:Bg} {C CB:Addr} {fs:List (Str×D)}
end
end DL
namespace L2
open PySem PySem.Spec PyProof.Rows Builtin.ObjectAttr Builtin.Getset_descriptor
section
variable {prog:Program} {w:World} {A:Around} {E:Value->Shared->Prop} {s:Shared} {K:PySem.W.Frag} {x C:Addr} {n:Str}
end
end L2
namespace DL
open PySem PySem.Spec PyProof.Rows L2
section
variable {X:Cx} {ρ:Aj} {O:Ad} {e:Expr} {es:List Expr} {p p2 pos:Pos} {x:Str} {C C2:Addr} {q:Nat} {fs:List (Str×D)} {k:Bool} {x1:Nat}
end
end DL
namespace L2
open PySem PySem.Spec PyProof.Rows
section
variable {X:Cx} {tg a b c:Expr} {p pos:Pos}
end
end L2
namespace DL
open PySem PySem.Spec PyProof.Rows L2
section
variable {X:Cx} {ρ:Aj} {O:Ad} {a b c:Expr} {p pos:Pos} {P:Bg} {st:Stmt} {rest:List Stmt}
end
end DL
namespace L2
open PySem PySem.Spec PyProof.Rows Builtin.ObjectAttr
open DL (bmV)
section
variable {prog:Program} {w:World} {A:Around} {s:Shared} {K:PySem.W.Frag} {C f N:Addr} {nm q:Str} {bs bm:List Value} {hdct:Bool} {sn:List Str} {sub:List Value} {ab:Bool} {col:Option Bool} {dd:Option Addr} {k0 k1 k2 k3 k5:Option Value}
end
end L2
namespace L2
open PySem PySem.Spec PyProof.Rows Builtin.ObjectAttr DL
section
variable {X:Cx} {pins:List (Addr×Obj)} {σ:St} {H:Hp} {s:Shared} {C f a t:Addr} {name:Str}
end
end L2
namespace L2
open PySem PySem.Spec PyProof.Rows Builtin.ObjectAttr DL
section
variable {P:Program} {w:World} {K:PySem.W.Frag} {mg:Str->Option Value} {base:Heap} {C f:Addr} {name sn nn qual:Str} {st:Stmt} {fd:FuncData} {p1 p2 p3 p4:Pos}
end
end L2
namespace DL
open PySem PySem.Spec PyProof.Rows L2
section
variable {X:Cx} {mk:Prop} {ρ:Aj} {O:Ad} {e:Expr} {d:D} {RX:XC} {pos np cpos:Pos} {x name:Str} {P:Bg} {C:Addr} {k:Nat}
end
end DL
namespace L2
open PySem PySem.Spec PyProof.Rows Builtin.ObjectAttr
section
variable {prog:Program} {w:World} {A:Around} {E:Value->Shared->Prop} {s:Shared} {K:PySem.W.Frag} {x C:Addr} {n:Str} {ox od:Obj} {u:Value}
end
end L2
namespace DL
open PySem PySem.Spec PyProof.Rows L2
section
variable {X:Cx} {ρ:Aj} {O:Ad} {e:Expr} {d:D} {pos:Pos} {f:Str} {C:Addr} {q:Nat} {fs:List (Str×D)}
end
section
variable {P:Program} {w:World} {K:PySem.W.Frag} {mg:Str->Option Value} {base:Heap} {C:Addr} {k:Nat} {x m:Str} {sp:SpX}
end
end DL
namespace L2
open PySem PySem.Spec PyProof.Rows
end L2
namespace DL
open PySem PySem.Spec PyProof.Rows L2
section
variable {X:Cx} {O:Ad}
end
section
variable {X:Cx} {mk:Prop} {ρ:Aj} {O:Ad} {P:Bg} {RX:XC} {pos:Pos}
end
section
variable {X:Cx} {O:Ad} {da db ea eb:D} {k:Nat} {v:Value}
end
section
variable {X:Cx} {ρ:Aj} {O:Ad} {value o ix:Expr} {P:Bg} {pos tpos:Pos} {q j:Nat} {i:Int} {xs:List D}
end
end DL
namespace L2
open PySem PySem.Spec PyProof.Rows
def Jp (n:Int):Str:=if n=1 then "0" else ⟨(List.replicate n.toNat (("0" : Str).cps)).foldl (·++·) #[]⟩
end L2
namespace DL
open PySem PySem.Spec PyProof.Rows L2
section
variable {X:Cx} {ρ:Aj} {O:Ad} {a e:Expr} {d:D}
end
section
variable {X:Cx} {ρ:Aj} {O:Ad} {elt tg iter:Expr} {ifs:List Expr} {scope:Scope} {pos:Pos} {xs:List D} {zs:List (Option D)}
end
section
variable {X:Cx} {ρ:Aj} {O:Ad} {P:Bg} {pos:Pos}
variable {α:Type} {ps:List α} {f g:α->D} {h:α->Option D} {tg iter elt:Expr} {ifs:List Expr} {scope:Scope}
end
section
variable {P:Program} {w:World} {K:PySem.W.Frag} {mg:Str->Option Value} {base:Heap}
end
section
variable {prog:Program} {w:World} {A:Around} {E:Value->Shared->Prop} {s:Shared}
end
section
variable {X:Cx} {O:Ad}
end
section
variable {X:Cx} {mk:Prop} {ρ:Aj} {O:Ad} {value o:Expr} {RX:XC} {pos pos':Pos} {f:Str} {P:Bg} {C:Addr} {q:Nat} {fs:List (Str×D)}
end
end DL
namespace DL
open PySem PySem.Spec PyProof.Rows L2 PySem.SeqAt PySem.MeetsSeq
section
variable {X:Cx} {ρ:Aj} {O:Ad} {a e:Expr} {d:D}
end
end DL
namespace DL
open PySem PySem.Spec PyProof.Rows L2 PySem.W
section
variable {prog:Program} {w:World} {A:Around} {s:Shared} {E:Value->Shared->Prop} {it:Addr} {Ty:String}
end
section
variable {prog:Program} {w:World} {A:Around} {s:Shared} {E:Value->Shared->Prop} {it l:Addr} {i:Int}
end
section
variable {X:Cx} {ρ:Aj} {O:Ad} {a:Expr} {pos p pos2 p2:Pos} {xs:List D}
end
end DL
namespace L2
open PySem PySem.Spec PyProof.Rows
section
variable {X:Cx} {tg a b c:Expr} {p pos:Pos}
end
end L2
namespace DL
open PySem PySem.Spec PyProof.Rows L2
section
variable {X:Cx} {ρ:Aj} {O:Ad} {a b c:Expr} {p pos:Pos} {P:Bg} {st:Stmt} {rest:List Stmt}
end
section
variable {X:Cx} {ρ:Aj} {O:Ad} {a b e:Expr} {pos:Pos} {P:Bg} {d da db ea eb:D} {k:Nat} {xs:List D}
end
section
variable {X:Cx} {ρ:Aj} {O:Ad} {a b e:Expr} {pos p:Pos} {d:D} {x y:Str}
end
section
variable {X:Cx} {ρ:Aj} {O:Ad} {a b e:Expr} {pos p:Pos} {d:D} {x y sep:Str}
end
section
variable {X:Cx} {ρ:Aj} {O:Ad} {pos:Pos} {x y:Str}
end
end DL
namespace L2
open PySem PySem.Spec PyProof.Rows
section
variable {prog:Program} {w:World} {A:Around} {E:Value->Shared->Prop}
end
end L2
namespace DL
open PySem PySem.Spec PyProof.Rows L2
section
variable {X:Cx} {ρ ρ1:Aj} {O:Ad} {e a b:Expr} {es:List Expr} {d da:D} {ds xs:List D} {R:D->Ad->Prop} {P:Bg} {pos p:Pos} {x:Str} {q:Nat} {v:Value}
end
section
variable {X:Cx} {ρ:Aj} {O:Ad} {e a b c:Expr} {d da db y:D} {ks:List A0} {xs:List D} {k:A0} {j q:Nat} {R:D->Ad->Prop} {P:Bg} {pos apos cpos tpos:Pos}
end
section
variable {X:Cx} {ρ:Aj} {O:Ad} {a b e:Expr} {pos p:Pos} {d:D} {ks:List A0} {xs:List D}
end
section
variable {X:Cx} {ρ:Aj} {O:Ad} {a b e:Expr} {elts:List Expr} {x1:Nat} {pos p tp apos cpos:Pos} {d:D} {ks:List A0} {xs:List D}
end
mutual
def sbD (n:Nat) (e:D):D->D
 | .ptr m=>if m=n then e else .ptr m
 | .tup xs=>.tup (Ox n e xs)
 | .non=>.non | .bl b=>.bl b | .int i=>.int i | .str x=>.str x | .lst xs=>.lst xs | .scr xs=>.scr xs | .ty t=>.ty t | .fn a=>.fn a | .dct ks xs=>.dct ks xs
def Ox (n:Nat) (e:D):List D->List D
 | []=>[]
 | x::xs=>sbD n e x::Ox n e xs
end
section
variable {X:Cx} {ρ:Aj} {O:Ad} {rest:List Stmt} {P:Bg} {n q:Nat} {ks:List A0} {xs:List D} {d:D} {C:Addr} {fs:List (Str×D)} {f:Str}
end
end DL
namespace DL
open PySem PySem.Spec PyProof.Rows L2 PySem.W
section
variable {prog:Program} {w:World} {A:Around} {s:Shared} {E:Value->Shared->Prop} {T:String} {r d:Addr} {n:Nat} {P:Nat->Value->Prop} {OK:Heap->Prop}
end
section
variable {X:Cx} {ρ:Aj} {O:Ad} {a b e:Expr} {pos p apos cpos:Pos} {d da:D} {ks:List A0} {xs:List D} {R:D->Ad->Prop}
end
instance:Inhabited Str:=⟨⟨#[]⟩⟩
section
variable {X:Cx} {ρ:Aj} {O:Ad} {e:Expr} {pos p:Pos} {da:D} {ps:List Str} {xs:List D}
end
section
variable {X:Cx} {ρ:Aj} {O:Ad} {a e:Expr} {pos apos cpos:Pos} {q:Nat} {ps:List Str} {x:Str} {P:Bg} {ks:List A0} {xs:List D}
end
section
variable {X:Cx} {ρ:Aj} {O:Ad} {value o:Expr} {pos pos':Pos} {q:Nat} {C:Addr} {fs:List (Str×D)} {f:Str} {P:Bg}
theorem MN (hv:Ev X ρ O value λd O'=>Ae X ρ O' o (.ptr q)/\O'[q]?=some (some (.ins C fs))/\P.nx ρ (O'.set q (some (.ins C (A9 f d fs))))) (c:A7 X.K C) (n:Ap X.K C f) (hz:fs.length<1000) (hs:swapsWith value (some (.Attribute o f pos')) pos.line X.env=pure false:=by rfl) :
  Ex X ρ O (.Assign [.Attribute o f pos'] value pos) P:=λG pins s σ H E I ⟨h1,h2,h3⟩=>by
 refine plainObj_wpAny_Assign_Attribute (Ar (hv G pins s σ H (λv H1=>∃ d O1 G1,Ah G G1/\SA X.K G1 H1 O1/\Is X.K G1 d v/\Ae X ρ O1 o (.ptr q)/\O1[q]?=some (some (.ins C fs))/\P.nx ρ (O1.set q (some (.ins C (A9 f d fs))))) I ⟨h1,h2,λv d O' G' H' e s i r=>⟨d,O',G',e,s,i,r⟩⟩) λu s1 ⟨y,H1,I1,ry,d,O1,G1,e1,sa1,i1,ho,hq,h⟩=>
  Ar (ho G1 pins s1 σ H1 (λv H2=>∃ G2,Ah G1 G2/\SA X.K G2 H2 O1/\Is X.K G2 (.ptr q) v) I1 ⟨sa1,h2.ext e1,λv G' H' e s i=>⟨G',e,s,i⟩⟩) λov s2 ⟨x,H2,I2,rx,G2,e2,sa2,i2⟩=>?_) hs
 obtain ⟨a,dx,vs,rfl,g1,g2,g3⟩:=sa2.ins i2 hq
 obtain rfl:ov=Value.ref a:=rx
 refine Of I2 g2 c n (by rw [<- g3.len]; exact hz) ry λs3 I3=>⟨σ,_,I3,?_⟩
 exact h3.nx σ ρ _ G2 _ (e1.trans e2) (sa2.put (m':=.ins C (A9 f d fs)) hq g1 ⟨dx,_,BF,g3.put (i1.ext e2)⟩) (h2.ext (e1.trans e2)) h
end
section
variable {X:Cx} {ρ:Aj} {O:Ad} {e:Expr} {qs:List Str} {xs:List D}
end
section
variable {X:Cx} {ρ:Aj} {O:Ad}
end
section
variable {X:Cx} {ρ:Aj} {O:Ad} {a:Expr} {pos apos cpos:Pos} {q:Nat} {ks:List A0} {xs:List D} {P:Bg}
end
end DL
namespace L2
open PySem PySem.Spec PyProof.Rows
end L2
namespace DL
open PySem PySem.Spec PyProof.Rows L2
end DL
namespace DL
open PySem PySem.Spec PyProof.Rows L2 PySem.W
section
variable {X:Cx} {O:Ad} {da db ea:D} {k:Nat} {xs:List D}
end
section
variable {X:Cx} {ρ:Aj} {O:Ad} {a e:Expr} {pos apos cpos:Pos} {q:Nat} {xs:List D} {P:Bg}
theorem Jr (ho:Ae X ρ O a (.ptr q)) (he:Ev X ρ O e λd O'=>O'[q]?=some (some (.lst xs))/\P.nx ρ (O'.set q (some (.lst (xs++[d]))))) (hq:O[q]?=some (some (.lst xs))) (hz:xs.length<sizeLine)
  (hbase:attributeBase a ("append" : Str) X.env (eval a X.env)=eval a X.env:=by rfl) (hline:(apos.endLine==cpos.line)=true:=by rfl) (hst:starEach [e] X.env=[(false,eval e X.env)]:=by rfl)
  (hsw:swapsWith (.Call (.Attribute a ("append" : Str) apos) [e] [] cpos) none pos.line X.env=pure false:=by rfl):Ex X ρ O (.Expr (.Call (.Attribute a ("append" : Str) apos) [e] [] cpos) pos) P:=λG=>
 PS.imp (Ln (OZ PySem.F.plainAttrs_list PySem.F.slot_list_append PySem.F.type_list_append Pp (ho G)
  (FY (te:=λσ H Q=>∃ G1,SA X.K G1 H O/\AH X.K G1 σ ρ/\∀ v d O' G' H',Ah G1 G'->SA X.K G' H' O'->Is X.K G' d v->(O'[q]?=some (some (.lst xs))/\P.nx ρ (O'.set q (some (.lst (xs++[d])))))->Q v H') (λpins s σ H Q I ⟨G1,q⟩=>he G1 pins s σ H Q I q) Io hst) hbase
  (by rw [hst]; rfl) hline hst (by rfl)) hsw) λE σ H ⟨q1,q2,q3⟩=>⟨q1,q2,λv G1 H1 e1 s1 i1=>by
   cases i1 with
   | ptr _ ha=>
   obtain ⟨a1,g0,g1,vs,g2,g3⟩:=s1.mt q _ hq
   obtain rfl:=Option.some.inj (ha.symm.trans g0)
   refine ⟨.inl ⟨rfl,vs,Ba.of g2⟩,G1,s1,q2.ext e1,λw d O' G2 H2 e2 s2 i2 ⟨hq2,h⟩=>?_⟩
   obtain ⟨a2,g7,g4,us,g5,g6⟩:=s2.mt q _ hq2
   obtain rfl:=Option.some.inj ((e2.at g0).symm.trans g7)
   refine ⟨_,us,w,rfl,rfl,g5,by rw [<- g6.length]; exact hz,?_⟩
   exact q3.nx σ ρ _ G2 _ (e1.trans e2) (s2.put (m':=.lst (xs++[d])) hq2 g7 ⟨_,BF,g6.append (.cons i2 .nil)⟩) (q2.ext (e1.trans e2)) h⟩
end
section
variable {X:Cx} {ρ:Aj} {O:Ad} {e a b c:Expr} {body:List Stmt} {d da db:D} {xs:List D} {ks:List A0} {ps:List Str} {R:D->Ad->Prop} {P:Bg} {pos p:Pos} {j n:Nat}
end
section
variable {X:Cx} {ρ:Aj} {O:Ad} {e a b c iter tg:Expr} {st:Stmt} {body rest:List Stmt} {d da db:D} {xs:List D} {ks:List A0} {k:A0} {ob:Obj} {vs:List V} {ps:List Str} {R:D->Ad->Prop} {P:Bg} {pos p:Pos} {j n:Nat}
end
section
variable {X:Cx} {O:Ad} {da db:D} {ks:List A0} {ns:List Int} {j:Nat}
end
section
variable {X:Cx} {ρ:Aj} {O:Ad} {a:Expr} {da:D} {xs:List D} {ks:List A0} {pos:Pos}
end
mutual
def ndD:D->Bool
 | .dct _ _=>false
 | .tup xs=>Iw xs
 | .lst xs=>Iw xs
 | .scr xs=>Iw xs
 | .non=>true | .bl _=>true | .int _=>true | .str _=>true | .ptr _=>true | .ty _=>true | .fn _=>true
def Iw:List D->Bool
 | []=>true
 | x::xs=>ndD x&&Iw xs
end
section
variable {K:PySem.W.Frag} {G:Wd} {p:Addr} {ob:Obj} {kvs:List (A0×V)}
end
section
variable {X:Cx} {ρ:Aj} {O:Ad} {e a b:Expr} {d d0:D} {xs:List D} {ks:List A0} {k:A0} {R:D->Ad->Prop} {pos:Pos} {n:Nat}
end
section
variable {X:Cx} {ρ:Aj} {O:Ad} {a b:Expr} {d da db:D} {ks:List A0} {k:A0} {ns:List Int} {R:D->Ad->Prop} {pos:Pos} {j:Nat}
end
section
variable {X:Cx} {ρ:Aj} {O:Ad} {e a b:Expr} {d:D} {xs:List D} {ks:List A0} {R:D->Ad->Prop} {RT:Bool->Ad->Prop} {pos:Pos} {n:Nat}
end
end DL
namespace L2
open PySem PySem.Spec PyProof.Rows
section
variable {M:Model} {A:Around} {E:Value->Shared->Prop} {s:Shared} {B:Heap} {l:List Env} {a:Addr} {cls a0:Value}
end
section
variable {CX:C7} {P:Program} {w:World} {K:PySem.W.Frag} {mg:Str->Option Value} {base:Heap} {N:List Str} {qual:Str} {scope:Scope} {f:Addr} {cd:Value} {A:Around} {outer:List Env} {s:Shared} {H:Hp} {E:XK}
end
end L2
namespace DL
open PySem PySem.Spec PyProof.Rows L2
section
variable {X:Cx} {N:List Str} {scope:Scope} {s2 s9 s10:Shared} {H2 H9 H':Hp} {fp:List Addr} {F:Value->Shared->Prop} {pins pinsY:List (Addr×Obj)} {σ σ9:L2.St} {a C:Addr} {od:Option Addr} {B:Heap} {Q:Value->Shared->Prop} {acc:Value}
end
section
variable {X:Cx} {ρ:Aj} {O:Ad} {elt tg iter:Expr} {scope:Scope} {pos:Pos} {xs zs:List D} {RX:XC}
end
section
variable {X:Cx} {ρ:Aj} {O:Ad} {e c elt tg iter:Expr} {scope:Scope} {pos p:Pos} {xs:List D} {RX:XC} {st:Stmt} {rest body orelse:List Stmt} {P:Bg} {R:D->Ad->Prop}
end
section
variable {P:Program} {w:World} {K:PySem.W.Frag} {mg:Str->Option Value} {base:Heap}
end
section
variable {prog:Program} {w:World} {A:Around} {E:Value->Shared->Prop} {s:Shared}
end
section
variable {X:Cx} {O:Ad} {d:D} {q:Nat} {C ah:Addr} {fs:List (Str×D)}
end
end DL
namespace L2
open PySem PySem.Spec PyProof.Rows
end L2
namespace DL
open PySem PySem.Spec PyProof.Rows L2
section
variable {X:Cx} {ρ:Aj} {O:Ad} {a b a2 b2:Expr} {d d2:D} {k k2:A0} {R:D->Ad->Prop} {pos:Pos}
end
end DL
namespace DL
open PySem PySem.Spec PyProof.Rows L2 PySem.W
section
open PySem.AutoSeq1 (wpAny_loadPart')
open PySem.SeqAt PySem.MeetsSeq PySem.MeetsSeq2 PySem.MeetsSeq3 PySem.SeqRoads2
end
section
variable {X:Cx} {ρ:Aj} {O:Ad} {da db:D} {ks:List A0} {ns:List Int} {j:Nat} {ts:List D}
end
end DL
namespace DL
open PySem PySem.Spec PyProof.Rows L2
section
variable {X:Cx} {ρ:Aj} {O:Ad} {da ea:D} {xs:List D} {k:Nat} {es:List Expr} {R:D->Ad->Prop} {pos:Pos}
end
section
variable {P:Program} {w:World} {K:PySem.W.Frag} {mg:Str->Option Value} {base:Heap} {C:Addr} {j k:Nat} {x m:Str} {sp sp':AQ}
theorem Al.mono (M:Al P w K mg base C j m sp) (h:j<=k):Al P w K mg base C k m sp:=let ⟨f,fd,ps,h1,h2⟩:=M.ex; ⟨⟨f,fd,ps,h1.mono h,h2⟩,M.cls⟩
end
section
variable {X:Cx} {mk:Prop} {ρ:Aj} {O:Ad} {x y:Str} {f:Addr} {p pos:Pos} {e:Expr} {es:List Expr} {ds:List D} {R:D->Ad->Prop} {RX:XC}
end
end DL
set_option maxHeartbeats 2000000
namespace DL
open PySem PySem.Spec PyProof.Rows L2 PySem.W
section
variable {prog:Program} {w:World} {A:Around} {E:Value->Shared->Prop} {s:Shared} {n l1 l2 l3 i1 i2 i3:Nat} {k1 k2 k3:Bool} {xs ys zs:Array Value} {f0 f1 a b c v:Value}
end
section
variable {prog:Program} {w:World} {A:Around} {E:Value->Shared->Prop} {s:Shared} {n l1 l2 l3 i1 i2 i3 i:Nat} {k1 k2 k3:Bool} {xs ys zs:Array Value} {f0 f1 a b c v:Value}
end
section
variable {X:Cx} {ρ:Aj} {O:Ad} {a b c:Expr} {da db dc:D} {pos p:Pos} {xs ys zs:List D}
end
end DL
set_option maxHeartbeats 1000000
namespace DL
open PySem PySem.Spec PyProof.Rows L2
section
variable {X:Cx} {ρ:Aj} {O:Ad} {elt tg iter:Expr} {scope:Scope} {pos:Pos} {xs zs:List D}
theorem Zn (S:Nat->Ad) (hS0:S 0=O) (N:List Str) (js:List Nat) (ρ0:Aj) (hi:Ci X ρ O tg iter xs) (hc:X.calm=true) (hk:scope.kind=.function) (hfr:Hw X scope) (hnm:∀ x∈scope.names,x.2=.local->scope.names.lookup x.1=some .local)
  (hl0:ρ0.length=N.length)
  (h0:∀ (i:Nat) (d:D),ρ0[i]?=some (some d)->∃ (x:Str) (j:Nat),N[i]?=some x/\scope.names.lookup x=some .free/\(∀ y∈scope.names,y.1=x->y.2≠.cell)/\X.N[j]?=some x/\ρ[j]?=some (some d)/\Em X.env.scope x)
  (hzl:zs.length=xs.length) (hsz:xs.length<=sizeLine)
  (turn:∀ (s:Shared) (H:Hp) (fp:List Addr) (i:Nat) (x:D) (z:D),xs[i]?=some x->zs[i]?=some z->∃ ρ1,Tg (Dg X N scope s H fp) tg x ρ0 ρ1/\ρ1.length=ρ0.length/\(∀ (j:Nat) (d:D),ρ0[j]?=some (some d)->ρ1[j]?=some (some d))/\Ev (Dg X N scope s H fp) ρ1 (S i) elt λd O'=>d=z/\O'=S (i+1))
  {use:Option (Value->Sem Unit)} {pins:List (Addr×Obj)} {s:Shared} {σ:L2.St} {H:Hp} {G:Wd} {Q:Value->Shared->Prop} (I:L2.Inv X pins σ H s) (sa:SA X.K G H O) (en:AH X.K G σ ρ)
  (fin:∀ (D C:Addr) (s':Shared) (H5:Hp) (G5:Wd) (vs:List V),L2.Inv X pins σ (AN H5 D (.lst vs)) s'->Ah G G5->SA X.K G5 H5 (S xs.length)->H5 D=none->Am X.K G5 zs vs->Cg X pins (AN H5 D (.lst vs)) C->(∃ m,s'.heap.Ns C m)->compPost (model X.prog X.w) X.A X.xe use Q (.ref D) C (.ok .next) s')
  (hs:∀ x,foldedSetIterable iter X.env x=pure x:=by intro _; rfl) :
  wpAny (model X.prog X.w) X.A (comprehension (.ListComp elt [⟨tg,iter,[],0⟩] scope pos) scope X.env (firstIterPos [⟨tg,iter,[],0⟩] pos) (newList []) false (eval iter X.env) use) Q X.xe s:=by
 have efm:(zs.map some).filterMap id=zs:=by rw [List.filterMap_map]; exact List.filterMap_some
 refine QD (zs:=zs.map some) S hS0 N js ρ0 hi hc hk hfr hnm hl0 h0 (by rw [List.length_map]; exact hzl) hsz (λs H fp i x z q1 q2=>?_) I sa en (λD C s' H5 G5 vs I5 e5 sa5 hD is5 f5 n5=>fin D C s' H5 G5 vs I5 e5 sa5 hD (by rw [efm] at is5; exact is5) f5 n5) hs
 rw [List.getElem?_map] at q2
 obtain ⟨y,hy,rfl⟩:=Option.map_eq_some_iff.mp q2
 obtain ⟨ρ1,t1,t2,t3,t4⟩:=turn s H fp i x y q1 hy
 exact ⟨ρ1,t1,t2,t3,y,rfl,t4⟩
def Rg (X:Cx) (T F:List Str) (js:List Nat) (ρ:Aj) (Oa Ob:Ad) (scope:Scope) (tg elt:Expr) (x z:D):Prop:=
 ∀ (s:Shared) (H:Hp) (fp:List Addr),∃ ts:Aj,ts.length=T.length/\Tg (Dg X (T++F) scope s H fp) tg x (T.map (λ_=>(none:Option D))++Cw ρ js) (ts++Cw ρ js)/\Ev (Dg X (T++F) scope s H fp) (ts++Cw ρ js) Oa elt λd O'=>d=z/\O'=Ob
theorem YL {R:D->Ad->Prop} (S:Nat->Ad) (hS0:S 0=O) (T F:List Str) (js:List Nat) (hi:Ci X ρ O tg iter xs) (hzl:zs.length=xs.length) (hsz:xs.length<=sizeLine) (turn:∀ (i:Nat) (x z:D),xs[i]?=some x->zs[i]?=some z->Rg X T F js ρ (S i) (S (i+1)) scope tg elt x z) (hR:R (.lst zs) (S xs.length))
  (hfl:F.length=js.length) (hB:C1 X.N X.env.scope.names scope.names F js=true) (hc:X.calm=true) (hk:scope.kind=.function) (hs:∀ x,foldedSetIterable iter X.env x=pure x) :
  Ev X ρ O (.ListComp elt [⟨tg,iter,[],0⟩] scope pos) R:=λG pins s σ H Q I ⟨h1,h2,h3⟩=>by
 rw [eval_ListComp]
 refine Zn S hS0 (T++F) js (T.map (λ_=>(none:Option D))++Cw ρ js) hi hc hk (LX hB) (LW hB) (by simp [Cw,hfl]) (LY hB) hzl hsz (λs H fp i x z q1 q2=>?_) I h1 h2 (λdd C s' H5 G5 vs I' e' sa5 hd5 is5 fo ns=>?_) hs
 ·obtain ⟨ts,t1,t2,t3⟩:=turn i x z q1 q2 s H fp
  obtain ⟨u1,u2⟩:=JH (fr:=Cw ρ js) t1
  exact ⟨_,t2,u1,u2,t3⟩
 ·obtain ⟨m,hn⟩:=ns
  refine ⟨m,hn,λh' hs'=>?_⟩
  obtain ⟨f0,f1,f2,f3,f4,f5⟩:=fo
  obtain ⟨e2,s2⟩:=sa5.laid (o:=.lst vs) hd5
  exact ⟨.ref dd,AN H5 dd (.lst vs),I'.turned (t':=s'.toks) (λb o hb e=>(hs'.2 b hb).trans e) f0 f1 f3 f4 f5,rfl,h3 _ _ _ _ _ (e'.trans e2) s2 (.lst BF (is5.ext e2)) hR⟩
end
section
variable {X:Cx} {ρ:Aj} {O:Ad} {e:Expr} {es:List Expr} {R:D->Ad->Prop} {x:Str} {p pos:Pos}
theorem YN {T:String} (hm:X.mg x=none) (ha:Fs X ρ O (e::es) λds O1=>∃ d,BV X O1 (.type T) ds d/\R d O1) (hg:Gl X x:=by rfl) (hv:bootBuiltins x=some (.type T):=by first | rfl | decide +kernel) (hn:x ≠ "__name__" := by decide) (hdb:(x==("__debug__" : Str))=false:=by decide)
  (he:starEach (e::es) X.env=(false,eval e X.env)::starEach es X.env:=by rfl) (hpl:(backTo pos (starEach es X.env)).any (·.1)=false:=by rfl):Ev X ρ O (.Call (.Name x p) (e::es) [] pos) R:=λG=>
 PE.imp (OX (r:=λvs H Q=>∃ G1 O1 ds d,SA X.K G1 H O1/\Am X.K G1 ds vs/\BV X O1 (.type T) ds d/\∀ w G' H',Ah G1 G'->SA X.K G' H' O1->Is X.K G' d w->Q w H') (λpins s σ H xs us Q I r ⟨G1,O1,ds,d,q1,q2,hc,q3⟩=>hc G1 pins s σ H xs us Q I r ⟨q1,q2,q3⟩) hg hm hv (ha G) hn hdb he hpl)
  λσ H Q ⟨h1,h2,h3⟩=>⟨h1,h2,λvs ds O1 G1 H1 e1 s1 i1 ⟨d,hc,hR⟩=>⟨G1,O1,ds,d,s1,i1,hc,λw G2 H2 e2 s2 i2=>h3 w d O1 G2 H2 (e1.trans e2) s2 i2 hR⟩⟩
end
section
variable {X:Cx} {ρ:Aj} {O:Ad} {pos:Pos} {R:D->Ad->Prop}
variable {α:Type} {ps:List α} {f:α->D} {tg iter elt:Expr} {scope:Scope}
theorem YK (g:Nat->D) (S:Nat->Ad) (hS0:S 0=O) (T F:List Str) (js:List Nat) (hi:Ci X ρ O tg iter (ps.map f)) (hsz:ps.length<=sizeLine) (turn:∀ (i:Nat) (q:α),ps[i]?=some q->Rg X T F js ρ (S i) (S (i+1)) scope tg elt (f q) (g i)) (hR:R (.lst ((List.range ps.length).map g)) (S ps.length))
  (hfl:F.length=js.length:=by rfl) (hB:C1 X.N X.env.scope.names scope.names F js=true:=by first | rfl | decide +kernel) (hc:X.calm=true:=by rfl) (hk:scope.kind=.function:=by rfl) (hs:∀ x,foldedSetIterable iter X.env x=pure x:=by intro _; rfl) :
  Ev X ρ O (.ListComp elt [⟨tg,iter,[],0⟩] scope pos) R:=
 YL (zs:=(List.range ps.length).map g) S hS0 T F js hi (by rw [List.length_map,List.length_range,List.length_map]) (by rw [List.length_map]; exact hsz) (λi x z q1 q2=>by
  rw [List.getElem?_map] at q1 q2
  obtain ⟨q,hq,rfl⟩:=Option.map_eq_some_iff.mp q1
  obtain ⟨j,hj,rfl⟩:=Option.map_eq_some_iff.mp q2
  have hi:=(List.getElem?_eq_some_iff.mp hq).1
  rw [List.getElem?_range hi] at hj
  cases hj
  exact turn i q hq) (by rw [List.length_map]; exact hR) hfl hB hc hk hs
end
end DL
namespace DL
open PySem PySem.Spec PyProof.Rows L2 PySem.W
section
variable {X:Cx} {ρ:Aj} {O:Ad} {e:Expr} {p p2 pos pos2:Pos}
variable {R:D->Ad->Prop}
end
section
variable {X:Cx} {ρ:Aj} {O:Ad} {e a b c:Expr} {body:List Stmt} {d da db:D} {xs:List D} {ks:List A0} {ps:List Str} {R:D->Ad->Prop} {P:Bg} {pos p:Pos} {j n:Nat}
end
end DL
namespace DL
open PySem PySem.Spec PyProof.Rows L2
section
variable {X:Cx} {ρ:Aj} {O:Ad} {e:Expr} {es:List Expr} {R:D->Ad->Prop} {x:Str} {C:Addr} {p pos:Pos}
theorem Qi {k:Nat} {sp:AQ} (M:CI X.prog X.w X.K X.mg X.base C k x sp) (hr:AR (k+1) X.A) (ha:Fs X ρ O (e::es) λds O1=>sp (.ptr O1.length::ds) (O1++[some (.ins C [])]) λd O'=>d=.non/\R (.ptr O1.length) O')
  (hg:Gl X x:=by rfl) (hdb:(x==("__debug__" : Str))=false:=by decide) (he:starEach (e::es) X.env=(false,eval e X.env)::starEach es X.env:=by rfl) (hpl:(backTo pos (starEach es X.env)).any (·.1)=false:=by rfl) :
  Ev X ρ O (.Call (.Name x p) (e::es) [] pos) R:=λG pins s σ H Q I ⟨h1,h2,h3⟩=>by
 obtain ⟨f,fd,ps,g1,g2,g3⟩:=M.ex
 refine OT g2 g1 hr hg M.at_ g3 .nil FX (ha G) hdb he hpl pins s σ H Q I ⟨h1,h2,λvs ds O1 G1 H1 e1 s1 i1 hs=>λy dx k1 k2 k3=>?_⟩
 obtain ⟨e2,s2⟩:=made (C:=C) s1 k1 k2 k3
 have iy:Is X.K ⟨G1.g,G1.l++[y]⟩ (.ptr O1.length) (.ref y):=.ptr _ (by rw [<- s1.len,List.getElem?_append_right (Nat.le_refl _),Nat.sub_self]; rfl)
 show AJ X.K sp (V.ref y::(vs++[])) _ _ E0
 rw [List.append_nil]
 refine ⟨_,_,.ptr O1.length::ds,_,s2,.cons iy (i1.ext e2),hs,λv d O' G' H' e3 s3 i3 r3=>?_⟩
 obtain ⟨rfl,r⟩:=r3
 cases i3
 exact ⟨rfl,h3 _ _ O' G' H' ((e1.trans e2).trans e3) s3 (iy.ext e3) r⟩
end
end DL
set_option maxHeartbeats 4000000
namespace My
open PySem PySem.Spec PyProof.Rows L2 DL
def top (i:Nat):Stmt:=PySem.Challenge.pw_heedwise_k91_whole_hurt_within_bounds.main.body.getD i (.Pass ⟨0,0,0,0⟩)
abbrev Kc:Stmt:=top 7
abbrev Q0g:List Str:=["many","scale"]
theorem S1:AB Q0g ["many","scale"] (An Kc):=by constructor <;> first | rfl | decide +kernel
abbrev J6:Stmt:=top 8
abbrev Q0a:List Str:=["hand","many_turns","runner","said","turns","number","so"]
theorem FQ:AB Q0a ["hand","many_turns"] (An J6):=by constructor <;> first | rfl | decide +kernel
abbrev Kw:Stmt:=top 10
abbrev Q0A:List Str:=["value"]
theorem S8:AB Q0A ["value"] (An Kw):=by constructor <;> first | rfl | decide +kernel
abbrev Kb:Stmt:=top 11
abbrev Q0f:List Str:=["base","exponent","product","step"]
theorem HU:AB Q0f ["base","exponent"] (An Kb):=by constructor <;> first | rfl | decide +kernel
abbrev KD:Stmt:=top 12
abbrev Q0H:List Str:=["weights"]
theorem Ti:AB Q0H ["weights"] (An KD):=by constructor <;> first | rfl | decide +kernel
abbrev Kg:Stmt:=top 13
abbrev Q0k:List Str:=["numbers","weights","shares","whole","reached","number","share"]
theorem EV:AB Q0k ["numbers","weights"] (An Kg):=by constructor <;> first | rfl | decide +kernel
abbrev KF:Stmt:=top 20
abbrev Q0I:List Str:=["what","value","least","most"]
theorem Tj:AB Q0I ["what","value","least","most"] (An KF):=by constructor <;> first | rfl | decide +kernel
abbrev KJ:Stmt:=top 21
abbrev Q0M:List Str:=["scale"]
theorem Tp:AB Q0M ["scale"] (An KJ):=by constructor <;> first | rfl | decide +kernel
abbrev KM:Stmt:=top 22
abbrev Q0P:List Str:=["many","scale"]
theorem Tr:AB Q0P ["many","scale"] (An KM):=by constructor <;> first | rfl | decide +kernel
abbrev KN:Stmt:=top 23
abbrev Q0Q:List Str:=["top","bottom"]
theorem Ts:AB Q0Q ["top","bottom"] (An KN):=by constructor <;> first | rfl | decide +kernel
abbrev KL:Stmt:=top 24
abbrev Q0O:List Str:=["many","push","one"]
theorem Oo:AB Q0O ["many","push"] (An KL):=by constructor <;> first | rfl | decide +kernel
abbrev KI:Stmt:=top 25
abbrev Q0L:List Str:=["share","parts"]
theorem Tm:AB Q0L ["share","parts"] (An KI):=by constructor <;> first | rfl | decide +kernel
abbrev Kz:Stmt:=top 27
abbrev Q0D:List Str:=["scale","value"]
theorem Td:AB Q0D ["scale","value"] (An Kz):=by constructor <;> first | rfl | decide +kernel
abbrev Ky:Stmt:=top 28
abbrev Q0C:List Str:=["many","scale","said"]
theorem Tc:AB Q0C ["many","scale","said"] (An Ky):=by constructor <;> first | rfl | decide +kernel
abbrev Kx:Stmt:=top 29
abbrev Q0B:List Str:=["many","scale","turn"]
theorem S9:AB Q0B ["many","scale","turn"] (An Kx):=by constructor <;> first | rfl | decide +kernel
abbrev KK:Stmt:=top 30
abbrev Q0N:List Str:=["many","scale","said"]
theorem Tq:AB Q0N ["many","scale","said"] (An KK):=by constructor <;> first | rfl | decide +kernel
abbrev KG:Stmt:=top 31
abbrev Q0J:List Str:=["many","scale","said","so"]
theorem Tk:AB Q0J ["many","scale","said","so"] (An KG):=by constructor <;> first | rfl | decide +kernel
abbrev KP:Stmt:=top 32
abbrev Q0S:List Str:=["said"]
theorem Tv:AB Q0S ["said"] (An KP):=by constructor <;> first | rfl | decide +kernel
abbrev KO:Stmt:=top 33
abbrev Q0R:List Str:=["what","so"]
theorem Tu:AB Q0R ["what","so"] (An KO):=by constructor <;> first | rfl | decide +kernel
abbrev Kf:Stmt:=top 35
abbrev Q0j:List Str:=["said","weights","awake"]
theorem Om:AB Q0j ["said","weights"] (An Kf):=by constructor <;> first | rfl | decide +kernel
abbrev Ld:Stmt:=Bt (top 36) 0
abbrev Q1s:List Str:=["self","many","scale"]
theorem TW:AB Q1s ["self","many","scale"] (An Ld):=by constructor <;> first | rfl | decide +kernel
abbrev La:Stmt:=Bt (top 36) 1
abbrev Q1p:List Str:=["self"]
theorem TR:AB Q1p ["self"] (An La):=by constructor <;> first | rfl | decide +kernel
abbrev K9:Stmt:=Bt (top 36) 2
abbrev Q1o:List Str:=["self","said"]
theorem TQ:AB Q1o ["self","said"] (An K9):=by constructor <;> first | rfl | decide +kernel
abbrev Lb:Stmt:=Bt (top 36) 3
abbrev Q1q:List Str:=["self","said","so"]
theorem TU:AB Q1q ["self","said","so"] (An Lb):=by constructor <;> first | rfl | decide +kernel
abbrev Lc:Stmt:=Bt (top 36) 4
abbrev Q1r:List Str:=["self"]
theorem TV:AB Q1r ["self"] (An Lc):=by constructor <;> first | rfl | decide +kernel
abbrev Ka:Stmt:=top 38
abbrev Q0e:List Str:=["many","push"]
theorem S0:AB Q0e ["many","push"] (An Ka):=by constructor <;> first | rfl | decide +kernel
abbrev KC:Stmt:=top 39
abbrev Q0G:List Str:=["scores","advisers"]
theorem Th:AB Q0G ["scores","advisers"] (An KC):=by constructor <;> first | rfl | decide +kernel
abbrev FU:Stmt:=Bt (top 40) 0
abbrev Q1x:List Str:=["self","many","scale","push"]
theorem T0:AB Q1x ["self","many","scale","push"] (An FU):=by constructor <;> first | rfl | decide +kernel
abbrev Le:Stmt:=Bt (top 40) 1
abbrev Q1t:List Str:=["self"]
theorem TX:AB Q1t ["self"] (An Le):=by constructor <;> first | rfl | decide +kernel
abbrev Lf:Stmt:=Bt (top 40) 3
abbrev Q1u:List Str:=["self","said","awake"]
theorem Ow:AB Q1u ["self","said"] (An Lf):=by constructor <;> first | rfl | decide +kernel
abbrev Lg:Stmt:=Bt (top 40) 4
abbrev Q1v:List Str:=["self","said","so"]
theorem TY:AB Q1v ["self","said","so"] (An Lg):=by constructor <;> first | rfl | decide +kernel
abbrev Lh:Stmt:=Bt (top 40) 5
abbrev Q1w:List Str:=["self"]
theorem TZ:AB Q1w ["self"] (An Lh):=by constructor <;> first | rfl | decide +kernel
abbrev Kd:Stmt:=top 41
abbrev Q0h:List Str:=["push","least","counted"]
theorem Ol:AB Q0h ["push","least"] (An Kd):=by constructor <;> first | rfl | decide +kernel
abbrev KB:Stmt:=top 43
abbrev Q0F:List Str:=["top","bottom","own"]
theorem Tf:AB Q0F ["top","bottom","own"] (An KB):=by constructor <;> first | rfl | decide +kernel
abbrev Ke:Stmt:=top 44
abbrev Q0i:List Str:=["many","top","bottom","own","errors","kept","bound"]
theorem EU:AB Q0i ["many","top","bottom","own"] (An Ke):=by constructor <;> first | rfl | decide +kernel
abbrev K8:Stmt:=Bt (top 46) 0
abbrev Q1n:List Str:=["self","many","scale"]
theorem TN:AB Q1n ["self","many","scale"] (An K8):=by constructor <;> first | rfl | decide +kernel
abbrev K4:Stmt:=Bt (top 46) 2
abbrev Q1j:List Str:=["self"]
theorem TK:AB Q1j ["self"] (An K4):=by constructor <;> first | rfl | decide +kernel
abbrev K5:Stmt:=Bt (top 46) 3
abbrev Q1k:List Str:=["self"]
theorem TL:AB Q1k ["self"] (An K5):=by constructor <;> first | rfl | decide +kernel
abbrev K6:Stmt:=Bt (top 46) 4
abbrev Q1l:List Str:=["self","said","so","left"]
theorem Ov:AB Q1l ["self","said","so"] (An K6):=by constructor <;> first | rfl | decide +kernel
abbrev K7:Stmt:=Bt (top 46) 5
abbrev Q1m:List Str:=["self"]
theorem TM:AB Q1m ["self"] (An K7):=by constructor <;> first | rfl | decide +kernel
abbrev J7:Stmt:=top 48
abbrev Q0b:List Str:=["keeper","own","off","kept"]
theorem Oj:AB Q0b ["keeper","own","off"] (An J7):=by constructor <;> first | rfl | decide +kernel
abbrev J8:Stmt:=top 49
abbrev Q0c:List Str:=["keeper","own"]
theorem SY:AB Q0c ["keeper","own"] (An J8):=by constructor <;> first | rfl | decide +kernel
abbrev J9:Stmt:=top 50
abbrev Q0d:List Str:=["keeper","own","what","so"]
theorem SZ:AB Q0d ["keeper","own","what","so"] (An J9):=by constructor <;> first | rfl | decide +kernel
abbrev KZ:Stmt:=Bt (top 52) 0
abbrev Q0Z:List Str:=["self","many","scale","top","bottom"]
theorem TD:AB Q0Z ["self","many","scale","top","bottom"] (An KZ):=by constructor <;> first | rfl | decide +kernel
abbrev KU:Stmt:=Bt (top 52) 1
abbrev Q0W:List Str:=["self"]
theorem Tz:AB Q0W ["self"] (An KU):=by constructor <;> first | rfl | decide +kernel
abbrev KT:Stmt:=Bt (top 52) 3
abbrev Q0V:List Str:=["self"]
theorem Tx:AB Q0V ["self"] (An KT):=by constructor <;> first | rfl | decide +kernel
abbrev KS:Stmt:=Bt (top 52) 4
abbrev Q0U:List Str:=["self","said","so","own"]
theorem Op:AB Q0U ["self","said","so"] (An KS):=by constructor <;> first | rfl | decide +kernel
abbrev KW:Stmt:=Bt (top 52) 5
abbrev Q0X:List Str:=["self","said","so"]
theorem TB:AB Q0X ["self","said","so"] (An KW):=by constructor <;> first | rfl | decide +kernel
abbrev KY:Stmt:=Bt (top 52) 6
abbrev Q0Y:List Str:=["self"]
theorem TC:AB Q0Y ["self"] (An KY):=by constructor <;> first | rfl | decide +kernel
abbrev K3:Stmt:=Bt (top 54) 0
abbrev Q1i:List Str:=["self","many","scale","top","bottom","share","parts"]
theorem TJ:AB Q1i ["self","many","scale","top","bottom","share","parts"] (An K3):=by constructor <;> first | rfl | decide +kernel
abbrev K1:Stmt:=Bt (top 54) 1
abbrev Q1g:List Str:=["self","dealt","kept"]
theorem J5:AB Q1g ["self"] (An K1):=by constructor <;> first | rfl | decide +kernel
abbrev K0:Stmt:=Bt (top 54) 2
abbrev Q1f:List Str:=["self","said","so"]
theorem TF:AB Q1f ["self","said","so"] (An K0):=by constructor <;> first | rfl | decide +kernel
abbrev K2:Stmt:=Bt (top 54) 3
abbrev Q1h:List Str:=["self"]
theorem TH:AB Q1h ["self"] (An K2):=by constructor <;> first | rfl | decide +kernel
abbrev KR:Stmt:=top 56
abbrev Q0T:List Str:=["hands"]
theorem Tw:AB Q0T ["hands"] (An KR):=by constructor <;> first | rfl | decide +kernel
abbrev KA:Stmt:=top 57
abbrev Q0E:List Str:=["hands","head"]
theorem Te:AB Q0E ["hands","head"] (An KA):=by constructor <;> first | rfl | decide +kernel
abbrev KH:Stmt:=top 58
abbrev Q0K:List Str:=["hands","head"]
theorem Tl:AB Q0K ["hands","head"] (An KH):=by constructor <;> first | rfl | decide +kernel
abbrev Ie:Stmt:=Bt (top 59) 0
abbrev Q1e:List Str:=["self","hands","head"]
theorem Ou:AB Q1e ["self","hands","head"] (An Ie):=by constructor <;> first | rfl | decide +kernel
abbrev HZ:Stmt:=Bt (top 59) 2
abbrev Q1c:List Str:=["self","said"]
theorem Os:AB Q1c ["self","said"] (An HZ):=by constructor <;> first | rfl | decide +kernel
abbrev HX:Stmt:=Bt (top 59) 3
abbrev Q1a:List Str:=["self","said"]
theorem Oq:AB Q1a ["self","said"] (An HX):=by constructor <;> first | rfl | decide +kernel
abbrev HY:Stmt:=Bt (top 59) 4
abbrev Q1b:List Str:=["self","said","so","sayings","hand"]
theorem HW:AB Q1b ["self","said","so"] (An HY):=by constructor <;> first | rfl | decide +kernel
abbrev H0:Stmt:=Bt (top 59) 5
abbrev Q1d:List Str:=["self"]
theorem Ot:AB Q1d ["self"] (An H0):=by constructor <;> first | rfl | decide +kernel
abbrev Kv:Stmt:=top 61
abbrev Q0z:List Str:=["_law_script","_law_k"]
theorem S7:AB Q0z ["_law_script","_law_k"] (An Kv):=by constructor <;> first | rfl | decide +kernel
abbrev Kr:Stmt:=top 62
abbrev Q0v:List Str:=["_law_x"]
theorem S5:AB Q0v ["_law_x"] (An Kr):=by constructor <;> first | rfl | decide +kernel
abbrev Km:Stmt:=top 63
abbrev Q0r:List Str:=["_law_cell","_law_k"]
theorem S3:AB Q0r ["_law_cell","_law_k"] (An Km):=by constructor <;> first | rfl | decide +kernel
abbrev Ko:Stmt:=top 64
abbrev Q0t:List Str:=["_law_x","_law_many","_law_scale_here","_law_sleepy","_law_said_here","_law_k","_law_what"]
theorem EX:AB Q0t ["_law_x","_law_many","_law_scale_here","_law_sleepy"] (An Ko):=by constructor <;> first | rfl | decide +kernel
abbrev Ki:Stmt:=top 65
abbrev Q0n:List Str:=["_law_x","_law_many","_law_scale_here","_law_sleepy","_law_said_here","_law_so","_law_some"]
theorem FS:AB Q0n ["_law_x","_law_many","_law_scale_here","_law_sleepy"] (An Ki):=by constructor <;> first | rfl | decide +kernel
abbrev Kl:Stmt:=top 66
abbrev Q0q:List Str:=["_law_cell","_law_many"]
theorem J2:AB Q0q ["_law_cell"] (An Kl):=by constructor <;> first | rfl | decide +kernel
abbrev Kn:Stmt:=top 67
abbrev Q0s:List Str:=["_law_cell"]
theorem S4:AB Q0s ["_law_cell"] (An Kn):=by constructor <;> first | rfl | decide +kernel
abbrev Kq:Stmt:=top 68
abbrev Q0u:List Str:=["_law_sort","_law_many","_law_scale_here","_law_x","_law_bottom","_law_parts"]
theorem J3:AB Q0u ["_law_sort","_law_many","_law_scale_here","_law_x"] (An Kq):=by constructor <;> first | rfl | decide +kernel
abbrev Kt:Stmt:=top 70
abbrev Q0x:List Str:=["_law_script","_law_many","_law_scale_here","_law_sort","_law_x"]
theorem J4:AB Q0x ["_law_script","_law_many","_law_scale_here"] (An Kt):=by constructor <;> first | rfl | decide +kernel
abbrev Ks:Stmt:=top 71
abbrev Q0w:List Str:=["_law_turn_here","_law_many","_law_scale_here"]
theorem S6:AB Q0w ["_law_turn_here","_law_many","_law_scale_here"] (An Ks):=by constructor <;> first | rfl | decide +kernel
abbrev Ku:Stmt:=top 72
abbrev Q0y:List Str:=["_law_many","_law_found"]
theorem HV:AB Q0y ["_law_many"] (An Ku):=by constructor <;> first | rfl | decide +kernel
abbrev Kh:Stmt:=top 73
abbrev Q0m:List Str:=["_law_sort","_law_hand_here","_law_errors","_law_many","_law_scale_here","_law_count","_law_whole","_law_under","_law_one","_law_most","_law_k"]
theorem FR:AB Q0m ["_law_sort","_law_hand_here","_law_errors","_law_many","_law_scale_here","_law_count"] (An Kh):=by constructor <;> first | rfl | decide +kernel
abbrev FT:Stmt:=top 74
abbrev Q0l:List Str:=["_law_script","_law_many","_law_scale_here","_law_count","_law_hand_here","_law_k","_law_said_here","_law_so","_law_found","_law_fresh","_law_halves","_law_turn_here","_law_errors"]
theorem Da:AB Q0l ["_law_script"] (An FT):=by constructor <;> first | rfl | decide +kernel
abbrev Kk:Stmt:=top 69
abbrev Q0p:List Str:=["_law_many","_law_scale_here","_law_x","_law_deep","_law_hands","_law_k"]
theorem GH:AB Q0p ["_law_many","_law_scale_here","_law_x","_law_deep"] (An Kk):=by constructor <;> first | rfl | decide +kernel
abbrev Kj:Stmt:=top 69
abbrev Q0o:List Str:=["_law_many","_law_scale_here","_law_x","_law_deep","_law_hands","_law_k"]
theorem GG:AB Q0o ["_law_many","_law_scale_here","_law_x","_law_deep"] (An Kj):=by constructor <;> first | rfl | decide +kernel
structure Txt (K:PySem.W.Frag) (mg:Str->Option Value) (CK1 CK5 CK3 CK2 CK0 CK4:Addr):Prop where
 xr:mg "len" = none
 xt:mg "tuple" = none
 xu:mg "list" = none
 xw:mg "sum" = none
 xx:mg "zip" = none
 xy:mg "sorted" = none
 xz:mg "range" = none
 ba:mg "isinstance" = none
 bc:mg "int" = none
 bd:mg "bool" = none
 bf:mg "all" = none
 bh:mg "any" = none
 bj:mg "enumerate" = none
 bn:mg "abs" = none
 bo:mg "min" = none
 bq:mg "max" = none
 br:∃ t,mg "MOST_ADVISERS" = some (.int 24 t)
 bu:∃ t,mg "MOST_SCALE" = some (.int 10 t)
 bv:∃ t,mg "MOST_BOTTOM" = some (.int 100 t)
 bw:∃ t,mg "MOST_PARTS" = some (.int 100 t)
 bx:∃ t,mg "MOST_FIGURES" = some (.int 60 t)
 bz:Cm K CK1
 de:mg "Hand" = some (.ref CK1)
 df:Ap K CK1 "many"
 dg:Ap K CK1 "scale"
 dh:PySem.W.kitOne K (.ref CK1) (.ref CK1)=some true
 di:Cm K CK5
 dj:mg "Weigher" = some (.ref CK5)
 dk:Ap K CK5 "many"
 dl:Ap K CK5 "scale"
 dm:Ap K CK5 "top"
 dq:Ap K CK5 "bottom"
 dr:Ap K CK5 "tops"
 dt:Ap K CK5 "under"
 du:PySem.W.kitOne K (.ref CK5) (.ref CK1)=some true
 dw:Cm K CK3
 dy:mg "Shifter" = some (.ref CK3)
 dz:Ap K CK3 "many"
 ef:Ap K CK3 "scale"
 eg:Ap K CK3 "top"
 eh:Ap K CK3 "bottom"
 ej:Ap K CK3 "tops"
 ek:Ap K CK3 "under"
 em:Ap K CK3 "share"
 eu:Ap K CK3 "parts"
 ff:PySem.W.kitOne K (.ref CK3) (.ref CK1)=some true
 fg:Cm K CK2
 fh:mg "Rounder" = some (.ref CK2)
 fi:Ap K CK2 "many"
 fj:Ap K CK2 "scale"
 fk:Ap K CK2 "inside"
 fm:Ap K CK2 "over"
 fq:PySem.W.kitOne K (.ref CK2) (.ref CK1)=some true
 ft:Cm K CK0
 fu:mg "Follower" = some (.ref CK0)
 fv:Ap K CK0 "many"
 fw:Ap K CK0 "scale"
 fz:Ap K CK0 "push"
 lb:Ap K CK0 "reached"
 lc:PySem.W.kitOne K (.ref CK0) (.ref CK1)=some true
 ld:Cm K CK4
 lf:mg "Tier" = some (.ref CK4)
 lg:Ap K CK4 "many"
 lh:Ap K CK4 "scale"
 lj:Ap K CK4 "hands"
 ll:Ap K CK4 "head"
 lm:Ap K CK4 "charged"
 lp:PySem.W.kitOne K (.ref CK4) (.ref CK1)=some true
def Bd (ws:List Int):List Int:=if ws.sum=0 then ws.map (λ_=>1) else ws
theorem Mb (ws:List Int):(Bd ws).length=ws.length:=by unfold Bd; split <;> simp
def B8 (ws:List Int):Prop:=∀ w∈ws,0<=w
theorem Ma {ws:List Int} (h:B8 ws):B8 (Bd ws):=by
 unfold Bd
 split
 ·intro w hw
  obtain ⟨_,_,rfl⟩:=List.mem_map.mp hw
  decide
 ·exact h
def go (W:Int):Int->List (Int×Int)->Int
 | _,[]=>0
 | r,p::l=>if W<=2*(r+p.2) then p.1 else go W (r+p.2) l
def CZ (ns ws:List Int):Int:=go (Bd ws).sum 0 (Ca AY (ns.zip (Bd ws)))
def Hk (ns ws:List Int):Prop:=ns.length=ws.length/\ws.length<=63/\B8 ws
def N1:List D->D->Prop:=λds d=>∃ ws:List Int,ds=[.tup (ws.map D.int)]/\ws.length<=63/\d=.lst ((Bd ws).map D.int)
def NK:List D->D->Prop:=λds d=>∃ ns ws:List Int,ds=[.tup (ns.map D.int),.tup (ws.map D.int)]/\Hk ns ws/\d=.int (CZ ns ws)
def Dh (ns:List Int) (k:Int):Int:=(ns[k.toNat]?).getD 0
def JV:List D->D->Prop:=λds d=>∃ (ns:List Int) (k:Int),ds=[.scr (ns.map D.int),.int k]/\0<=k/\d=.int (Dh ns k)
def DW (f:Int) (ns ws:List Int):Int:=sm (λq=>if q.1<f then q.2 else 0) (ns.zip ws)
def there (f:Int) (ns ws:List Int):Int:=sm (λq=>if q.1=f then q.2 else 0) (ns.zip ws)
def GM (f:Int) (ns ws:List Int):Bool:=if ns=[] then decide (f=0) else (decide (f∈ns)&&(decide (2*DW f ns (Bd ws)<(Bd ws).sum)&&decide ((Bd ws).sum<=2*(DW f ns (Bd ws)+there f ns (Bd ws)))))
theorem P0 (W:Int):∀ (L:List (Int×Int)) (r:Int),2*r<W->W<=2*(r+sm (λq=>q.2) L)->∃ A p B,L=A++p::B/\2*(r+sm (λq=>q.2) A)<W/\W<=2*(r+sm (λq=>q.2) A+p.2)/\go W r L=p.1
 | [],r,h1,h2=>by exfalso; unfold sm at h2; omega
 | p::L,r,h1,h2=>by
  unfold go
  by_cases h:W<=2*(r+p.2)
  ·rw [if_pos h]
   refine ⟨[],p,L,rfl,?_,?_,rfl⟩
   ·show 2*(r+0)<W; omega
   ·show W<=2*(r+0+p.2); omega
  ·rw [if_neg h]
   have h2:W<=2*(r+(p.2+sm (λq=>q.2) L)):=h2
   obtain ⟨A,q,B,e1,e2,e3,e4⟩:=P0 W L (r+p.2) wF wF
   refine ⟨p::A,q,B,by rw [e1]; rfl,?_,?_,e4⟩
   ·show 2*(r+(p.2+sm (λq=>q.2) A))<W; omega
   ·show W<=2*(r+(p.2+sm (λq=>q.2) A)+q.2); omega
theorem Ni {ws:List Int} (h:B8 ws):0<=ws.sum:=by
 rw [Su]; exact Ez λa ha=>h a ha
theorem Zr {ws:List Int} (h:B8 ws) (hn:ws≠[]):0<(Bd ws).sum:=by
 unfold Bd
 split
 ·cases ws with
  | nil=>exact absurd rfl hn
  | cons a l=>
   rw [List.map_cons,List.sum_cons]
   have:0<=(l.map λ_=>(1:Int)).sum:=by rw [D6]; exact Ez λ_ _=>by decide
   omega
 ·have:=Ni h
  omega
theorem Lk {ns ws:List Int} (h:Hk ns ws):GM (CZ ns ws) ns ws=true:=by
 obtain ⟨h1,h2,h3⟩:=h
 unfold GM
 by_cases hn:ns=[]
 ·rw [if_pos hn]
  subst hn
  have e:CZ [] ws=0:=by unfold CZ Ca; simp [go]
  exact decide_eq_true e
 ·rw [if_neg hn]
  have hw:ws≠[]:=by
   intro e; apply hn
   rw [e] at h1
   exact List.eq_nil_of_length_eq_zero h1
  have hp:=Zr h3 hw
  have hc:=Ma h3
  have hl:ns.length=(Bd ws).length:=by rw [Mb]; exact h1
  unfold CZ DW there
  generalize Bd ws=cs at hp hc hl
  have pm:=HK AY (ns.zip cs)
  have pw:=Np GQ (ns.zip cs)
  have hs:sm (λq:Int×Int=>q.2) (Ca AY (ns.zip cs))=cs.sum:=by rw [JY pm,N7 hl]
  obtain ⟨A,p,B,e1,e2,e3,e4⟩:=P0 cs.sum (Ca AY (ns.zip cs)) 0 wF (by rw [hs]; omega)
  rw [e4]
  have nn:∀ q∈Ca AY (ns.zip cs),0<=q.2:=λq hq=>hc _ (List.of_mem_zip (pm.mem_iff.mp hq)).2
  rw [<- JY (g:=λq:Int×Int=>if q.1<p.1 then q.2 else 0) pm,<- JY (g:=λq:Int×Int=>if q.1=p.1 then q.2 else 0) pm]
  have hm:p.1∈ns:=(List.of_mem_zip (pm.mem_iff.mp (by rw [e1]; exact List.mem_append_right _ List.mem_cons_self):(p.1,p.2)∈ns.zip cs)).1
  rw [e1] at pw nn ⊢
  have pA:∀ q∈A,q.1<=p.1:=λq hq=>by
   have:=(List.pairwise_append.mp pw).2.2 q hq p List.mem_cons_self
   simp [AY] at this
   omega
  have pB:∀ q∈B,p.1<=q.1:=λq hq=>by
   have:=(List.pairwise_cons.mp (List.pairwise_append.mp pw).2.1).1 q hq
   simp [AY] at this
   omega
  have b1:sm (λq:Int×Int=>if q.1<p.1 then q.2 else 0) (A++p::B)<=sm (λq=>q.2) A:=by
   rw [JZ]
   have z:sm (λq:Int×Int=>if q.1<p.1 then q.2 else 0) (p::B)=0:=by
    rw [EA (h:=λ_=>0),N8]
    intro a ha
    rcases List.mem_cons.mp ha with rfl | ha
    ·exact if_neg wF
    ·exact if_neg (by have:=pB a ha; omega)
   rw [z]
   have:=GB (l:=A) (g:=λq:Int×Int=>if q.1<p.1 then q.2 else 0) (h:=λq=>q.2) λa ha=>by
    have:=nn a (List.mem_append_left _ ha)
    try dsimp only
    split <;> omega
   omega
  have b2:sm (λq=>q.2) A+p.2<=sm (λq:Int×Int=>if q.1<p.1 then q.2 else 0) (A++p::B)+sm (λq:Int×Int=>if q.1=p.1 then q.2 else 0) (A++p::B):=by
   rw [<- FN,JZ]
   have z:p.2<=sm (λq:Int×Int=>(if q.1<p.1 then q.2 else 0)+(if q.1=p.1 then q.2 else 0)) (p::B):=by
    show p.2<=((if p.1<p.1 then p.2 else 0)+(if p.1=p.1 then p.2 else 0))+sm _ B
    rw [if_neg wF,if_pos rfl]
    have:=Ez (l:=B) (g:=λq:Int×Int=>(if q.1<p.1 then q.2 else 0)+(if q.1=p.1 then q.2 else 0)) λa ha=>by
     have:=nn a (List.mem_append_right _ (List.mem_cons_of_mem _ ha))
     try dsimp only
     split <;> split <;> omega
    omega
   have:=EA (l:=A) (g:=λq:Int×Int=>q.2) (h:=λq=>(if q.1<p.1 then q.2 else 0)+(if q.1=p.1 then q.2 else 0)) λa ha=>by
    have:=pA a ha
    try dsimp only
    split <;> split <;> omega
   omega
  rw [decide_eq_true hm,decide_eq_true wF,decide_eq_true wF]
  rfl
theorem Xc {ns ws:List Int} (h:Hk ns ws) (hn:ns≠[]):2*DW (CZ ns ws) ns (Bd ws)<(Bd ws).sum/\(Bd ws).sum<=2*(DW (CZ ns ws) ns (Bd ws)+there (CZ ns ws) ns (Bd ws)):=by
 have h:=Lk h
 unfold GM at h
 rw [if_neg hn,Bool.and_eq_true,Bool.and_eq_true] at h
 exact ⟨of_decide_eq_true h.2.1,of_decide_eq_true h.2.2⟩
def od:Option Int->D
 | none=>.non
 | some i=>.int i
abbrev Tn:=List (Option Int)×Int
def tD (t:Tn):D:=.tup [.tup (t.1.map od),.int t.2]
def ab (i:Int):Int:=if i<0 then -i else i
def BM:Option Int->Int->Int
 | none,_=>0
 | some w,z=>ab (w-z)
theorem Pi (o:Option Int):F1 (od o)=true:=by cases o <;> rfl
theorem Sm (t:Tn):F1 (tD t)=true:=by
 show (Eb (t.1.map od)&&(true&&true))=true
 rw [LA Pi]
 rfl
def Az (said:List (Option Int)) (k:Nat):Option Int:=(said[k]?).getD none
def ax (said:List (Option Int)):List Nat:=(List.range said.length).filter λk=>(Az said k).isSome
def Cc (said:List (Option Int)):List Int:=(ax said).map λk=>(Az said k).getD 0
def BW (said:List (Option Int)) (ws:List Int):List Int:=(ax said).map λk=>ws.getD k 0
def AK (said:List (Option Int)) (ws:List Int):Int:=CZ (Cc said) (BW said ws)
theorem Ro (said:List (Option Int)):said.zipIdx=(List.range said.length).map λk=>(Az said k,k):=by
 refine List.ext_getElem? λi=>?_
 rw [List.getElem?_zipIdx,List.getElem?_map]
 by_cases h:i<said.length
 ·rw [List.getElem?_range h,List.getElem?_eq_getElem h]
  simp [Az,h]
 ·rw [List.getElem?_eq_none wF,List.getElem?_eq_none (by simp; omega)]
  rfl
theorem XQ (w:Option Int):(!Cv (od w))=w.isSome:=by cases w <;> rfl
theorem ZZ (said:List (Option Int)):(said.zipIdx.filterMap λq=>if (!Cv (od q.1))=true then some (D.int (q.2:Nat)) else none)=(ax said).map λk=>D.int (k:Nat):=by
 rw [Qd (λq:Option Int×Nat=>!Cv (od q.1)) (λq=>D.int (q.2:Nat)),Ro,List.filter_map,List.map_map]
 unfold ax
 congr 1
 exact List.filter_congr λk _=>XQ _
theorem at2 {said:List (Option Int)} {k:Nat} (h:k<said.length):BO (said.map od) (k:Int)=some (od (Az said k)):=by
 refine Fl ?_
 rw [List.getElem?_map,List.getElem?_eq_getElem h]
 simp [Az,h]
theorem Gh {said:List (Option Int)} {k:Nat} (h:k∈ax said):k<said.length:=List.mem_range.mp (List.mem_filter.mp h).1
theorem ZY {said:List (Option Int)} {k:Nat} (h:k∈ax said):od (Az said k)=.int ((Az said k).getD 0):=by
 have:=(List.mem_filter.mp h).2
 cases e:Az said k with
 | none=>rw [e] at this; cases this
 | some w=>rfl
theorem QV {said:List (Option Int)} {k:Nat} (h:k∈ax said):BO (said.map od) (k:Int)=some (.int ((Az said k).getD 0)):=by rw [at2 (Gh h),ZY h]
theorem QT {ws:List Int} {k:Nat} (h:k<ws.length):BO (ws.map D.int) (k:Int)=some (.int (ws.getD k 0)):=by
 refine Fl ?_
 rw [List.getElem?_map,List.getElem?_eq_getElem h]
 simp [List.getD,h]
theorem Mm (said:List (Option Int)):(ax said).length<=said.length:=by
 have:=List.length_filter_le (λk=>(Az said k).isSome) (List.range said.length)
 rw [List.length_range] at this
 exact this
theorem HF {said:List (Option Int)} {ws:List Int} (hs:said.length<=24) (hw:B8 ws):Hk (Cc said) (BW said ws):=by
 refine ⟨by unfold Cc BW; rw [List.length_map,List.length_map],?_,λw h=>?_⟩
 ·unfold BW; rw [List.length_map]; have:=Mm said; omega
 ·obtain ⟨k,_,rfl⟩:=List.mem_map.mp h
  by_cases hk:k<ws.length
  ·rw [List.getD_eq_getElem?_getD,List.getElem?_eq_getElem hk]
   exact hw _ (List.getElem_mem hk)
  ·rw [List.getD_eq_getElem?_getD,List.getElem?_eq_none wF]
   exact Int.le_refl _
def Cn (s:Int):Option Int->Bool
 | none=>false
 | some i=>decide (0<=i)&&decide (i<=s)
def Bn (m s:Int) (said:List (Option Int)):Prop:=(said.length:Int)=m/\m<=24/\∀ w∈said,w=none\/Cn s w=true
def JQ:List D->D->Prop:=λds d=>∃ w:Option Int,ds=[od w]/\d=.bl w.isSome
def JP:List D->D->Prop:=λds d=>∃ (s:Int) (w:Option Int),ds=[.int s,od w]/\d=.bl (Cn s w)
def JR:List D->D->Prop:=λds d=>∃ (m s:Int) (said:List (Option Int)),ds=[.int m,.int s,.tup (said.map od)]/\Bn m s said/\d=.bl true
def HM:List D->D->Prop:=λds d=>∃ (m s:Int) (said:List (Option Int)),ds=[.int m,.int s,.tup (said.map od)]/\Bn m s said/\d=.non
def FC:List D->D->Prop:=λds d=>∃ (x:Str) (v l h:Int),ds=[.str x,.int v,.int l,.int h]/\(l<=v/\v<=h)/\d=.non
def NL:List D->D->Prop:=λds d=>∃ m s:Int,ds=[.int m,.int s]/\(1<=m/\m<=24)/\(1<=s/\s<=10)/\d=.non
def NC:List D->D->Prop:=λds d=>∃ s:Int,ds=[.int s]/\(1<=s/\s<=10)/\d=.non
def NX:List D->D->Prop:=λds d=>∃ t b:Int,ds=[.int t,.int b]/\(0<=t/\t<b/\b<=100)/\d=.non
def JW:List D->D->Prop:=λds d=>∃ said:List (Option Int),ds=[.tup (said.map od)]/\said.length<=24/\d=.lst ((ax said).map λk=>D.int (k:Nat))
def NM:List D->D->Prop:=λds d=>∃ (said:List (Option Int)) (ws:List Int),ds=[.tup (said.map od),.tup (ws.map D.int)]/\said.length<=24/\ws.length=said.length/\B8 ws/\d=.int (AK said ws)
def BK (m s:Int):List (Str×D):=[("many",.int m),("scale",.int s)]
def BD (m s t b:Int) (ws:List Int) (u:Int):List (Str×D):=[("many",.int m),("scale",.int s),("top",.int t),("bottom",.int b),("tops",.tup (ws.map D.int)),("under",.int u)]
theorem AE {f g:Str} {d x:D} {r:List (Str×D)} (h:(g=f)->False):A9 f d ((g,x)::r)=(g,x)::A9 f d r:=by
 show (if g=f then (g,d)::r else (g,x)::A9 f d r)=_
 rw [if_neg h]
theorem EC {f:Str} {d x:D} {r:List (Str×D)}:A9 f d ((f,x)::r)=(f,d)::r:=by
 show (if f=f then (f,d)::r else (f,x)::A9 f d r)=_
 rw [if_pos rfl]
theorem Ux (m s:Int):A9 "scale" (.int s) (A9 "many" (.int m) [])=BK m s:=by
 show A9 "scale" (.int s) [("many",.int m)]=_
 rw [AE wD]
 rfl
def f3 (m s t:Int):List (Str×D):=[("many",.int m),("scale",.int s),("top",.int t)]
def f4 (m s t b:Int):List (Str×D):=[("many",.int m),("scale",.int s),("top",.int t),("bottom",.int b)]
def f5 (m s t b:Int) (d:D):List (Str×D):=[("many",.int m),("scale",.int s),("top",.int t),("bottom",.int b),("tops",d)]
theorem Uq (m s t:Int):A9 "top" (.int t) (BK m s)=f3 m s t:=by
 unfold BK
 rw [AE wD,AE wD]
 rfl
theorem UA (m s t b:Int):A9 "bottom" (.int b) (f3 m s t)=f4 m s t b:=by
 unfold f3
 rw [AE wD,AE wD,AE wD]
 rfl
theorem Up (m s t b:Int) (d:D):A9 "tops" d (f4 m s t b)=f5 m s t b d:=by
 unfold f4
 rw [AE wD,AE wD,AE wD,AE wD]
 rfl
theorem Uo (m s t b u:Int) (ws:List Int):A9 "under" (.int u) (f5 m s t b (.tup (ws.map D.int)))=BD m s t b ws u:=by
 unfold f5
 rw [AE wD,AE wD,AE wD,AE wD,AE wD]
 rfl
theorem Bs {f:Str} {d:D} {r:List (Str×D)}:List.lookup f ((f,d)::r)=some d:=by rw [List.lookup_cons,beq_self_eq_true]
theorem Ao {f g:Str} {d:D} {r:List (Str×D)} (h:(f==g)=false):List.lookup f ((g,d)::r)=List.lookup f r:=by rw [List.lookup_cons,h]
section
variable (m s t b u:Int) (ws:List Int)
theorem GV:(BK m s).lookup ("many" : Str)=some (.int m):=Bs
theorem IH:(BK m s).lookup ("scale" : Str)=some (.int s):=by unfold BK; rw [Ao wD,Bs]
theorem Yb:(BK m s).lookup ("heeded" : Str)=none:=by unfold BK; rw [Ao wD,Ao wD]; rfl
theorem Jv:(BD m s t b ws u).lookup ("many" : Str)=some (.int m):=Bs
theorem Ju:(BD m s t b ws u).lookup ("scale" : Str)=some (.int s):=by unfold BD; rw [Ao wD,Bs]
theorem Jt:(BD m s t b ws u).lookup ("top" : Str)=some (.int t):=by unfold BD; rw [Ao wD,Ao wD,Bs]
theorem Jw:(BD m s t b ws u).lookup ("bottom" : Str)=some (.int b):=by unfold BD; rw [Ao wD,Ao wD,Ao wD,Bs]
theorem Rx:(BD m s t b ws u).lookup ("tops" : Str)=some (.tup (ws.map D.int)):=by unfold BD; rw [Ao wD,Ao wD,Ao wD,Ao wD,Bs]
theorem Rw:(BD m s t b ws u).lookup ("under" : Str)=some (.int u):=by unfold BD; rw [Ao wD,Ao wD,Ao wD,Ao wD,Ao wD,Bs]
theorem MS {f:Str} (h:([("many" : Str),"scale","top","bottom","tops","under"].all λg=>!(f==g))=true):(BD m s t b ws u).lookup f=none:=by
 simp only [List.all_cons,List.all_nil,Bool.and_true,Bool.and_eq_true,Bool.not_eq_true'] at h
 obtain ⟨h1,h2,h3,h4,h5,h6⟩:=h
 unfold BD
 rw [Ao h1,Ao h2,Ao h3,Ao h4,Ao h5,Ao h6]
 rfl
end
def NS (CK1:Addr):AQ:=λds O R=>∃ (q:Nat) (m s:Int),ds=[.ptr q]/\O[q]?=some (some (.ins CK1 (BK m s)))/\(1<=m/\m<=24)/\R (.tup ((List.replicate m.toNat (1:Int)).map D.int)) O
theorem Cb {O:Ad} {q:Nat} {x y:Option MO} (h:O[q]?=some x):(O.set q y)[q]?=some y:=by
 have:=(List.getElem?_eq_some_iff.mp h).1
 rw [List.getElem?_set_self this]
theorem O7 (n:Nat):(List.replicate n [D.int 1]).flatten=(List.replicate n (1:Int)).map D.int:=by rw [Ll,List.map_replicate]
def Fm (m:Nat) (s:Int) (t:Tn):Prop:=t.1.length=m/\(∀ w∈t.1,w=none\/Cn s w=true)/\0<=t.2/\t.2<=s
def Il (said:List (Option Int)) (ws:List Int):List (Int×Int):=(ax said).map λk=>((Az said k).getD 0,ws.getD k 0)
theorem UM (said:List (Option Int)) (ws:List Int):Il said ws=(Cc said).zip (BW said ws):=by
 unfold Il Cc BW
 rw [List.zip_map']
theorem Vt (w:List Int):(w.map λ_=>(1:Int)).sum=(w.length:Nat):=by
 induction w with
 | nil=>rfl
 | cons a l ih=>rw [List.map_cons,List.sum_cons,ih,List.length_cons]; omega
theorem YT (a:List Int):EG (.tup (a.map D.int)) (.tup (a.map D.int))=true:=by rw [YU,decide_eq_true rfl]
theorem plT (a:List Int):Ct (.tup (a.map D.int))=true:=Lx a
theorem Y8 (a:List Int):DH (.tup (a.map D.int))<=60:=by
 have:=Qq a
 show DG (a.map D.int)+1<=60
 omega
theorem Fm.said {m:Nat} {s:Int} {t:Tn} (h:Fm m s t) (hm:m<=24):Bn (m:Nat) s t.1:=⟨by rw [h.1],by omega,h.2.1⟩
def Gv:List D->D->Prop:=λds d=>∃ b n:Int,ds=[.int b,.int n]/\(0<=b/\b<=1000)/\(0<=n/\n<=60000)/\d=.int (b ^ n.toNat)
theorem D9 {a b:Int} (h0:0<=a) (h:a<=b):∀ n:Nat,a ^ n<=b ^ n
 | 0=>by simp
 | n+1=>by
  rw [Int.pow_succ,Int.pow_succ]
  exact Int.mul_le_mul (D9 h0 h n) h h0 (Int.pow_nonneg (Int.le_trans h0 h))
theorem SJ {a:Int} (h0:0<=a) (h:a<256) (n:Nat):0<=a ^ n/\a ^ n<2 ^ (8*n+1):=by
 refine ⟨Int.pow_nonneg h0,?_⟩
 have h1:a ^ n<=256 ^ n:=D9 h0 (Int.le_of_lt h) n
 have h2:(2:Int) ^ (8*n+1)=256 ^ n*2:=by rw [Int.pow_succ,Int.pow_mul]; rfl
 have h3:(0:Int)<256 ^ n:=Int.pow_pos wE
 rw [h2]
 omega
def FH:List D->D->Prop:=λds d=>∃ (w:Option Int) (z:Int),ds=[od w,.int z]/\d=.int (BM w z)
def tA (t b sc own off:Int):Int:=t ^ off.toNat*b ^ (sc-off).toNat*2*b ^ own.toNat
def tS (t b sc own:Int):Int:=b ^ sc.toNat*(b ^ own.toNat+t ^ own.toNat)
def tF (t b sc own so:Int):Option Int->Int
 | none=>tS t b sc own
 | some x=>tA t b sc own (ab (x-so))
def BT (t b sc d so:Int) (said:List (Option Int)) (ws:List Int):List Int:=(ws.zip said).map λp=>p.1*tF t b sc d so p.2
structure CL (sc t b:Int):Prop where
 s1:1<=sc
 s2:sc<=10
 t0:0<=t
 tb:t<b
 b2:b<=100
structure Ja (n:Nat) (ws:List Int) (u:Int):Prop where
 w:∀ x∈ws,0<=x/\x<2 ^ (250*(n+1))
 u0:0<=u
 u1:u<2 ^ (250*(n+1))
theorem CY {x y:Int} {a c:Nat} (x0:0<=x) (x1:x<2 ^ a) (y0:0<=y) (y1:y<2 ^ c):0<=x*y/\x*y<2 ^ (a+c):=by
 refine ⟨Int.mul_nonneg x0 y0,?_⟩
 rw [Int.pow_add]
 by_cases h:y=0
 ·subst h
  rw [Int.mul_zero]
  exact Int.mul_pos (Int.pow_pos wE) (Int.pow_pos wE)
 ·have h1:x*y<2 ^ a*y:=Int.mul_lt_mul_of_pos_right x1 wF
  have h2:2 ^ a*y<=2 ^ a*2 ^ c:=Int.mul_le_mul_of_nonneg_left (Int.le_of_lt y1) (Int.pow_nonneg wE)
  omega
theorem EZ {x:Int} {a c:Nat} (h:x<2 ^ a) (hc:a<=c):x<2 ^ c:=by
 obtain ⟨d,rfl⟩:=Nat.exists_eq_add_of_le hc
 have h1:(1:Int)<=2 ^ d:=Int.pow_pos wE
 have h2:(0:Int)<=2 ^ a:=Int.pow_nonneg wE
 have:=Int.mul_le_mul_of_nonneg_left h1 h2
 rw [Int.pow_add]
 omega
theorem Dk {x:Int} {e:Int} (h0:0<=x) (h1:x<=100) (he:e<=10):0<=x ^ e.toNat/\x ^ e.toNat<2 ^ 81:=by
 have:=SJ h0 (show x<256 by omega) e.toNat
 exact ⟨this.1,EZ this.2 wF⟩
theorem Ss {sc t b own off:Int} (h:CL sc t b) (ho:own<=sc) (hf:0<=off/\off<=sc):0<=tA t b sc own off/\tA t b sc own off<2 ^ 250:=by
 have:=h.s1; have:=h.s2; have:=h.t0; have:=h.tb; have:=h.b2
 have a1:=Dk (x:=t) (e:=off) h.t0 wF wF
 have a2:=Dk (x:=b) (e:=sc-off) wF wF wF
 have a3:=Dk (x:=b) (e:=own) wF wF wF
 have b1:=CY a1.1 a1.2 a2.1 a2.2
 have b2:=CY (c:=2) b1.1 b1.2 (show (0:Int)<=2 by decide) wE
 have b3:=CY b2.1 b2.2 a3.1 a3.2
 exact ⟨b3.1,EZ b3.2 wE⟩
theorem FA {sc t b own:Int} (h:CL sc t b) (ho:own<=sc):0<=tS t b sc own/\tS t b sc own<2 ^ 250:=by
 have:=h.s1; have:=h.s2; have:=h.t0; have:=h.tb; have:=h.b2
 have a1:=Dk (x:=b) (e:=sc) wF wF wF
 have a2:=Dk (x:=b) (e:=own) wF wF wF
 have a3:=Dk (x:=t) (e:=own) h.t0 wF wF
 have e:(2:Int) ^ 82=2 ^ 81+2 ^ 81:=by decide
 have b1:=CY (y:=b ^ own.toNat+t ^ own.toNat) (c:=82) a1.1 a1.2 wF (by rw [e]; omega)
 exact ⟨b1.1,EZ b1.2 wE⟩
theorem FZ {s x:Int} (h:Cn s (some x)=true):0<=x/\x<=s:=by
 have h:(decide (0<=x)&&decide (x<=s))=true:=h
 rw [Bool.and_eq_true] at h
 exact ⟨of_decide_eq_true h.1,of_decide_eq_true h.2⟩
theorem EJ {s x so:Int} (h:0<=x/\x<=s) (hs:0<=so/\so<=s):0<=ab (x-so)/\ab (x-so)<=s:=by
 unfold ab
 split <;> omega
theorem HJ {sc t b own so:Int} {w:Option Int} (h:CL sc t b) (ho:own<=sc) (hs:0<=so/\so<=sc) (hw:w=none\/Cn sc w=true):0<=tF t b sc own so w/\tF t b sc own so w<2 ^ 250:=by
 cases w with
 | none=>exact FA h ho
 | some x=>
  rcases hw with hw | hw
  ·cases hw
  ·exact Ss h ho (EJ (FZ hw) hs)
theorem Ed {m sc:Int} {said:List (Option Int)} {ws:List Int} (hs:Bn m sc said) (h0:0<=sc) (hw:B8 ws):0<=AK said ws/\AK said ws<=sc:=by
 have h24:said.length<=24:=by have:=hs.1; have:=hs.2.1; omega
 have hr:=Lk (HF (ws:=ws) h24 hw)
 unfold AK
 unfold GM at hr
 by_cases hn:Cc said=[]
 ·rw [if_pos hn] at hr
  rw [of_decide_eq_true hr]
  omega
 ·rw [if_neg hn,Bool.and_eq_true] at hr
  have hm:=of_decide_eq_true hr.1
  unfold Cc at hm
  obtain ⟨k,hk,e⟩:=List.mem_map.mp hm
  have hlt:=Gh hk
  have hq:=(List.mem_filter.mp hk).2
  unfold Cc
  rw [<- e]
  have hmem:Az said k∈said:=by
   unfold Az
   rw [List.getElem?_eq_getElem hlt]
   exact List.getElem_mem hlt
  cases hx:Az said k with
  | none=>rw [hx] at hq; cases hq
  | some x=>
   rw [hx] at hmem
   rcases hs.2.2 _ hmem with h | h
   ·cases h
   ·exact FZ h
def NO:List D->D->Prop:=λds d=>∃ (m s:Int) (said:List (Option Int)) (so:Int),ds=[.int m,.int s,.tup [.tup (said.map od),.int so]]/\Bn m s said/\(0<=so/\so<=s)/\d=.bl true
def ES:List D->D->Prop:=λds d=>∃ (m s:Int) (said:List (Option Int)) (so:Int),ds=[.int m,.int s,.tup (said.map od),.int so]/\Bn m s said/\(0<=so/\so<=s)/\d=.non
theorem Rv (m s t b u:Int) (ws vs:List Int):A9 "tops" (.tup (vs.map D.int)) (BD m s t b ws u)=BD m s t b vs u:=by
 unfold BD
 rw [AE wD,AE wD,AE wD,AE wD,EC]
theorem Ru (m s t b u v:Int) (ws:List Int):A9 "under" (.int v) (BD m s t b ws u)=BD m s t b ws v:=by
 unfold BD
 rw [AE wD,AE wD,AE wD,AE wD,AE wD,EC]
def nW (t b sc dd so:Int) (said:List (Option Int)) (ws:List Int) (k:Nat):Int:=ws.getD k 0*tF t b sc dd so (Az said k)
theorem Pn {t b sc dd so:Int} {said:List (Option Int)} {ws:List Int} (h:ws.length=said.length):(List.range said.length).map (nW t b sc dd so said ws)=BT t b sc dd so said ws:=by
 unfold BT nW
 refine List.ext_getElem? λi=>?_
 rw [List.getElem?_map,List.getElem?_map]
 by_cases hi:i<said.length
 ·have hz:i<(ws.zip said).length:=by rw [List.length_zip]; omega
  rw [List.getElem?_range hi,List.getElem?_eq_getElem hz,List.getElem_zip]
  have h1:ws.getD i 0=ws[i]:=by rw [List.getD_eq_getElem?_getD,List.getElem?_eq_getElem wF]; rfl
  have h2:Az said i=said[i]:=by unfold Az; rw [List.getElem?_eq_getElem hi]; rfl
  show some (ws.getD i 0*tF t b sc dd so (Az said i))=some (ws[i]*tF t b sc dd so said[i])
  rw [h1,h2]
 ·rw [List.getElem?_eq_none (by simp; omega),List.getElem?_eq_none (by rw [List.length_zip]; omega)]
  rfl
theorem RC {n:Nat} {t b sc dd so u:Int} {said:List (Option Int)} {ws:List Int} (hf:CL sc t b) (hw:Ja n ws u) (hs:∀ w∈said,w=none\/Cn sc w=true) (hso:0<=so/\so<=sc) (hd:0<=dd/\dd<=sc):Ja (n+1) (BT t b sc dd so said ws) (u*tS t b sc dd):=by
 have e:250*(n+1+1)=250*(n+1)+250:=by omega
 have h1:=FA (own:=dd) hf hd.2
 have h2:=CY hw.u0 hw.u1 h1.1 h1.2
 refine ⟨λx hx=>?_,h2.1,by rw [e]; exact h2.2⟩
 obtain ⟨p,hp,rfl⟩:=List.mem_map.mp hx
 have h3:=hw.w _ (List.of_mem_zip hp).1
 have h4:=HJ hf hd.2 hso (hs _ (List.of_mem_zip hp).2)
 have h5:=CY h3.1 h3.2 h4.1 h4.2
 exact ⟨h5.1,by rw [e]; exact h5.2⟩
theorem F2 {t b sc dd so:Int} {said:List (Option Int)} {ws:List Int} (h:ws.length=said.length):(BT t b sc dd so said ws).length=ws.length:=by
 unfold BT
 rw [List.length_map,List.length_zip]
 omega
theorem RB (n:Nat):Ja 0 (List.replicate n 1) 1:=⟨λx hx=>by rw [List.eq_of_mem_replicate hx]; exact ⟨by decide,by decide⟩,by decide,by decide⟩
def BS (x:Int):Int:=(x*x+48271*x+11)%2147483647
def Lo (x:Int):Prop:=0<=x/\x<2147483647
theorem Fa (x:Int):Lo (BS x):=by unfold Lo BS; omega
def FO (c k:Int):Int:=BS (BS ((c%2147483647+69621*k*k+5)%2147483647))
theorem Og (c k:Int):Lo (FO c k):=Fa _
def ER:List D->D->Prop:=λds d=>∃ x:Int,ds=[.int x]/\(0<=x/\x<3000000000)/\d=.int (BS x)
def RA (s:Int) (sl:Bool) (so k x:Int):Option Int:=if (sl&&decide (x%4=0))=true then none else some (if 1<x/3%(k%7+3) then so else x/16%(s+1))
def T8 (s:Int) (sl:Bool) (so:Int):Nat->Nat->Int->List (Option Int)
 | 0,_,_=>[]
 | n+1,k,x=>RA s sl so (k:Int) (BS (x+(k:Int)))::T8 s sl so n (k+1) (BS (x+(k:Int)))
structure SP where
 m:Int
 sc:Int
 t:Int
 b:Int
 sh:Int
 pa:Int
def f7 (m s t b:Int) (ws:List Int) (u sh:Int):List (Str×D):=[("many",.int m),("scale",.int s),("top",.int t),("bottom",.int b),("tops",.tup (ws.map D.int)),("under",.int u),("share",.int sh)]
def Bp (p:SP) (ws:List Int) (u:Int):List (Str×D):=[("many",.int p.m),("scale",.int p.sc),("top",.int p.t),("bottom",.int p.b),("tops",.tup (ws.map D.int)),("under",.int u),("share",.int p.sh),("parts",.int p.pa)]
theorem Ur (m s t b u sh:Int) (ws:List Int):A9 "share" (.int sh) (BD m s t b ws u)=f7 m s t b ws u sh:=by
 unfold BD
 rw [AE wD,AE wD,AE wD,AE wD,AE wD,AE wD]
 rfl
theorem Uu (m s t b u sh pa:Int) (ws:List Int):A9 "parts" (.int pa) (f7 m s t b ws u sh)=Bp ⟨m,s,t,b,sh,pa⟩ ws u:=by
 unfold f7
 rw [AE wD,AE wD,AE wD,AE wD,AE wD,AE wD,AE wD]
 rfl
theorem Nt (p:SP) (u:Int) (ws vs:List Int):A9 "tops" (.tup (vs.map D.int)) (Bp p ws u)=Bp p vs u:=by
 unfold Bp
 rw [AE wD,AE wD,AE wD,AE wD,EC]
theorem Nr (p:SP) (u v:Int) (ws:List Int):A9 "under" (.int v) (Bp p ws u)=Bp p ws v:=by
 unfold Bp
 rw [AE wD,AE wD,AE wD,AE wD,AE wD,EC]
section
variable (p:SP) (u:Int) (ws:List Int)
theorem Gq:(Bp p ws u).lookup ("many" : Str)=some (.int p.m):=Bs
theorem Jm:(Bp p ws u).lookup ("scale" : Str)=some (.int p.sc):=by unfold Bp; rw [Ao wD,Bs]
theorem MI:(Bp p ws u).lookup ("top" : Str)=some (.int p.t):=by unfold Bp; rw [Ao wD,Ao wD,Bs]
theorem MJ:(Bp p ws u).lookup ("bottom" : Str)=some (.int p.b):=by unfold Bp; rw [Ao wD,Ao wD,Ao wD,Bs]
theorem Jk:(Bp p ws u).lookup ("tops" : Str)=some (.tup (ws.map D.int)):=by unfold Bp; rw [Ao wD,Ao wD,Ao wD,Ao wD,Bs]
theorem MH:(Bp p ws u).lookup ("under" : Str)=some (.int u):=by unfold Bp; rw [Ao wD,Ao wD,Ao wD,Ao wD,Ao wD,Bs]
theorem Jl:(Bp p ws u).lookup ("share" : Str)=some (.int p.sh):=by unfold Bp; rw [Ao wD,Ao wD,Ao wD,Ao wD,Ao wD,Ao wD,Bs]
theorem Jn:(Bp p ws u).lookup ("parts" : Str)=some (.int p.pa):=by unfold Bp; rw [Ao wD,Ao wD,Ao wD,Ao wD,Ao wD,Ao wD,Ao wD,Bs]
theorem Jo {f:Str} (h:([("many" : Str),"scale","top","bottom","tops","under","share","parts"].all λg=>!(f==g))=true):(Bp p ws u).lookup f=none:=by
 simp only [List.all_cons,List.all_nil,Bool.and_true,Bool.and_eq_true,Bool.not_eq_true'] at h
 obtain ⟨h1,h2,h3,h4,h5,h6,h7,h8⟩:=h
 unfold Bp
 rw [Ao h1,Ao h2,Ao h3,Ao h4,Ao h5,Ao h6,Ao h7,Ao h8]
 rfl
end
structure Gi (p:SP):Prop where
 f:CL p.sc p.t p.b
 m1:1<=p.m
 m2:p.m<=24
 h1:1<=p.sh
 h2:p.sh<p.pa
 h3:p.pa<=100
def Jd (C:Addr) (O:Ad) (q:Nat) (p:SP) (ws:List Int) (u:Int):Prop:=O[q]?=some (some (.ins C (Bp p ws u)))
structure DY (n:Nat) (ws:List Int) (u:Int):Prop where
 w:∀ x∈ws,0<=x/\x<2 ^ (270*(n+1))
 u0:0<=u
 u1:u<2 ^ (270*(n+1))
theorem Jx (n:Nat):DY 0 (List.replicate n 1) 1:=⟨λx hx=>by rw [List.eq_of_mem_replicate hx]; exact ⟨by decide,by decide⟩,by decide,by decide⟩
def Df (p:SP) (ws:List Int):List Int:=ws.map λw=>w*(p.m*(p.pa-p.sh))+p.sh*ws.sum
theorem Zd (p:SP) (ws:List Int):(Df p ws).length=ws.length:=by unfold Df; rw [List.length_map]
theorem PH {p:SP} (h:Gi p):0<=p.m*(p.pa-p.sh)/\p.m*(p.pa-p.sh)<=2376:=by
 have:=h.m1; have:=h.m2; have:=h.h1; have:=h.h2; have:=h.h3
 have h1:p.m*(p.pa-p.sh)<=24*(p.pa-p.sh):=Int.mul_le_mul_of_nonneg_right wF wF
 have h2:0<=p.m*(p.pa-p.sh):=Int.mul_nonneg wF wF
 omega
theorem Zc {p:SP} {ws:List Int} {e:Nat} (h:Gi p) (hl:ws.length<=24) (hw:∀ x∈ws,0<=x/\x<2 ^ e):∀ x∈Df p ws,0<=x/\x<2 ^ (e+13):=by
 have:=h.h1; have:=h.h2; have:=h.h3
 have hk:=PH h
 have hE:(1:Int)<=2 ^ e:=Int.pow_pos wE
 have e13:(2:Int) ^ (e+13)=2 ^ e*8192:=by rw [Int.pow_add]; rfl
 have hs0:0<=ws.sum:=by
  have:=Ez (g:=λx:Int=>x) (l:=ws) λv hv=>(hw v hv).1
  rw [<- D6,List.map_id'] at this
  exact this
 have hs1:ws.sum<=24*2 ^ e:=by
  have:=sm_bd' (g:=λx:Int=>x) (l:=ws) (B:=2 ^ e) (n:=24) wF hl λv hv=>by have:=(hw v hv).2; omega
  rw [<- D6,List.map_id'] at this
  exact this
 rw [e13]
 generalize (2:Int) ^ e=E at hE hs1 hw
 intro x hx
 obtain ⟨w,hw',rfl⟩:=List.mem_map.mp hx
 have h1:=hw w hw'
 generalize p.m*(p.pa-p.sh)=K at hk
 have a1:w*K<=E*K:=Int.mul_le_mul_of_nonneg_right wF hk.1
 have a2:E*K<=E*2376:=Int.mul_le_mul_of_nonneg_left hk.2 wF
 have a3:p.sh*ws.sum<=99*ws.sum:=Int.mul_le_mul_of_nonneg_right wF hs0
 have a4:0<=p.sh*ws.sum:=Int.mul_nonneg wF hs0
 have a5:0<=w*K:=Int.mul_nonneg h1.1 hk.1
 omega
theorem RF {n:Nat} {p:SP} {dd so u:Int} {said:List (Option Int)} {ws:List Int} (h:Gi p) (hw:DY n ws u) (hl:ws.length=said.length) (h24:said.length<=24) (hs:∀ w∈said,w=none\/Cn p.sc w=true) (hso:0<=so/\so<=p.sc) (hd:0<=dd/\dd<=p.sc):DY (n+1) (Df p (BT p.t p.b p.sc dd so said ws)) (u*tS p.t p.b p.sc dd*p.m*p.pa):=by
 have:=h.m1; have:=h.m2; have:=h.h1; have:=h.h2; have:=h.h3
 have h1:=FA (own:=dd) h.f hd.2
 have h2:=CY hw.u0 hw.u1 h1.1 h1.2
 have h3:=CY (c:=5) h2.1 h2.2 (show 0<=p.m by omega) wF
 have h4:=CY (c:=7) h3.1 h3.2 (show 0<=p.pa by omega) wF
 refine ⟨λx hx=>?_,h4.1,EZ h4.2 wF⟩
 have hb:∀ x∈BT p.t p.b p.sc dd so said ws,0<=x/\x<2 ^ (270*(n+1)+250):=λx hx=>by
  obtain ⟨q,hq,rfl⟩:=List.mem_map.mp hx
  have g3:=hw.w _ (List.of_mem_zip hq).1
  have g4:=HJ h.f hd.2 hso (hs _ (List.of_mem_zip hq).2)
  exact CY g3.1 g3.2 g4.1 g4.2
 have:=Zc h (by rw [F2 hl,hl]; exact h24) hb x hx
 exact ⟨this.1,EZ this.2 wF⟩
def NA:List D->D->Prop:=λds d=>∃ a b:Int,ds=[.int a,.int b]/\(1<=a/\a<b/\b<=100)/\d=.non
def JS (C:Addr):AQ:=λds O R=>∃ (q:Nat) (p:SP),ds=[.ptr q,.int p.m,.int p.sc,.int p.t,.int p.b,.int p.sh,.int p.pa]/\O[q]?=some (some (.ins C []))/\Gi p/\R .non (O.set q (some (.ins C (Bp p (List.replicate p.m.toNat 1) 1))))
def N0 (C:Addr):AQ:=λds O R=>∃ (q:Nat) (p:SP) (u:Int) (ws:List Int),ds=[.ptr q]/\Jd C O q p ws u/\Gi p/\ws.length<=24/\R .non (O.set q (some (.ins C (Bp p (Df p ws) (u*p.m*p.pa)))))
def CM (CW CS:Addr):Bool->Addr
 | false=>CW
 | true=>CS
def Cj (sf:Bool) (p:SP) (ws:List Int) (u:Int):List (Str×D):=match sf with
 | false=>BD p.m p.sc p.t p.b ws u
 | true=>Bp p ws u
section
variable (sf:Bool) (p:SP) (u:Int) (ws:List Int)
theorem MW:(Cj sf p ws u).lookup ("many" : Str)=some (.int p.m):=by cases sf; exact Jv ..; exact Gq ..
theorem HD:(Cj sf p ws u).lookup ("scale" : Str)=some (.int p.sc):=by cases sf; exact Ju ..; exact Jm ..
theorem MV:(Cj sf p ws u).lookup ("top" : Str)=some (.int p.t):=by cases sf; exact Jt ..; exact MI ..
theorem HE:(Cj sf p ws u).lookup ("bottom" : Str)=some (.int p.b):=by cases sf; exact Jw ..; exact MJ ..
theorem Jy:(Cj sf p ws u).lookup ("tops" : Str)=some (.tup (ws.map D.int)):=by cases sf; exact Rx ..; exact Jk ..
theorem MU:(Cj sf p ws u).lookup ("under" : Str)=some (.int u):=by cases sf; exact Rw ..; exact MH ..
theorem Fw {f:Str} (h:([("many" : Str),"scale","top","bottom","tops","under"].all λg=>!(f==g))=true) (h2:([("many" : Str),"scale","top","bottom","tops","under","share","parts"].all λg=>!(f==g))=true):(Cj sf p ws u).lookup f=none:=by
 cases sf
 ·exact MS _ _ _ _ _ _ h
 ·exact Jo _ _ _ h2
theorem MT:(Cj sf p ws u).length<1000:=by cases sf; show 6<1000; decide; show 8<1000; decide
theorem RH (vs:List Int):A9 "tops" (.tup (vs.map D.int)) (Cj sf p ws u)=Cj sf p vs u:=by cases sf; exact Rv ..; exact Nt ..
theorem RG (v:Int):A9 "under" (.int v) (Cj sf p ws u)=Cj sf p ws v:=by cases sf; exact Ru ..; exact Nr ..
end
def DZ (CW CS:Addr) (O:Ad) (q:Nat) (sf:Bool) (p:SP) (ws:List Int) (u:Int):Prop:=O[q]?=some (some (.ins (CM CW CS sf) (Cj sf p ws u)))
structure C5 (sf:Bool) (p:SP):Prop where
 f:CL p.sc p.t p.b
 m1:1<=p.m
 m2:p.m<=24
 s:sf=true->1<=p.sh/\p.sh<p.pa/\p.pa<=100
theorem C5.so {p:SP} (h:C5 true p):Gi p:=⟨h.f,h.m1,h.m2,(h.s rfl).1,(h.s rfl).2.1,(h.s rfl).2.2⟩
def F9 (sf:Bool) (p:SP) (said:List (Option Int)) (so:Int) (ws:List Int):List Int:=match sf with
 | false=>BT p.t p.b p.sc (ab (AK said ws-so)) so said ws
 | true=>Df p (BT p.t p.b p.sc (ab (AK said ws-so)) so said ws)
def GU (sf:Bool) (p:SP) (said:List (Option Int)) (so:Int) (ws:List Int) (u:Int):Int:=match sf with
 | false=>u*tS p.t p.b p.sc (ab (AK said ws-so))
 | true=>u*tS p.t p.b p.sc (ab (AK said ws-so))*p.m*p.pa
section
variable {P:Program} {w:World} {K:PySem.W.Frag} {mg:Str->Option Value} {base:Heap} {CW CS:Addr} {k1 k2:Nat} {m:Str} {sp:AQ} {sq:Bool->AQ}
theorem cv (h1:A7 K CW) (h2:A7 K CS) (sf:Bool):A7 K (CM CW CS sf):=by cases sf; exact h1; exact h2
theorem nv (h1:Ap K CW m) (h2:Ap K CS m) (sf:Bool):Ap K (CM CW CS sf) m:=by cases sf; exact h1; exact h2
theorem mv (h1:Al P w K mg base CW k1 m sp) (h2:Al P w K mg base CS k1 m sp) (sf:Bool):Al P w K mg base (CM CW CS sf) k1 m sp:=by cases sf; exact h1; exact h2
theorem mv2 (h1:Al P w K mg base CW k1 m (sq false)) (h2:Al P w K mg base CS k2 m (sq true)) (sf:Bool):Al P w K mg base (CM CW CS sf) (max k1 k2) m (sq sf):=by cases sf; exact h1.mono (Nat.le_max_left _ _); exact h2.mono (Nat.le_max_right _ _)
end
def Gx (CW CS:Addr):AQ:=λds O R=>∃ (q:Nat) (sf:Bool) (p:SP),ds=[.ptr q,.int p.m,.int p.sc,.int p.t,.int p.b]/\O[q]?=some (some (.ins (CM CW CS sf) []))/\C5 false p/\R .non (O.set q (some (.ins (CM CW CS sf) (BD p.m p.sc p.t p.b (List.replicate p.m.toNat 1) 1))))
def JU (CW CS:Addr):AQ:=λds O R=>∃ (q:Nat) (sf:Bool) (p:SP) (u:Int) (ws:List Int),ds=[.ptr q]/\DZ CW CS O q sf p ws u/\R (.tup (ws.map D.int)) O
def JM (CW CS:Addr):AQ:=λds O R=>∃ (q:Nat) (sf:Bool) (p:SP) (u:Int) (ws:List Int),ds=[.ptr q]/\DZ CW CS O q sf p ws u/\ws.length<=63/\R (.tup [.int ws.sum,.int u]) O
def Nz (CW CS:Addr):AQ:=λds O R=>∃ (q:Nat) (sf:Bool) (p:SP) (u own off:Int) (ws:List Int),ds=[.ptr q,.int own,.int off]/\DZ CW CS O q sf p ws u/\C5 sf p/\(0<=own/\own<=p.sc)/\(0<=off/\off<=p.sc)/\R (.int (tA p.t p.b p.sc own off)) O
def JN (CW CS:Addr):AQ:=λds O R=>∃ (q:Nat) (sf:Bool) (p:SP) (u own:Int) (ws:List Int),ds=[.ptr q,.int own]/\DZ CW CS O q sf p ws u/\C5 sf p/\(0<=own/\own<=p.sc)/\R (.int (tS p.t p.b p.sc own)) O
def Ny (CW CS:Addr):AQ:=λds O R=>∃ (q:Nat) (sf:Bool) (p:SP) (u own so:Int) (w:Option Int) (ws:List Int),ds=[.ptr q,.int own,od w,.int so]/\DZ CW CS O q sf p ws u/\C5 sf p/\(0<=own/\own<=p.sc)/\(0<=so/\so<=p.sc)/\(w=none\/Cn p.sc w=true)/\R (.int (tF p.t p.b p.sc own so w)) O
def JL (CW CS:Addr):AQ:=λds O R=>∃ (q n:Nat) (sf:Bool) (p:SP) (u so:Int) (said:List (Option Int)) (ws:List Int),ds=[.ptr q,.tup (said.map od),.int so]/\DZ CW CS O q sf p ws u/\C5 sf p/\n<=1000/\DY n ws u/\(ws.length:Int)=p.m/\Bn p.m p.sc said/\(0<=so/\so<=p.sc) /\
 R .non (O.set q (some (.ins (CM CW CS sf) (Cj sf p (BT p.t p.b p.sc (ab (AK said ws-so)) so said ws) (u*tS p.t p.b p.sc (ab (AK said ws-so)))))))
def C8 (CW CS:Addr) (sf:Bool):AQ:=λds O R=>∃ (q n:Nat) (p:SP) (u so:Int) (said:List (Option Int)) (ws:List Int),ds=[.ptr q,.tup (said.map od),.int so]/\DZ CW CS O q sf p ws u/\C5 sf p/\n<=1000/\DY n ws u/\(ws.length:Int)=p.m/\Bn p.m p.sc said/\(0<=so/\so<=p.sc) /\
 R .non (O.set q (some (.ins (CM CW CS sf) (Cj sf p (F9 sf p said so ws) (GU sf p said so ws u)))))
def C9 (CW CS:Addr) (sf:Bool):AQ:=λds O R=>∃ (q:Nat) (p:SP) (u:Int) (ws:List Int),ds=[.ptr q]/\DZ CW CS O q sf p ws u/\C5 sf p/\R (.ptr O.length) (O++[some (.ins (CM CW CS sf) (Cj sf p (List.replicate p.m.toNat 1) 1))])
theorem RE {n:Nat} {t b sc dd so u:Int} {said:List (Option Int)} {ws:List Int} (hf:CL sc t b) (hw:DY n ws u) (hs:∀ w∈said,w=none\/Cn sc w=true) (hso:0<=so/\so<=sc) (hd:0<=dd/\dd<=sc):DY (n+1) (BT t b sc dd so said ws) (u*tS t b sc dd):=by
 have h1:=FA (own:=dd) hf hd.2
 have h2:=CY hw.u0 hw.u1 h1.1 h1.2
 refine ⟨λx hx=>?_,h2.1,EZ h2.2 wF⟩
 obtain ⟨p,hp,rfl⟩:=List.mem_map.mp hx
 have h3:=hw.w _ (List.of_mem_zip hp).1
 have h4:=HJ hf hd.2 hso (hs _ (List.of_mem_zip hp).2)
 have h5:=CY h3.1 h3.2 h4.1 h4.2
 exact ⟨h5.1,EZ h5.2 wF⟩
theorem Ya {n:Nat} {sf:Bool} {p:SP} {u so:Int} {said:List (Option Int)} {ws:List Int} (h:C5 sf p) (hw:DY n ws u) (hl:(ws.length:Int)=p.m) (hs:Bn p.m p.sc said) (hso:0<=so/\so<=p.sc):DY (n+1) (F9 sf p said so ws) (GU sf p said so ws u)/\((F9 sf p said so ws).length:Int)=p.m:=by
 have hs1:=hs.1
 have h24:=hs.2.1
 have hd:=EJ (Ed (ws:=ws) hs (by have:=h.f.s1; omega) (λw h=>(hw.w w h).1)) hso
 cases sf
 ·refine ⟨RE h.f hw hs.2.2 hso hd,?_⟩
  show ((BT _ _ _ _ _ _ _).length:Int)=_
  rw [F2 wF]; exact hl
 ·refine ⟨RF h.so hw wF wF hs.2.2 hso hd,?_⟩
  show ((Df _ _).length:Int)=_
  rw [Zd,F2 wF]; exact hl
def D2 (sc:List Int) (as:List Nat) (k:Nat):Prop:=k∈as/\∀ j∈as,sc.getD k 0<=sc.getD j 0/\(sc.getD j 0=sc.getD k 0->k<=j)
theorem D2.uniq {sc:List Int} {as:List Nat} {j k:Nat} (h:D2 sc as j) (g:D2 sc as k):j=k:=by
 have h1:=h.2 k g.1
 have g1:=g.2 j h.1
 have e:sc.getD j 0=sc.getD k 0:=by omega
 have:=h1.2 e.symm
 have:=g1.2 e
 omega
def GY (sc:List Int):List Nat->Option Nat
 | []=>none
 | k::as=>match GY sc as with
  | none=>some k
  | some j=>if sc.getD j 0<sc.getD k 0 then some j else some k
theorem IJ (sc:List Int):∀ as:List Nat,as.Pairwise (· < ·)->as≠[]->∃ k,GY sc as=some k/\D2 sc as k
 | [],_,h=>absurd rfl h
 | k::as,hp,_=>by
  obtain ⟨hk,hp⟩:=List.pairwise_cons.mp hp
  unfold GY
  by_cases h0:as=[]
  ·subst h0
   refine ⟨k,rfl,List.mem_cons_self,λj hj=>?_⟩
   rcases List.mem_cons.mp hj with rfl | hj
   ·exact ⟨Int.le_refl _,λ_=>Nat.le_refl _⟩
   ·cases hj
  ·obtain ⟨j,e,hj⟩:=IJ sc as hp h0
   rw [e]
   by_cases hd:sc.getD j 0<sc.getD k 0
   ·refine ⟨j,if_pos hd,List.mem_cons_of_mem _ hj.1,λi hi=>?_⟩
    rcases List.mem_cons.mp hi with rfl | hi
    ·exact ⟨by omega,λz=>by omega⟩
    ·exact hj.2 i hi
   ·refine ⟨k,if_neg hd,List.mem_cons_self,λi hi=>?_⟩
    rcases List.mem_cons.mp hi with rfl | hi
    ·exact ⟨Int.le_refl _,λ_=>Nat.le_refl _⟩
    ·have:=hj.2 i hi
     have:=hk i hi
     exact ⟨by omega,λ_=>by omega⟩
theorem QS (said:List (Option Int)):(ax said).Pairwise (· < ·):=List.Pairwise.filter _ List.pairwise_lt_range
def D7 (sc:List Int) (said:List (Option Int)):Int:=match GY sc (ax said) with
 | none=>0
 | some k=>(Az said k).getD 0
theorem T3 {sc:List Int} {said:List (Option Int)} (h:ax said=[]):D7 sc said=0:=by unfold D7; rw [h]; rfl
theorem Oz {sc:List Int} {said:List (Option Int)} {k:Nat} (h:D2 sc (ax said) k):D7 sc said=(Az said k).getD 0:=by
 obtain ⟨j,e,hj⟩:=IJ sc (ax said) (QS said) (List.ne_nil_of_mem h.1)
 unfold D7
 rw [e,hj.uniq h]
def CO (said:List (Option Int)) (so:Int) (sc:List Int):List Int:=(sc.zip said).map λp=>p.1+BM p.2 so
theorem Pm {said:List (Option Int)} {so:Int} {sc:List Int} (h:sc.length=said.length):(CO said so sc).length=sc.length:=by
 unfold CO
 rw [List.length_map,List.length_zip]
 omega
theorem WU {said:List (Option Int)} {so:Int} {sc:List Int} {k:Nat} (h:sc.length=said.length) (hk:k<said.length):(CO said so sc).getD k 0=sc.getD k 0+BM (Az said k) so:=by
 unfold CO Az
 rw [List.getD_eq_getElem?_getD,List.getElem?_map,List.getElem?_eq_getElem (show k<(sc.zip said).length by rw [List.length_zip]; omega),List.getElem_zip,List.getD_eq_getElem?_getD,List.getElem?_eq_getElem (show k<sc.length by omega),List.getElem?_eq_getElem hk]
 rfl
def Cp (m s:Int) (ps sc:List Int):List (Str×D):=[("many",.int m),("scale",.int s),("push",.tup (ps.map D.int)),("reached",.tup (sc.map D.int))]
def g2 (m s:Int):List (Str×D):=[("many",.int m),("scale",.int s)]
def g3 (m s:Int) (d:D):List (Str×D):=[("many",.int m),("scale",.int s),("push",d)]
theorem Uz (m s:Int) (d:D):A9 "push" d (g2 m s)=g3 m s d:=by
 unfold g2
 rw [AE wD,AE wD]
 rfl
theorem Uy (m s:Int) (ps sc:List Int):A9 "reached" (.tup (sc.map D.int)) (g3 m s (.tup (ps.map D.int)))=Cp m s ps sc:=by
 unfold g3
 rw [AE wD,AE wD,AE wD]
 rfl
theorem Yu (m s:Int) (ps sc s2:List Int):A9 "reached" (.tup (s2.map D.int)) (Cp m s ps sc)=Cp m s ps s2:=by
 unfold Cp
 rw [AE wD,AE wD,AE wD,EC]
section
variable (m s:Int) (ps sc:List Int)
theorem IM:(Cp m s ps sc).lookup ("many" : Str)=some (.int m):=Bs
theorem IK:(Cp m s ps sc).lookup ("scale" : Str)=some (.int s):=by unfold Cp; rw [Ao wD,Bs]
theorem Qe:(Cp m s ps sc).lookup ("push" : Str)=some (.tup (ps.map D.int)):=by unfold Cp; rw [Ao wD,Ao wD,Bs]
theorem L0:(Cp m s ps sc).lookup ("reached" : Str)=some (.tup (sc.map D.int)):=by unfold Cp; rw [Ao wD,Ao wD,Ao wD,Bs]
theorem IL {f:Str} (h:([("many" : Str),"scale","push","reached"].all λg=>!(f==g))=true):(Cp m s ps sc).lookup f=none:=by
 simp only [List.all_cons,List.all_nil,Bool.and_true,Bool.and_eq_true,Bool.not_eq_true'] at h
 obtain ⟨h1,h2,h3,h4⟩:=h
 unfold Cp
 rw [Ao h1,Ao h2,Ao h3,Ao h4]
 rfl
end
theorem Ys (m s:Int) (d:D):(g3 m s d).lookup ("push" : Str)=some d:=by unfold g3; rw [Ao wD,Ao wD,Bs]
def Hy (CK0:Addr) (O:Ad) (q:Nat) (m s:Int) (ps sc:List Int):Prop:=O[q]?=some (some (.ins CK0 (Cp m s ps sc)))
def Eo (m:Int) (ps:List Int):Prop:=(ps.length:Int)=m/\∀ p∈ps,0<=p/\p<=10 ^ (60:Int).toNat-1
def Lr:Option (List Int)->D
 | none=>.non
 | some ps=>.tup (ps.map D.int)
def FW (m:Int) (po:Option (List Int)):List Int:=po.getD (List.replicate m.toNat 0)
def NH:List D->D->Prop:=λds d=>∃ (m:Int) (ps:List Int),ds=[.int m,.tup (ps.map D.int)]/\Eo m ps/\m<=24/\d=.non
def NG:List D->D->Prop:=λds d=>∃ (m:Int) (po:Option (List Int)),ds=[.int m,Lr po]/\(1<=m/\m<=24)/\Eo m (FW m po)/\d=.tup ((FW m po).map D.int)
def NY:List D->D->Prop:=λds d=>∃ (sc:List Int) (as:List Nat) (k:Nat),ds=[.tup (sc.map D.int),.lst (as.map λk=>D.int (k:Nat))]/\as.length<=24/\(∀ k∈as,k<sc.length)/\D2 sc as k/\d=.int (k:Nat)
def Gy (CK0:Addr):AQ:=λds O R=>∃ (q:Nat) (m s:Int) (po:Option (List Int)),ds=[.ptr q,.int m,.int s,Lr po]/\O[q]?=some (some (.ins CK0 []))/\(1<=m/\m<=24)/\(1<=s/\s<=10)/\Eo m (FW m po)/\R .non (O.set q (some (.ins CK0 (Cp m s (FW m po) (FW m po)))))
def NB (CK0:Addr):AQ:=λds O R=>∃ (q:Nat) (m s:Int) (ps sc:List Int),ds=[.ptr q]/\Hy CK0 O q m s ps sc/\R (.tup (sc.map D.int)) O
def EQ (CK0:Addr):AQ:=λds O R=>∃ (q:Nat) (m s:Int) (ps sc:List Int) (said:List (Option Int)),ds=[.ptr q,.tup (said.map od)]/\Hy CK0 O q m s ps sc/\(1<=m/\m<=24)/\Bn m s said/\(sc.length:Int)=m/\R (.int (D7 sc said)) O
def FG (CK0:Addr):AQ:=λds O R=>∃ (q:Nat) (m s so:Int) (ps sc:List Int) (said:List (Option Int)),ds=[.ptr q,.tup (said.map od),.int so]/\Hy CK0 O q m s ps sc/\(1<=m/\m<=24)/\Bn m s said/\(0<=so/\so<=s)/\(sc.length:Int)=m/\R .non (O.set q (some (.ins CK0 (Cp m s ps (CO said so sc)))))
def FK (CK0:Addr):AQ:=λds O R=>∃ (q:Nat) (m s:Int) (ps sc:List Int),ds=[.ptr q]/\Hy CK0 O q m s ps sc/\(1<=m/\m<=24)/\(1<=s/\s<=10)/\Eo m ps/\R (.ptr O.length) (O++[some (.ins CK0 (Cp m s ps ps))])
theorem Jp (n:Nat):(List.replicate n [D.int 0]).flatten=(List.replicate n (0:Int)).map D.int:=by rw [Ll,List.map_replicate]
theorem Xb {sc:List Int} {as:List Nat} {k:Nat} (h:D2 sc as k):Fb (as.map λk=>(sc.getD k 0,((k:Nat):Int)))=(sc.getD k 0,((k:Nat):Int)):=by
 have hne:(as.map λk=>(sc.getD k 0,((k:Nat):Int)))≠[]:=λz=>by
  rw [List.map_eq_nil_iff] at z
  have:=h.1
  rw [z] at this
  cases this
 obtain ⟨j,hj,e⟩:=List.mem_map.mp (W9 hne)
 have hj2:D2 sc as j:=by
  refine ⟨hj,λi hi=>?_⟩
  have:=Xa (List.mem_map.mpr ⟨i,hi,rfl⟩:(sc.getD i 0,((i:Nat):Int))∈as.map λk=>(sc.getD k 0,((k:Nat):Int)))
  rw [<- e] at this
  have:=of_decide_eq_false this
  refine ⟨?_,λz=>?_⟩ <;> simp only [] at this <;> omega
 rw [<- e,hj2.uniq h]
theorem Yv {sc:List Int} (h:1<=sc.length):∃ k,D2 sc (List.range sc.length) k:=by
 obtain ⟨k,_,hk⟩:=IJ sc (List.range sc.length) List.pairwise_lt_range (by intro z; have:=congrArg List.length z; rw [List.length_range] at this; have:sc.length=0:=this; omega)
 exact ⟨k,hk⟩
theorem T2 {m s:Int} {sc:List Int} {said:List (Option Int)} (hs:Bn m s said) (h0:0<=s):0<=D7 sc said/\D7 sc said<=s:=by
 unfold D7
 cases e:GY sc (ax said) with
 | none=>exact ⟨Int.le_refl _,h0⟩
 | some k=>
  show 0<=(Az said k).getD 0/\(Az said k).getD 0<=s
  unfold Az
  by_cases hk:k<said.length
  ·rw [List.getElem?_eq_getElem hk]
   show 0<=(said[k]).getD 0/\(said[k]).getD 0<=s
   have hw:=hs.2.2 _ (List.getElem_mem hk)
   generalize said[k]=w at hw
   cases w with
   | none=>exact ⟨Int.le_refl _,h0⟩
   | some x=>exact FZ (hw.resolve_left (λz=>by cases z))
  ·rw [List.getElem?_eq_none wF]
   exact ⟨Int.le_refl _,h0⟩
def BY (m s:Int) (ins:List Bool) (ov:Int):List (Str×D):=[("many",.int m),("scale",.int s),("inside",.tup (ins.map D.bl)),("over",.int ov)]
def CK (b:Bool):Int:=if b=true then 1 else 0
def r2 (m s:Int):List (Str×D):=[("many",.int m),("scale",.int s)]
def r3 (m s:Int) (d:D):List (Str×D):=[("many",.int m),("scale",.int s),("inside",d)]
theorem Ut (m s:Int) (d:D):A9 "inside" d (r2 m s)=r3 m s d:=by
 unfold r2
 rw [AE wD,AE wD]
 rfl
theorem Us (m s ov:Int) (ins:List Bool):A9 "over" (.int ov) (r3 m s (.tup (ins.map D.bl)))=BY m s ins ov:=by
 unfold r3
 rw [AE wD,AE wD,AE wD]
 rfl
theorem OC (m s ov:Int) (ins js:List Bool):A9 "inside" (.tup (js.map D.bl)) (BY m s ins ov)=BY m s js ov:=by
 unfold BY
 rw [AE wD,AE wD,EC]
theorem T9 (m s ov o2:Int) (ins:List Bool):A9 "over" (.int o2) (BY m s ins ov)=BY m s ins o2:=by
 unfold BY
 rw [AE wD,AE wD,AE wD,EC]
section
variable (m s ov:Int) (ins:List Bool)
theorem GL:(BY m s ins ov).lookup ("many" : Str)=some (.int m):=Bs
theorem Ih:(BY m s ins ov).lookup ("scale" : Str)=some (.int s):=by unfold BY; rw [Ao wD,Bs]
theorem OE:(BY m s ins ov).lookup ("inside" : Str)=some (.tup (ins.map D.bl)):=by unfold BY; rw [Ao wD,Ao wD,Bs]
theorem OD:(BY m s ins ov).lookup ("over" : Str)=some (.int ov):=by unfold BY; rw [Ao wD,Ao wD,Ao wD,Bs]
theorem GK {f:Str} (h:([("many" : Str),"scale","inside","over"].all λg=>!(f==g))=true):(BY m s ins ov).lookup f=none:=by
 simp only [List.all_cons,List.all_nil,Bool.and_true,Bool.and_eq_true,Bool.not_eq_true'] at h
 obtain ⟨h1,h2,h3,h4⟩:=h
 unfold BY
 rw [Ao h1,Ao h2,Ao h3,Ao h4]
 rfl
end
def Gj (CK2:Addr) (O:Ad) (q:Nat) (m s:Int) (ins:List Bool) (ov:Int):Prop:=O[q]?=some (some (.ins CK2 (BY m s ins ov)))
def BN (said:List (Option Int)) (so:Int) (ins:List Bool):List Bool:=(ins.zip said).map λp=>p.1&&decide (BM p.2 so=0)
def DP (said:List (Option Int)) (so:Int) (ins:List Bool):List Bool:=if (BN said so ins).any id=true then BN said so ins else List.replicate ins.length true
def ED (said:List (Option Int)) (so:Int) (ins:List Bool) (ov:Int):Int:=if (BN said so ins).any id=true then ov else ov+1
def Bi (ins:List Bool):List Int:=ins.map CK
theorem Js (ins:List Bool):B8 (Bi ins):=λw h=>by
 obtain ⟨b,_,rfl⟩:=List.mem_map.mp h
 unfold CK
 split <;> decide
theorem Ye (ins:List Bool):(ins.map λq=>if q=true then D.int 1 else D.int 0)=(Bi ins).map D.int:=by
 unfold Bi
 rw [List.map_map]
 refine List.map_congr_left λb _=>?_
 show (if b=true then D.int 1 else D.int 0)=D.int (CK b)
 unfold CK
 cases b <;> rfl
theorem LH {said:List (Option Int)} {so:Int} {ins:List Bool} (h:ins.length=said.length):(BN said so ins).length=ins.length:=by
 unfold BN
 rw [List.length_map,List.length_zip]
 omega
theorem WV {said:List (Option Int)} {so:Int} {ins:List Bool} (h:ins.length=said.length):(DP said so ins).length=ins.length:=by
 unfold DP
 split
 ·exact LH h
 ·rw [List.length_replicate]
theorem M8 (n:Nat):(List.replicate n [D.bl true]).flatten=(List.replicate n true).map D.bl:=by rw [Ll,List.map_replicate]
def JT (CK2:Addr):AQ:=λds O R=>∃ (q:Nat) (m s:Int),ds=[.ptr q,.int m,.int s]/\O[q]?=some (some (.ins CK2 []))/\(1<=m/\m<=24)/\(1<=s/\s<=10)/\R .non (O.set q (some (.ins CK2 (BY m s (List.replicate m.toNat true) 0))))
def NF (CK2:Addr):AQ:=λds O R=>∃ (q:Nat) (m s ov:Int) (ins:List Bool),ds=[.ptr q]/\Gj CK2 O q m s ins ov/\R (.int ov) O
def NR (CK2:Addr):AQ:=λds O R=>∃ (q:Nat) (m s ov:Int) (ins:List Bool),ds=[.ptr q]/\Gj CK2 O q m s ins ov/\ins.length<=24/\R (.tup ((Bi ins).map D.int)) O
def FE (CK2:Addr):AQ:=λds O R=>∃ (q:Nat) (m s ov so:Int) (ins:List Bool) (said:List (Option Int)),ds=[.ptr q,.tup (said.map od),.int so]/\Gj CK2 O q m s ins ov/\(1<=m/\m<=24)/\Bn m s said/\(0<=so/\so<=s)/\(ins.length:Int)=m/\R .non (O.set q (some (.ins CK2 (BY m s (DP said so ins) (ED said so ins ov)))))
def FI (CK2:Addr):AQ:=λds O R=>∃ (q:Nat) (m s ov:Int) (ins:List Bool),ds=[.ptr q]/\Gj CK2 O q m s ins ov/\(1<=m/\m<=24)/\(1<=s/\s<=10)/\R (.ptr O.length) (O++[some (.ins CK2 (BY m s (List.replicate m.toNat true) 0))])
theorem LR {m s:Int} {f:Str} (h:([("many" : Str),"scale"].all λg=>!(f==g))=true):(BK m s).lookup f=none:=by
 simp only [List.all_cons,List.all_nil,Bool.and_true,Bool.and_eq_true,Bool.not_eq_true'] at h
 unfold BK
 rw [Ao h.1,Ao h.2]
 rfl
def FF (CK1:Addr):AQ:=λds O R=>∃ (q:Nat) (m sc so:Int) (said:List (Option Int)),ds=[.ptr q,.tup (said.map od),.int so]/\O[q]?=some (some (.ins CK1 (BK m sc)))/\Bn m sc said/\(0<=so/\so<=sc)/\R .non O
def FJ (CK1:Addr):AQ:=λds O R=>∃ (q:Nat) (m sc:Int),ds=[.ptr q]/\O[q]?=some (some (.ins CK1 (BK m sc)))/\(1<=m/\m<=24)/\(1<=sc/\sc<=10)/\R (.ptr O.length) (O++[some (.ins CK1 (BK m sc))])
theorem ST {O:Ad} {q:Nat} {x:Option MO} (h:O[q]?=some x):O.set q x=O:=by
 refine List.ext_getElem? λi=>?_
 by_cases z:q=i
 ·subst z
  rw [Cb h]
  exact h.symm
 ·rw [List.getElem?_set_ne z]
def Ew (isC:Addr->Prop):AQ:=λds O R=>∃ (q:Nat) (m s:Int) (C:Addr),ds=[.ptr q,.int m,.int s]/\isC C/\O[q]?=some (some (.ins C []))/\(1<=m/\m<=24)/\(1<=s/\s<=10)/\R .non (O.set q (some (.ins C (BK m s))))
def BG (CH CW CS CR:Addr):AQ:=λds O R=>∃ (q:Nat) (m s:Int) (ws:List Int) (said:List (Option Int)),ds=[.ptr q,.tup (said.map od)]/\((O[q]?=some (some (.ins CH (BK m s)))/\ws=List.replicate m.toNat 1)\/(∃ sf p u,DZ CW CS O q sf p ws u/\p.m=m/\p.sc=s)\/∃ ins ov,Gj CR O q m s ins ov/\ws=Bi ins)/\(1<=m/\m<=24)/\Bn m s said/\(ws.length:Int)=m/\B8 ws/\R (.int (AK said ws)) O
inductive Hv where
 | h | v (sf:Bool) (p:SP) (ws:List Int) (u:Int) | r (ins:List Bool) (ov:Int) | f (ps sc:List Int)
def DT (CH CW CS CR CF:Addr) (m s:Int):Hv->MO
 | .h=>.ins CH (BK m s)
 | .v sf p ws u=>.ins (CM CW CS sf) (Cj sf p ws u)
 | .r ins ov=>.ins CR (BY m s ins ov)
 | .f ps sc=>.ins CF (Cp m s ps sc)
def BU (n m:Nat) (s:Int):Hv->Prop
 | .h=>True
 | .v sf p ws u=>C5 sf p/\p.m=(m:Nat)/\p.sc=s/\DY n ws u/\ws.length=m
 | .r ins _=>ins.length=m
 | .f ps sc=>Eo (m:Nat) ps/\sc.length=m
def EY (m:Nat) (said:List (Option Int)):Hv->Int
 | .h=>AK said (List.replicate m 1)
 | .v _ _ ws _=>AK said ws
 | .r ins _=>AK said (Bi ins)
 | .f _ sc=>D7 sc said
def DU (said:List (Option Int)) (so:Int):Hv->Hv
 | .h=>.h
 | .v sf p ws u=>.v sf p (F9 sf p said so ws) (GU sf p said so ws u)
 | .r ins ov=>.r (DP said so ins) (ED said so ins ov)
 | .f ps sc=>.f ps (CO said so sc)
def Hh (m:Nat):Hv->Hv
 | .h=>.h
 | .v sf p _ _=>.v sf p (List.replicate m 1) 1
 | .r _ _=>.r (List.replicate m true) 0
 | .f ps _=>.f ps ps
theorem BU.hear {n m:Nat} {s so:Int} {said:List (Option Int)} {v:Hv} (h:BU n m s v) (hs:Bn (m:Nat) s said) (hso:0<=so/\so<=s):BU (n+1) m s (DU said so v):=by
 have hl:=hs.1
 cases v with
 | h=>exact h
 | v sf p ws u=>
  obtain ⟨h1,h2,h3,h4,h5⟩:=h
  obtain ⟨g1,g2⟩:=Ya h1 h4 (by rw [h2,h5]) (by rw [h2,h3]; exact hs) (by rw [h3]; exact hso)
  exact ⟨h1,h2,h3,g1,by have:=g2.trans h2; omega⟩
 | r ins ov=>
  have h:ins.length=m:=h
  show (DP said so ins).length=m
  rw [WV wF]; exact h
 | f ps sc=>exact ⟨h.1,by rw [Pm (by have:=h.2; omega)]; exact h.2⟩
theorem BU.anew {n m:Nat} {s:Int} {v:Hv} (h:BU n m s v):BU 0 m s (Hh m v):=by
 cases v with
 | h=>exact h
 | v sf p ws u=>exact ⟨h.1,h.2.1,h.2.2.1,Jx m,List.length_replicate⟩
 | r ins ov=>exact List.length_replicate
 | f ps sc=>exact ⟨h.1,by have:=h.1.1; omega⟩
theorem T4 {n m:Nat} {s:Int} {said:List (Option Int)} {v:Hv} (h:BU n m s v) (hs:Bn (m:Nat) s said) (h0:0<=s):0<=EY m said v/\EY m said v<=s:=by
 cases v with
 | h=>exact Ed hs h0 (λw hw=>by rw [List.eq_of_mem_replicate hw]; decide)
 | v sf p ws u=>exact Ed hs h0 (λw hw=>(h.2.2.2.1.w w hw).1)
 | r ins ov=>exact Ed hs h0 (Js ins)
 | f ps sc=>exact T2 hs h0
section
variable {X:Cx} {ρ:Aj} {O:Ad} {CH CW CS CR CF:Addr} {o e e2:Expr} {q n m k1 k2 k3 k4 k6:Nat} {s so:Int} {v:Hv} {said:List (Option Int)} {R:D->Ad->Prop} {pos apos:Pos}
theorem YF {pl:Sem Bool} (M1:Al X.prog X.w X.K X.mg X.base CH k1 "say" (BG CH CW CS CR)) (M2:Al X.prog X.w X.K X.mg X.base CW k1 "say" (BG CH CW CS CR)) (M3:Al X.prog X.w X.K X.mg X.base CS k1 "say" (BG CH CW CS CR)) (M4:Al X.prog X.w X.K X.mg X.base CR k1 "say" (BG CH CW CS CR)) (r1:AR k1 X.A) (M6:Al X.prog X.w X.K X.mg X.base CF k6 "say" (EQ CF)) (r6:AR k6 X.A)
  (ho:Ae X ρ O o (.ptr q)) (hq:O[q]?=some (some (DT CH CW CS CR CF (m:Nat) s v))) (hok:BU n m s v) (hm:1<=m/\m<=24) (hs:Bn (m:Nat) s said) (ha:BZ X ρ O [e] [.tup (said.map od)])
  (hst:starEach [e] X.env=(false,eval e X.env)::starEach [] X.env:=by rfl) (hpl:(backTo pos (starEach [] X.env)).any (·.1)=false:=by rfl)
  (ht:eval (.Call (.Attribute o "say" apos) [e] [] pos) X.env=(do
   let ov <- eval o X.env
   standAt apos.atName
   let (f,first) <- holding [ov] (getMethod ov "say" pl)
   callWith pos f first (backTo pos (starEach [e] X.env)) (backToKw pos (keywordEach [] X.env))):=by rfl):Ae X ρ O (.Call (.Attribute o "say" apos) [e] [] pos) (.int (EY m said v)):=by
 have hmI:(1:Int)<=(m:Nat)/\((m:Nat):Int)<=24:=⟨by omega,by omega⟩
 cases v with
 | h=>exact Ev.evp (CP M1 r1 ho hq (LR wD) ha ⟨q,(m:Nat),s,List.replicate m 1,said,rfl,.inl ⟨hq,by rw [Int.toNat_natCast]⟩,hmI,hs,by rw [List.length_replicate],(λw hw=>by rw [List.eq_of_mem_replicate hw]; decide),rfl,rfl⟩ hst hpl ht)
 | v sf p ws u=>exact Ev.evp (CP (mv M2 M3 sf) r1 ho hq (Fw _ _ _ _ wD wD) ha ⟨q,(m:Nat),s,ws,said,rfl,.inr (.inl ⟨sf,p,u,hq,hok.2.1,hok.2.2.1⟩),hmI,hs,by rw [hok.2.2.2.2],(λw hw=>(hok.2.2.2.1.w w hw).1),rfl,rfl⟩ hst hpl ht)
 | r ins ov=>exact Ev.evp (CP M4 r1 ho hq (GK _ _ _ _ wD) ha ⟨q,(m:Nat),s,Bi ins,said,rfl,.inr (.inr ⟨ins,ov,hq,rfl⟩),hmI,hs,by have h:ins.length=m:=hok; rw [show (Bi ins).length=ins.length from List.length_map ..,h],Js ins,rfl,rfl⟩ hst hpl ht)
 | f ps sc=>exact Ev.evp (CP M6 r6 ho hq (IL _ _ _ _ wD) ha ⟨q,(m:Nat),s,ps,sc,said,rfl,hq,hmI,hs,by rw [hok.2],rfl,rfl⟩ hst hpl ht)
theorem YI {pl:Sem Bool} (M1:Al X.prog X.w X.K X.mg X.base CH k1 "hear" (FF CH)) (M2:Al X.prog X.w X.K X.mg X.base CW k2 "hear" (C8 CW CS false)) (M3:Al X.prog X.w X.K X.mg X.base CS k3 "hear" (C8 CW CS true)) (M4:Al X.prog X.w X.K X.mg X.base CR k4 "hear" (FE CR)) (r1:AR k1 X.A) (r2:AR (max k2 k3) X.A) (r3:AR k4 X.A) (M6:Al X.prog X.w X.K X.mg X.base CF k6 "hear" (FG CF)) (r6:AR k6 X.A)
  (ho:Ae X ρ O o (.ptr q)) (hq:O[q]?=some (some (DT CH CW CS CR CF (m:Nat) s v))) (hok:BU n m s v) (hn:n<=1000) (hm:1<=m/\m<=24) (hs:Bn (m:Nat) s said) (hso:0<=so/\so<=s) (ha:BZ X ρ O [e,e2] [.tup (said.map od),.int so]) (hR:R .non (O.set q (some (DT CH CW CS CR CF (m:Nat) s (DU said so v)))))
  (hst:starEach [e,e2] X.env=(false,eval e X.env)::starEach [e2] X.env:=by rfl) (hpl:(backTo pos (starEach [e2] X.env)).any (·.1)=false:=by rfl)
  (ht:eval (.Call (.Attribute o "hear" apos) [e,e2] [] pos) X.env=(do
   let ov <- eval o X.env
   standAt apos.atName
   let (f,first) <- holding [ov] (getMethod ov "hear" pl)
   callWith pos f first (backTo pos (starEach [e,e2] X.env)) (backToKw pos (keywordEach [] X.env))):=by rfl):Ev X ρ O (.Call (.Attribute o "hear" apos) [e,e2] [] pos) R:=by
 have hmI:(1:Int)<=(m:Nat)/\((m:Nat):Int)<=24:=⟨by omega,by omega⟩
 cases v with
 | h=>
  have hR:R .non (O.set q (some (DT CH CW CS CR CF (m:Nat) s .h))):=hR
  rw [ST hq] at hR
  exact CP M1 r1 ho hq (LR wD) ha ⟨q,(m:Nat),s,so,said,rfl,hq,hs,hso,hR⟩ hst hpl ht
 | v sf p ws u=>exact CP (mv2 (sq:=C8 CW CS) M2 M3 sf) r2 ho hq (Fw _ _ _ _ wD wD) ha ⟨q,n,p,u,so,said,ws,rfl,hq,hok.1,hn,hok.2.2.2.1,by rw [hok.2.2.2.2,hok.2.1],by rw [hok.2.1,hok.2.2.1]; exact hs,by rw [hok.2.2.1]; exact hso,hR⟩ hst hpl ht
 | r ins ov=>exact CP M4 r3 ho hq (GK _ _ _ _ wD) ha ⟨q,(m:Nat),s,ov,so,ins,said,rfl,hq,hmI,hs,hso,by have h:ins.length=m:=hok; rw [h],hR⟩ hst hpl ht
 | f ps sc=>exact CP M6 r6 ho hq (IL _ _ _ _ wD) ha ⟨q,(m:Nat),s,so,ps,sc,said,rfl,hq,hmI,hs,hso,by rw [hok.2],hR⟩ hst hpl ht
theorem YQ {pl:Sem Bool} (M1:Al X.prog X.w X.K X.mg X.base CH k1 "anew" (FJ CH)) (M2:Al X.prog X.w X.K X.mg X.base CW k2 "anew" (C9 CW CS false)) (M3:Al X.prog X.w X.K X.mg X.base CS k3 "anew" (C9 CW CS true)) (M4:Al X.prog X.w X.K X.mg X.base CR k4 "anew" (FI CR)) (r1:AR k1 X.A) (r2:AR (max k2 k3) X.A) (r3:AR k4 X.A) (M6:Al X.prog X.w X.K X.mg X.base CF k6 "anew" (FK CF)) (r6:AR k6 X.A)
  (ho:Ae X ρ O o (.ptr q)) (hq:O[q]?=some (some (DT CH CW CS CR CF (m:Nat) s v))) (hok:BU n m s v) (hm:1<=m/\m<=24) (hs:1<=s/\s<=10) (hR:R (.ptr O.length) (O++[some (DT CH CW CS CR CF (m:Nat) s (Hh m v))]))
  (ht:eval (.Call (.Attribute o "anew" apos) [] [] pos) X.env=(do
   let ov <- eval o X.env
   standAt apos.atName
   let (f,first) <- holding [ov] (getMethod ov "anew" pl)
   callWith pos f first (backTo pos (starEach [] X.env)) (backToKw pos (keywordEach [] X.env))):=by rfl):Ev X ρ O (.Call (.Attribute o "anew" apos) [] [] pos) R:=by
 have hmI:(1:Int)<=(m:Nat)/\((m:Nat):Int)<=24:=⟨by omega,by omega⟩
 cases v with
 | h=>exact Dr M1 r1 ho hq (LR wD) ⟨q,(m:Nat),s,rfl,hq,hmI,hs,hR⟩ ht
 | v sf p ws u=>exact Dr (mv2 (sq:=C9 CW CS) M2 M3 sf) r2 ho hq (Fw _ _ _ _ wD wD) ⟨q,p,u,ws,rfl,hq,hok.1,by rw [hok.2.1,Int.toNat_natCast]; exact hR⟩ ht
 | r ins ov=>exact Dr M4 r3 ho hq (GK _ _ _ _ wD) ⟨q,(m:Nat),s,ov,ins,rfl,hq,hmI,hs,by rw [Int.toNat_natCast]; exact hR⟩ ht
 | f ps sc=>exact Dr M6 r6 ho hq (IL _ _ _ _ wD) ⟨q,(m:Nat),s,ps,sc,rfl,hq,hmI,hs,hok.1,hR⟩ ht
theorem YG (c1:A7 X.K CH) (c2:A7 X.K CW) (c3:A7 X.K CS) (c4:A7 X.K CR) (n1:Ap X.K CH "many") (n2:Ap X.K CW "many") (n3:Ap X.K CS "many") (n4:Ap X.K CR "many") (c6:A7 X.K CF) (n6:Ap X.K CF "many") (ho:Ae X ρ O o (.ptr q)) (hq:O[q]?=some (some (DT CH CW CS CR CF (m:Nat) s v))) (hok:BU n m s v) (hb:attributeBase o ("many" : Str) X.env (eval o X.env)=eval o X.env:=by rfl):Ae X ρ O (.Attribute o "many" pos) (.int (m:Nat)):=by
 cases v with
 | h=>exact As ho hq c1 n1 (GV _ _) hb
 | v sf p ws u=>rw [<- hok.2.1]; exact As ho hq (cv c2 c3 sf) (nv n2 n3 sf) (MW _ _ _ _) hb
 | r ins ov=>exact As ho hq c4 n4 (GL _ _ _ _) hb
 | f ps sc=>exact As ho hq c6 n6 (IM _ _ _ _) hb
theorem YE (c1:A7 X.K CH) (c2:A7 X.K CW) (c3:A7 X.K CS) (c4:A7 X.K CR) (n1:Ap X.K CH "scale") (n2:Ap X.K CW "scale") (n3:Ap X.K CS "scale") (n4:Ap X.K CR "scale") (c6:A7 X.K CF) (n6:Ap X.K CF "scale") (ho:Ae X ρ O o (.ptr q)) (hq:O[q]?=some (some (DT CH CW CS CR CF (m:Nat) s v))) (hok:BU n m s v) (hb:attributeBase o ("scale" : Str) X.env (eval o X.env)=eval o X.env:=by rfl):Ae X ρ O (.Attribute o "scale" pos) (.int s):=by
 cases v with
 | h=>exact As ho hq c1 n1 (IH _ _) hb
 | v sf p ws u=>rw [<- hok.2.2.1]; exact As ho hq (cv c2 c3 sf) (nv n2 n3 sf) (HD _ _ _ _) hb
 | r ins ov=>exact As ho hq c4 n4 (Ih _ _ _ _) hb
 | f ps sc=>exact As ho hq c6 n6 (IK _ _ _ _) hb
theorem YH {k:Bool} {x:Str} {C2:Addr} {p p2:Pos} (hm:X.mg "isinstance" = none) (he:Ae X ρ O e (.ptr q)) (hq:O[q]?=some (some (DT CH CW CS CR CF (m:Nat) s v))) (t1:Cm X.K CH) (t2:Cm X.K CW) (t3:Cm X.K CS) (t4:Cm X.K CR) (hx:X.mg x=some (.ref C2)) (k1:PySem.W.kitOne X.K (.ref CH) (.ref C2)=some k) (k2:PySem.W.kitOne X.K (.ref CW) (.ref C2)=some k) (k3:PySem.W.kitOne X.K (.ref CS) (.ref C2)=some k) (k4:PySem.W.kitOne X.K (.ref CR) (.ref C2)=some k) (t6:Cm X.K CF) (k6':PySem.W.kitOne X.K (.ref CF) (.ref C2)=some k)
  (hg:Gl X "isinstance" := by rfl) (hgx:Gl X x:=by rfl) (hdx:(x==("__debug__" : Str))=false:=by decide) (hs:starEach [e,.Name x p2] X.env=(false,eval e X.env)::starEach [.Name x p2] X.env:=by rfl) (hpl:(backTo pos (starEach [.Name x p2] X.env)).any (·.1)=false:=by rfl) :
  Ae X ρ O (.Call (.Name "isinstance" p) [e,.Name x p2] [] pos) (.bl k):=by
 cases v with
 | h=>exact Gb hm he hq t1 hx k1 hg hgx hdx hs hpl
 | v sf p ws u=>
  cases sf
  ·exact Gb hm he hq t2 hx k2 hg hgx hdx hs hpl
  ·exact Gb hm he hq t3 hx k3 hg hgx hdx hs hpl
 | r ins ov=>exact Gb hm he hq t4 hx k4 hg hgx hdx hs hpl
 | f ps sc=>exact Gb hm he hq t6 hx k6' hg hgx hdx hs hpl
end
def JE (m s:Int) (d e:D):List (Str×D):=[("many",.int m),("scale",.int s),("hands",d),("head",e)]
def Gs (m s:Int) (d:D):List (Str×D):=[("many",.int m),("scale",.int s),("hands",d)]
theorem Uw (m s:Int) (d:D):A9 "hands" d (BK m s)=Gs m s d:=by
 unfold BK
 rw [AE wD,AE wD]
 rfl
theorem Uv (m s:Int) (d e:D):A9 "head" e (Gs m s d)=JE m s d e:=by
 unfold Gs
 rw [AE wD,AE wD,AE wD]
 rfl
section
variable (m s:Int) (q n:Nat) (ch:List Int)
end
theorem I0 {O Y:Ad} {i:Nat} {x:Option MO} (h:O[i]?=some x):(O++Y)[i]?=some x:=by rw [List.getElem?_append_left (List.getElem?_eq_some_iff.mp h).1]; exact h
theorem Iy {A Z:Ad} {x:Option MO}:(A++[x]++Z)[A.length]?=some x:=by rw [List.append_assoc,List.getElem?_append_right (Nat.le_refl _),Nat.sub_self]; rfl
theorem LD {A Z:Ad} {x y:Option MO}:(A++[x]++Z).set A.length y=A++[y]++Z:=by rw [List.append_assoc,List.set_append_right (h:=Nat.le_refl _),Nat.sub_self,List.append_assoc]; rfl
theorem ON {α:Type} (l:List α) (d:α):(List.range l.length).map (λi=>l.getD i d)=l:=by
 refine List.ext_getElem? λi=>?_
 rw [List.getElem?_map]
 by_cases hi:i<l.length
 ·rw [List.getElem?_range hi,List.getElem?_eq_getElem hi]
  show some (l.getD i d)=_
  rw [List.getD_eq_getElem?_getD,List.getElem?_eq_getElem hi]; rfl
 ·rw [List.getElem?_eq_none (by rw [List.length_range]; omega),List.getElem?_eq_none wF]; rfl
structure Cs where
 h:Addr
 w:Addr
 s:Addr
 r:Addr
 t:Addr
 f:Addr
def Cs.o (C:Cs) (m s:Int) (v:Hv):MO:=DT C.h C.w C.s C.r C.f m s v
structure TOk (n m:Nat) (s:Int) (hs:List Hv) (hd:Hv) (ch:List Int):Prop where
 h:∀ v∈hs,BU n m s v
 d:BU n hs.length s hd
 l1:1<=hs.length
 l2:hs.length<=24
 c:ch.length=hs.length
def DX (l:List Int):List (Option Int):=l.map some
theorem QY (l:List Int):(DX l).map od=l.map D.int:=by unfold DX; rw [List.map_map]; rfl
inductive Hx where
 | p (v:Hv) | t (hs:List Hv) (hd:Hv) (ch:List Int)
def BJ (n m:Nat) (s:Int):Hx->Prop
 | .p v=>BU n m s v
 | .t hs hd ch=>TOk n m s hs hd ch
structure Dv (q k:Nat) (O O':Ad):Prop where
 l:O'.length=O.length
 o:∀ j,j<q\/q+k<=j->O'[j]?=O[j]?
section
variable {X:Cx} {ρ:Aj} {O:Ad} {C:Cs} {o e e2:Expr} {q n m k1 k2 k3 k4 k5 k6:Nat} {s so:Int} {x:Hx} {said:List (Option Int)} {R:D->Ad->Prop} {pos apos:Pos}
end
def HI (ts:List Tn) (k:Nat):Tn:=ts.getD k ([],0)
theorem R0 {ts:List Tn} {k:Nat} {t:Tn} (h:ts[k]?=some t):HI ts k=t:=by unfold HI; rw [List.getD_eq_getElem?_getD,h]; rfl
inductive Hn where
 | p (v:Hv) | t (hs:List Hn) (hd:Hn) (ch:List Int)
mutual
def AO:Hn->Nat
 | .p _=>1
 | .t hs hd _=>1+AA hs+AO hd
def AA:List Hn->Nat
 | []=>0
 | x::xs=>AO x+AA xs
end
mutual
def AX:Hn->Nat
 | .p _=>0
 | .t hs hd _=>1+max (CA hs) (AX hd)
def CA:List Hn->Nat
 | []=>0
 | x::xs=>max (AX x) (CA xs)
end
mutual
def Bv:Hn->Nat->List (Option Int)->Int
 | .p v,m,said=>EY m said v
 | .t hs hd _,m,said=>Bv hd hs.length (DX (B5 hs m said))
def B5:List Hn->Nat->List (Option Int)->List Int
 | [],_,_=>[]
 | x::xs,m,said=>Bv x m said::B5 xs m said
end
mutual
def A2:Hn->Nat->List (Option Int)->Int->Hn
 | .p v,_,said,so=>.p (DU said so v)
 | .t hs hd ch,m,said,so=>.t (Ce hs m said so) (A2 hd hs.length (DX (B5 hs m said)) so) ((ch.zip (B5 hs m said)).map λx=>x.1+ab (x.2-so))
def Ce:List Hn->Nat->List (Option Int)->Int->List Hn
 | [],_,_,_=>[]
 | x::xs,m,said,so=>A2 x m said so::Ce xs m said so
end
mutual
def AI:Hn->Nat->Hn
 | .p v,m=>.p (Hh m v)
 | .t hs hd _,m=>.t (Cl hs m) (AI hd hs.length) (List.replicate hs.length 0)
def Cl:List Hn->Nat->List Hn
 | [],_=>[]
 | x::xs,m=>AI x m::Cl xs m
end
def BR:List Hn->Nat->List Nat
 | [],_=>[]
 | x::xs,q=>q::BR xs (q+AO x)
def BQ (m s:Int) (ps:List Nat) (h:Nat) (ch:List Int):List (Str×D):=[("many",.int m),("scale",.int s),("hands",.tup (ps.map D.ptr)),("head",.ptr h),("charged",.tup (ch.map D.int))]
mutual
def Ay (C:Cs) (O:Ad):Hn->Nat->Nat->Int->Prop
 | .p v,q,m,s=>O[q]?=some (some (C.o (m:Nat) s v))
 | .t hs hd ch,q,m,s=>O[q]?=some (some (.ins C.t (BQ (m:Nat) s (BR hs (q+1)) (q+1+AA hs) ch)))/\CU C O hs (q+1) m s/\Ay C O hd (q+1+AA hs) hs.length s
def CU (C:Cs) (O:Ad):List Hn->Nat->Nat->Int->Prop
 | [],_,_,_=>True
 | x::xs,q,m,s=>Ay C O x q m s/\CU C O xs (q+AO x) m s
end
mutual
def AS (n:Nat):Hn->Nat->Int->Prop
 | .p v,m,s=>BU n m s v
 | .t hs hd ch,m,s=>B4 n hs m s/\AS n hd hs.length s/\(1<=hs.length/\hs.length<=24)/\ch.length=hs.length
def B4 (n:Nat):List Hn->Nat->Int->Prop
 | [],_,_=>True
 | x::xs,m,s=>AS n x m s/\B4 n xs m s
end
mutual
theorem ET:∀ (x:Hn) (m:Nat) (said:List (Option Int)) (so:Int),AO (A2 x m said so)=AO x
 | .p v,_,_,_=>by simp only [A2,AO]
 | .t hs hd ch,m,said,so=>by simp only [A2,AO]; rw [GE hs,ET hd]
theorem GE:∀ (xs:List Hn) (m:Nat) (said:List (Option Int)) (so:Int),AA (Ce xs m said so)=AA xs
 | [],_,_,_=>by simp only [Ce,AA]
 | x::xs,m,said,so=>by simp only [Ce,AA]; rw [ET x,GE xs]
end
mutual
theorem HS:∀ (x:Hn) (m:Nat),AO (AI x m)=AO x
 | .p v,_=>by simp only [AI,AO]
 | .t hs hd ch,m=>by simp only [AI,AO]; rw [Od hs,HS hd]
theorem Od:∀ (xs:List Hn) (m:Nat),AA (Cl xs m)=AA xs
 | [],_=>by simp only [Cl,AA]
 | x::xs,m=>by simp only [Cl,AA]; rw [HS x,Od xs]
end
theorem IB:∀ (xs:List Hn) (m:Nat) (said:List (Option Int)),(B5 xs m said).length=xs.length
 | [],_,_=>rfl
 | x::xs,m,said=>by simp only [B5,List.length_cons]; rw [IB xs]
theorem IC:∀ (xs:List Hn) (m:Nat) (said:List (Option Int)) (so:Int),(Ce xs m said so).length=xs.length
 | [],_,_,_=>rfl
 | x::xs,m,said,so=>by simp only [Ce,List.length_cons]; rw [IC xs]
theorem F5:∀ (xs:List Hn) (m:Nat),(Cl xs m).length=xs.length
 | [],_=>rfl
 | x::xs,m=>by simp only [Cl,List.length_cons]; rw [F5 xs]
theorem Pe:∀ (xs:List Hn) (q:Nat),(BR xs q).length=xs.length
 | [],_=>rfl
 | x::xs,q=>by simp only [BR,List.length_cons]; rw [Pe xs]
theorem GD (x:Hn):1<=AO x:=by cases x <;> simp only [AO] <;> omega
theorem Pf:∀ (xs ys:List Hn) (q:Nat),xs.map AO=ys.map AO->BR xs q=BR ys q
 | [],[],_,_=>rfl
 | [],y::ys,_,h=>by cases h
 | x::xs,[],_,h=>by cases h
 | x::xs,y::ys,q,h=>by
  injection h with h1 h2
  simp only [BR]
  rw [h1,Pf xs ys _ h2]
theorem Pg:∀ (xs:List Hn) (q i:Nat),i<xs.length->(BR xs q)[i]?=some (q+AA (xs.take i))
 | [],_,_,h=>absurd h (Nat.not_lt_zero _)
 | x::xs,q,0,_=>by simp [BR,AA]
 | x::xs,q,i+1,h=>by
  simp only [BR,List.getElem?_cons_succ,List.take_succ_cons,AA]
  rw [Pg xs _ i (by simpa using h),Nat.add_assoc]
theorem Hr {C:Cs} {O:Ad} {m:Nat} {s:Int}:∀ (xs:List Hn) (q:Nat),CU C O xs q m s ↔ ∀ i x,xs[i]?=some x->Ay C O x (q+AA (xs.take i)) m s
 | [],q=>by simp [CU]
 | y::xs,q=>by
  simp only [CU]
  rw [Hr xs]
  constructor
  ·rintro ⟨h1,h2⟩ i x hx
   cases i with
   | zero=>cases hx; simpa [AA] using h1
   | succ i=>
    have:=h2 i x (by simpa using hx)
    simp only [List.take_succ_cons,AA]
    rw [<- Nat.add_assoc]; exact this
  ·intro h
   refine ⟨by simpa [AA] using h 0 y rfl,λi x hx=>?_⟩
   have:=h (i+1) x (by simpa using hx)
   simp only [List.take_succ_cons,AA] at this
   rw [<- Nat.add_assoc] at this; exact this
theorem Hq {n m:Nat} {s:Int}:∀ (xs:List Hn),B4 n xs m s ↔ ∀ x∈xs,AS n x m s
 | []=>by simp [B4]
 | y::xs=>by
  simp only [B4]
  rw [Hq xs]
  simp
theorem Q8 {C:Cs} {O O':Ad}:∀ (k:Nat),(∀ (x:Hn) (q m:Nat) (s:Int),AO x<=k->(∀ j,q<=j->j<q+AO x->O'[j]?=O[j]?)->Ay C O x q m s->Ay C O' x q m s)/\∀ (xs:List Hn) (q m:Nat) (s:Int),AA xs<=k->(∀ j,q<=j->j<q+AA xs->O'[j]?=O[j]?)->CU C O xs q m s->CU C O' xs q m s
 | 0=>by
  refine ⟨λx q m s h=>absurd h (by have:=GD x; omega),λxs q m s h hj hN=>?_⟩
  cases xs with
  | nil=>simp [CU]
  | cons x xs=>simp only [AA] at h; have:=GD x; omega
 | k+1=>by
  obtain ⟨ih1,ih2⟩:=Q8 (C:=C) (O:=O) (O':=O') k
  have one:∀ (x:Hn) (q m:Nat) (s:Int),AO x<=k+1->(∀ j,q<=j->j<q+AO x->O'[j]?=O[j]?)->Ay C O x q m s->Ay C O' x q m s:=λx q m s h hj hN=>by
   cases x with
   | p v=>
    simp only [Ay,AO] at *
    rw [hj q (Nat.le_refl _) wF]; exact hN
   | t hs hd ch=>
    simp only [Ay,AO] at *
    have:=GD hd
    refine ⟨by rw [hj q (Nat.le_refl _) wF]; exact hN.1,ih2 hs _ _ _ wF (λj h1 h2=>hj j wF wF) hN.2.1,ih1 hd _ _ _ wF (λj h1 h2=>hj j wF wF) hN.2.2⟩
  refine ⟨one,λxs q m s h hj hN=>?_⟩
  cases xs with
  | nil=>simp [CU]
  | cons x xs=>
   simp only [CU,AA] at *
   have:=GD x
   exact ⟨one x _ _ _ wF (λj h1 h2=>hj j h1 wF) hN.1,ih2 xs _ _ _ wF (λj h1 h2=>hj j wF wF) hN.2⟩
theorem Ay.own {C:Cs} {O O':Ad} {x:Hn} {q m:Nat} {s:Int} (h:Ay C O x q m s) (hj:∀ j,q<=j->j<q+AO x->O'[j]?=O[j]?):Ay C O' x q m s:=(Q8 _).1 x q m s (Nat.le_refl _) hj h
mutual
def Bm (C:Cs):Hn->Nat->Nat->Int->Ad
 | .p v,_,m,s=>[some (C.o (m:Nat) s v)]
 | .t hs hd ch,q,m,s=>some (.ins C.t (BQ (m:Nat) s (BR hs (q+1)) (q+1+AA hs) ch))::(Bq C hs (q+1) m s++Bm C hd (q+1+AA hs) hs.length s)
def Bq (C:Cs):List Hn->Nat->Nat->Int->Ad
 | [],_,_,_=>[]
 | x::xs,q,m,s=>Bm C x q m s++Bq C xs (q+AO x) m s
end
mutual
theorem GT (C:Cs):∀ (x:Hn) (q m:Nat) (s:Int),(Bm C x q m s).length=AO x
 | .p v,_,_,_=>by simp only [Bm,AO,List.length_cons,List.length_nil]
 | .t hs hd ch,q,m,s=>by simp only [Bm,AO,List.length_cons,List.length_append]; rw [F4 C hs,GT C hd]; omega
theorem F4 (C:Cs):∀ (xs:List Hn) (q m:Nat) (s:Int),(Bq C xs q m s).length=AA xs
 | [],_,_,_=>by simp only [Bq,AA,List.length_nil]
 | x::xs,q,m,s=>by simp only [Bq,AA,List.length_append]; rw [GT C x,F4 C xs]
end
mutual
theorem F6 (C:Cs):∀ (x:Hn) (A B:Ad) (m:Nat) (s:Int),Ay C (A++Bm C x A.length m s++B) x A.length m s
 | .p v,A,B,m,s=>by simp only [Bm,Ay]; exact Iy
 | .t hs hd ch,A,B,m,s=>by
  simp only [Bm,Ay]
  generalize hT:(some (MO.ins C.t (BQ (m:Nat) s (BR hs (A.length+1)) (A.length+1+AA hs) ch)):Option MO)=T
  have e1:A++(T::(Bq C hs (A.length+1) m s++Bm C hd (A.length+1+AA hs) hs.length s))++B=(A++[T])++Bq C hs (A++[T]).length m s++(Bm C hd (A.length+1+AA hs) hs.length s++B):=by
   rw [show (A++[T]).length=A.length+1 by rw [List.length_append]; rfl]
   simp [List.append_assoc]
  have e2:A++(T::(Bq C hs (A.length+1) m s++Bm C hd (A.length+1+AA hs) hs.length s))++B=(A++[T]++Bq C hs (A.length+1) m s)++Bm C hd (A++[T]++Bq C hs (A.length+1) m s).length hs.length s++B:=by
   rw [show (A++[T]++Bq C hs (A.length+1) m s).length=A.length+1+AA hs by rw [List.length_append,List.length_append,F4]; rfl]
   simp [List.append_assoc]
  refine ⟨?_,?_,?_⟩
  ·rw [List.append_assoc,List.getElem?_append_right (Nat.le_refl _),Nat.sub_self]
   rfl
  ·have:=PC C hs (A++[T]) (Bm C hd (A.length+1+AA hs) hs.length s++B) m s
   rw [<- e1,show (A++[T]).length=A.length+1 by rw [List.length_append]; rfl] at this
   exact this
  ·have:=F6 C hd (A++[T]++Bq C hs (A.length+1) m s) B hs.length s
   rw [<- e2,show (A++[T]++Bq C hs (A.length+1) m s).length=A.length+1+AA hs by rw [List.length_append,List.length_append,F4]; rfl] at this
   exact this
theorem PC (C:Cs):∀ (xs:List Hn) (A B:Ad) (m:Nat) (s:Int),CU C (A++Bq C xs A.length m s++B) xs A.length m s
 | [],A,B,m,s=>by simp only [CU]
 | x::xs,A,B,m,s=>by
  simp only [Bq,CU]
  have e1:A++(Bm C x A.length m s++Bq C xs (A.length+AO x) m s)++B=A++Bm C x A.length m s++(Bq C xs (A.length+AO x) m s++B):=by simp [List.append_assoc]
  have el:(A++Bm C x A.length m s).length=A.length+AO x:=by rw [List.length_append,GT]
  refine ⟨by rw [e1]; exact F6 C x A _ m s,?_⟩
  have:=PC C xs (A++Bm C x A.length m s) B m s
  rw [el] at this
  rw [e1,<- List.append_assoc]
  exact this
end
mutual
theorem AS.anew {n:Nat}:∀ (x:Hn) (m:Nat) (s:Int),AS n x m s->AS 0 (AI x m) m s
 | .p v,m,s,h=>by simp only [AS,AI] at *; exact BU.anew h
 | .t hs hd ch,m,s,h=>by
  simp only [AS,AI,F5,List.length_replicate] at *
  exact ⟨B4.anew hs m s h.1,AS.anew hd _ s h.2.1,h.2.2.1,trivial⟩
theorem B4.anew {n:Nat}:∀ (xs:List Hn) (m:Nat) (s:Int),B4 n xs m s->B4 0 (Cl xs m) m s
 | [],_,_,_=>by simp only [Cl,B4]
 | x::xs,m,s,h=>by
  simp only [B4,Cl] at *
  exact ⟨AS.anew x m s h.1,B4.anew xs m s h.2⟩
end
mutual
theorem OB {n:Nat}:∀ (x:Hn) (m:Nat) (s:Int) (said:List (Option Int)),AS n x m s->Bn (m:Nat) s said->0<=s->0<=Bv x m said/\Bv x m said<=s
 | .p v,m,s,said,h,hs,h0=>by simp only [AS,Bv] at *; exact T4 h hs h0
 | .t hs hd ch,m,s,said,h,hsd,h0=>by
  simp only [AS,Bv] at *
  exact OB hd _ s _ h.2.1 (GI hs m s said h.1 hsd h0 h.2.2.1.2) h0
theorem GI {n:Nat}:∀ (xs:List Hn) (m:Nat) (s:Int) (said:List (Option Int)),B4 n xs m s->Bn (m:Nat) s said->0<=s->xs.length<=24->Bn ((xs.length:Nat):Int) s (DX (B5 xs m said))
 | [],m,s,said,h,hs,h0,hl=>⟨rfl,by show (0:Int)<=24; decide,λw hw=>by cases hw⟩
 | x::xs,m,s,said,h,hs,h0,hl=>by
  simp only [B4] at h
  have hx:=OB x m s said h.1 hs h0
  have ih:=GI xs m s said h.2 hs h0 (by rw [List.length_cons] at hl; omega)
  refine ⟨by unfold DX; rw [List.length_map,IB],by rw [List.length_cons] at *; omega,λw hw=>?_⟩
  simp only [B5,DX,List.map_cons] at hw
  rcases List.mem_cons.mp hw with rfl | hw
  ·right
   show (decide (0<=_)&&decide (_<=s))=true
   rw [decide_eq_true hx.1,decide_eq_true hx.2]; rfl
  ·exact ih.2.2 w hw
end
mutual
theorem AS.hear {n:Nat}:∀ (x:Hn) (m:Nat) (s:Int) (said:List (Option Int)) (so:Int),AS n x m s->Bn (m:Nat) s said->(0<=so/\so<=s)->AS (n+1) (A2 x m said so) m s
 | .p v,m,s,said,so,h,hs,hso=>by simp only [AS,A2] at *; exact BU.hear h hs hso
 | .t hs hd ch,m,s,said,so,h,hsd,hso=>by
  simp only [AS,A2,IC] at *
  refine ⟨B4.hear hs m s said so h.1 hsd hso,AS.hear hd _ s _ so h.2.1 (GI hs m s said h.1 hsd wF h.2.2.1.2) hso,h.2.2.1,?_⟩
  rw [List.length_map,List.length_zip,IB,h.2.2.2]
  omega
theorem B4.hear {n:Nat}:∀ (xs:List Hn) (m:Nat) (s:Int) (said:List (Option Int)) (so:Int),B4 n xs m s->Bn (m:Nat) s said->(0<=so/\so<=s)->B4 (n+1) (Ce xs m said so) m s
 | [],_,_,_,_,_,_,_=>by simp only [Ce,B4]
 | x::xs,m,s,said,so,h,hsd,hso=>by
  simp only [B4,Ce] at *
  exact ⟨AS.hear x m s said so h.1 hsd hso,B4.hear xs m s said so h.2 hsd hso⟩
end
mutual
theorem He:∀ (x:Hn) (m:Nat),AX (AI x m)=AX x
 | .p v,_=>by simp only [AI,AX]
 | .t hs hd ch,m=>by simp only [AI,AX]; rw [Qv hs,He hd]
theorem Qv:∀ (xs:List Hn) (m:Nat),CA (Cl xs m)=CA xs
 | [],_=>by simp only [Cl,CA]
 | x::xs,m=>by simp only [Cl,CA]; rw [He x,Qv xs]
end
mutual
theorem IV:∀ (x:Hn) (m:Nat) (said:List (Option Int)) (so:Int),AX (A2 x m said so)=AX x
 | .p v,_,_,_=>by simp only [A2,AX]
 | .t hs hd ch,m,said,so=>by simp only [A2,AX]; rw [Qu hs,IV hd]
theorem Qu:∀ (xs:List Hn) (m:Nat) (said:List (Option Int)) (so:Int),CA (Ce xs m said so)=CA xs
 | [],_,_,_=>by simp only [Ce,CA]
 | x::xs,m,said,so=>by simp only [Ce,CA]; rw [IV x,Qu xs]
end
theorem Qt:∀ (xs:List Hn) (x:Hn),x∈xs->AX x<=CA xs
 | [],_,h=>by cases h
 | y::xs,x,h=>by
  simp only [CA]
  rcases List.mem_cons.mp h with rfl | h
  ·exact Nat.le_max_left _ _
  ·exact Nat.le_trans (Qt xs x h) (Nat.le_max_right _ _)
theorem OA {m:Nat} {said:List (Option Int)}:∀ (xs:List Hn),B5 xs m said=xs.map λx=>Bv x m said
 | []=>rfl
 | x::xs=>by simp only [B5,List.map_cons]; rw [OA xs]
theorem GX {m:Nat} {said:List (Option Int)} {so:Int}:∀ (xs:List Hn),Ce xs m said so=xs.map λx=>A2 x m said so
 | []=>rfl
 | x::xs=>by simp only [Ce,List.map_cons]; rw [GX xs]
theorem Ms {m:Nat}:∀ (xs:List Hn),Cl xs m=xs.map λx=>AI x m
 | []=>rfl
 | x::xs=>by simp only [Cl,List.map_cons]; rw [Ms xs]
section
variable (m s:Int) (ps:List Nat) (h:Nat) (ch:List Int)
theorem JB:(BQ m s ps h ch).lookup ("many" : Str)=some (.int m):=Bs
theorem JA:(BQ m s ps h ch).lookup ("scale" : Str)=some (.int s):=by unfold BQ; rw [Ao wD,Bs]
theorem RY:(BQ m s ps h ch).lookup ("hands" : Str)=some (.tup (ps.map D.ptr)):=by unfold BQ; rw [Ao wD,Ao wD,Bs]
theorem JC:(BQ m s ps h ch).lookup ("head" : Str)=some (.ptr h):=by unfold BQ; rw [Ao wD,Ao wD,Ao wD,Bs]
theorem RZ:(BQ m s ps h ch).lookup ("charged" : Str)=some (.tup (ch.map D.int)):=by unfold BQ; rw [Ao wD,Ao wD,Ao wD,Ao wD,Bs]
theorem Gr {f:Str} (hf:([("many" : Str),"scale","hands","head","charged"].all λg=>!(f==g))=true):(BQ m s ps h ch).lookup f=none:=by
 simp only [List.all_cons,List.all_nil,Bool.and_true,Bool.and_eq_true,Bool.not_eq_true'] at hf
 obtain ⟨h1,h2,h3,h4,h5⟩:=hf
 unfold BQ
 rw [Ao h1,Ao h2,Ao h3,Ao h4,Ao h5]
 rfl
end
def Ey (C:Cs) (j:Nat):AQ:=λds O R=>∃ (q n m:Nat) (s:Int) (hs:List Hn) (hd:Hn) (ch:List Int) (said:List (Option Int)),ds=[.ptr q,.tup (said.map od)]/\Ay C O (.t hs hd ch) q m s/\AS n (.t hs hd ch) m s/\AX (.t hs hd ch)<=j/\(1<=m/\m<=24)/\0<=s/\Bn (m:Nat) s said/\R (.tup ((B5 hs m said).map D.int)) O
def Dz (C:Cs) (j:Nat):AQ:=λds O R=>∃ (q n m:Nat) (s:Int) (hs:List Hn) (hd:Hn) (ch:List Int) (said:List (Option Int)),ds=[.ptr q,.tup (said.map od)]/\Ay C O (.t hs hd ch) q m s/\AS n (.t hs hd ch) m s/\AX (.t hs hd ch)<=j/\(1<=m/\m<=24)/\0<=s/\Bn (m:Nat) s said/\R (.int (Bv (.t hs hd ch) m said)) O
def DJ (C:Cs) (j:Nat):AQ:=λds O R=>∃ (q n m:Nat) (s so:Int) (hs:List Hn) (hd:Hn) (ch:List Int) (said:List (Option Int)),ds=[.ptr q,.tup (said.map od),.int so]/\Ay C O (.t hs hd ch) q m s/\AS n (.t hs hd ch) m s/\AX (.t hs hd ch)<=j/\n<=1000/\(1<=m/\m<=24)/\Bn (m:Nat) s said/\(0<=so/\so<=s) /\
 ∀ O',Dv q (AO (.t hs hd ch)) O O'->Ay C O' (A2 (.t hs hd ch) m said so) q m s->R .non O'
def Cf (C:Cs) (O:Ad) (m:Nat) (s:Int) (j:Nat) (pv:List (Nat×Hn)):Prop:=∀ x∈pv,Ay C O x.2 x.1 m s/\(∃ n,AS n x.2 m s)/\AX x.2<j
def Nx (C:Cs):AQ:=λds O R=>∃ (j m:Nat) (s:Int) (pv:List (Nat×Hn)) (hp:Nat) (hd:Hn),ds=[.tup (pv.map λx=>.ptr x.1),.ptr hp]/\Cf C O m s j pv/\Cf C O pv.length s j [(hp,hd)]/\(1<=m/\m<=24)/\(1<=s/\s<=10)/\(1<=pv.length/\pv.length<=24)/\R .non O
def N4 (C:Cs):AQ:=λds O R=>∃ (j m:Nat) (s:Int) (pv:List (Nat×Hn)),ds=[.tup (pv.map λx=>.ptr x.1)]/\Cf C O m s j pv/\(1<=pv.length/\pv.length<=24)/\R (.bl true) O
def NP (C:Cs):AQ:=λds O R=>∃ (j m:Nat) (s:Int) (pv:List (Nat×Hn)) (hp:Nat) (hd:Hn),ds=[.tup (pv.map λx=>.ptr x.1),.ptr hp]/\Cf C O m s j pv/\Cf C O pv.length s j [(hp,hd)]/\(1<=pv.length/\pv.length<=24)/\R (.bl true) O
def GR (C:Cs) (hs:List Hn) (hd:Hn) (q m:Nat) (s:Int):Ad:=Bm C (AI (.t hs hd []) m) q m s
def D5 (C:Cs) (j:Nat):AQ:=λds O R=>∃ (q m:Nat) (s:Int) (pv:List (Nat×Hn)) (hp:Nat) (hd:Hn) (O0:Ad),ds=[.ptr q,.tup (pv.map λx=>.ptr x.1),.ptr hp]/\O=O0++[some (.ins C.t [])]/\q=O0.length/\Cf C O0 m s j pv/\Cf C O0 pv.length s j [(hp,hd)]/\(1<=m/\m<=24)/\(1<=s/\s<=10)/\(1<=pv.length/\pv.length<=24)/\R .non (O0++GR C (pv.map (·.2)) hd q m s)
def DK (C:Cs) (j:Nat):AQ:=λds O R=>∃ (q n m:Nat) (s:Int) (hs:List Hn) (hd:Hn) (ch:List Int),ds=[.ptr q]/\Ay C O (.t hs hd ch) q m s/\AS n (.t hs hd ch) m s/\AX (.t hs hd ch)<=j/\(1<=m/\m<=24)/\(1<=s/\s<=10)/\R (.ptr O.length) (O++GR C hs hd O.length m s)
theorem Ay.to {C:Cs} {O:Ad} {hs:List Hn} {hd:Hn} {ch:List Int} {q m:Nat} {s:Int} (h:Ay C O (.t hs hd ch) q m s):O[q]?=some (some (.ins C.t (BQ (m:Nat) s (BR hs (q+1)) (q+1+AA hs) ch)))/\CU C O hs (q+1) m s/\Ay C O hd (q+1+AA hs) hs.length s:=by simpa only [Ay] using h
theorem Ay.ti {C:Cs} {O:Ad} {hs:List Hn} {hd:Hn} {ch:List Int} {q m:Nat} {s:Int} (h:O[q]?=some (some (.ins C.t (BQ (m:Nat) s (BR hs (q+1)) (q+1+AA hs) ch)))/\CU C O hs (q+1) m s/\Ay C O hd (q+1+AA hs) hs.length s):Ay C O (.t hs hd ch) q m s:=by simpa only [Ay] using h
theorem Ay.pl {C:Cs} {O:Ad} {v:Hv} {q m:Nat} {s:Int} (h:Ay C O (.p v) q m s):O[q]?=some (some (C.o (m:Nat) s v)):=by simpa only [Ay] using h
theorem Ay.pi {C:Cs} {O:Ad} {v:Hv} {q m:Nat} {s:Int} (h:O[q]?=some (some (C.o (m:Nat) s v))):Ay C O (.p v) q m s:=by simpa only [Ay] using h
theorem AS.pl {n:Nat} {v:Hv} {m:Nat} {s:Int} (h:AS n (.p v) m s):BU n m s v:=by simpa only [AS] using h
theorem AS.to {n:Nat} {hs:List Hn} {hd:Hn} {ch:List Int} {m:Nat} {s:Int} (h:AS n (.t hs hd ch) m s):B4 n hs m s/\AS n hd hs.length s/\(1<=hs.length/\hs.length<=24)/\ch.length=hs.length:=by simpa only [AS] using h
theorem Ay.app {C:Cs} {O Y:Ad} {x:Hn} {q m:Nat} {s:Int} (hq:q+AO x<=O.length) (h:Ay C O x q m s):Ay C (O++Y) x q m s:=h.own λj _ h2=>List.getElem?_append_left wF
section
variable {X:Cx} {ρ:Aj} {O:Ad} {C:Cs} {o e e2:Expr} {j q n m k1 k2 k3 k4 k5 k6:Nat} {s so:Int} {x:Hn} {said:List (Option Int)} {R:D->Ad->Prop} {pos apos:Pos}
theorem IN {pl:Sem Bool} (M1:Al X.prog X.w X.K X.mg X.base C.h k1 "say" (BG C.h C.w C.s C.r)) (M2:Al X.prog X.w X.K X.mg X.base C.w k1 "say" (BG C.h C.w C.s C.r)) (M3:Al X.prog X.w X.K X.mg X.base C.s k1 "say" (BG C.h C.w C.s C.r)) (M4:Al X.prog X.w X.K X.mg X.base C.r k1 "say" (BG C.h C.w C.s C.r)) (r1:AR k1 X.A) (M6:Al X.prog X.w X.K X.mg X.base C.f k6 "say" (EQ C.f)) (r6:AR k6 X.A) (M5:Al X.prog X.w X.K X.mg X.base C.t k5 "say" (Dz C j)) (r5:AR k5 X.A)
  (ho:Ae X ρ O o (.ptr q)) (hq:Ay C O x q m s) (hok:AS n x m s) (hj:AX x<=j) (hm:1<=m/\m<=24) (h0:0<=s) (hs:Bn (m:Nat) s said) (ha:BZ X ρ O [e] [.tup (said.map od)])
  (hst:starEach [e] X.env=(false,eval e X.env)::starEach [] X.env:=by rfl) (hpl:(backTo pos (starEach [] X.env)).any (·.1)=false:=by rfl)
  (ht:eval (.Call (.Attribute o "say" apos) [e] [] pos) X.env=(do
   let ov <- eval o X.env
   standAt apos.atName
   let (f,first) <- holding [ov] (getMethod ov "say" pl)
   callWith pos f first (backTo pos (starEach [e] X.env)) (backToKw pos (keywordEach [] X.env))):=by rfl):Ae X ρ O (.Call (.Attribute o "say" apos) [e] [] pos) (.int (Bv x m said)):=by
 cases x with
 | p v=>rw [show Bv (.p v) m said=EY m said v by simp only [Bv]]; exact YF M1 M2 M3 M4 r1 M6 r6 ho hq.pl hok.pl hm hs ha hst hpl ht
 | t ys hd ch=>exact Ev.evp (CP M5 r5 ho hq.to.1 (Gr _ _ _ _ _ wD) ha ⟨q,n,m,s,ys,hd,ch,said,rfl,hq,hok,hj,hm,h0,hs,rfl,rfl⟩ hst hpl ht)
theorem G8 {pl:Sem Bool} (M1:Al X.prog X.w X.K X.mg X.base C.h k1 "hear" (FF C.h)) (M2:Al X.prog X.w X.K X.mg X.base C.w k2 "hear" (C8 C.w C.s false)) (M3:Al X.prog X.w X.K X.mg X.base C.s k3 "hear" (C8 C.w C.s true)) (M4:Al X.prog X.w X.K X.mg X.base C.r k4 "hear" (FE C.r)) (r1:AR k1 X.A) (r2:AR (max k2 k3) X.A) (r3:AR k4 X.A) (M6:Al X.prog X.w X.K X.mg X.base C.f k6 "hear" (FG C.f)) (r6:AR k6 X.A) (M5:Al X.prog X.w X.K X.mg X.base C.t k5 "hear" (DJ C j)) (r5:AR k5 X.A)
  (ho:Ae X ρ O o (.ptr q)) (hq:Ay C O x q m s) (hok:AS n x m s) (hj:AX x<=j) (hn:n<=1000) (hm:1<=m/\m<=24) (hs:Bn (m:Nat) s said) (hso:0<=so/\so<=s) (ha:BZ X ρ O [e,e2] [.tup (said.map od),.int so]) (hR:∀ O',Dv q (AO x) O O'->Ay C O' (A2 x m said so) q m s->R .non O')
  (hst:starEach [e,e2] X.env=(false,eval e X.env)::starEach [e2] X.env:=by rfl) (hpl:(backTo pos (starEach [e2] X.env)).any (·.1)=false:=by rfl)
  (ht:eval (.Call (.Attribute o "hear" apos) [e,e2] [] pos) X.env=(do
   let ov <- eval o X.env
   standAt apos.atName
   let (f,first) <- holding [ov] (getMethod ov "hear" pl)
   callWith pos f first (backTo pos (starEach [e,e2] X.env)) (backToKw pos (keywordEach [] X.env))):=by rfl):Ev X ρ O (.Call (.Attribute o "hear" apos) [e,e2] [] pos) R:=by
 cases x with
 | p v=>
  have h1:AO (.p v)=1:=by simp only [AO]
  have h2:A2 (.p v) m said so=.p (DU said so v):=by simp only [A2]
  rw [h1,h2] at hR
  exact YI M1 M2 M3 M4 r1 r2 r3 M6 r6 ho hq.pl hok.pl hn hm hs hso ha (hR _ ⟨List.length_set ..,λj hj=>List.getElem?_set_ne wF⟩ (Ay.pi (Cb hq.pl))) hst hpl ht
 | t ys hd ch=>exact CP M5 r5 ho hq.to.1 (Gr _ _ _ _ _ wD) ha ⟨q,n,m,s,so,ys,hd,ch,said,rfl,hq,hok,hj,hn,hm,hs,hso,hR⟩ hst hpl ht
theorem IQ {pl:Sem Bool} (M1:Al X.prog X.w X.K X.mg X.base C.h k1 "anew" (FJ C.h)) (M2:Al X.prog X.w X.K X.mg X.base C.w k2 "anew" (C9 C.w C.s false)) (M3:Al X.prog X.w X.K X.mg X.base C.s k3 "anew" (C9 C.w C.s true)) (M4:Al X.prog X.w X.K X.mg X.base C.r k4 "anew" (FI C.r)) (r1:AR k1 X.A) (r2:AR (max k2 k3) X.A) (r3:AR k4 X.A) (M6:Al X.prog X.w X.K X.mg X.base C.f k6 "anew" (FK C.f)) (r6:AR k6 X.A) (M5:Al X.prog X.w X.K X.mg X.base C.t k5 "anew" (DK C j)) (r5:AR k5 X.A)
  (ho:Ae X ρ O o (.ptr q)) (hq:Ay C O x q m s) (hok:AS n x m s) (hj:AX x<=j) (hm:1<=m/\m<=24) (hs:1<=s/\s<=10) (hR:R (.ptr O.length) (O++Bm C (AI x m) O.length m s))
  (ht:eval (.Call (.Attribute o "anew" apos) [] [] pos) X.env=(do
   let ov <- eval o X.env
   standAt apos.atName
   let (f,first) <- holding [ov] (getMethod ov "anew" pl)
   callWith pos f first (backTo pos (starEach [] X.env)) (backToKw pos (keywordEach [] X.env))):=by rfl):Ev X ρ O (.Call (.Attribute o "anew" apos) [] [] pos) R:=by
 cases x with
 | p v=>exact YQ M1 M2 M3 M4 r1 r2 r3 M6 r6 ho hq.pl hok.pl hm hs (by simp only [AI,Bm] at hR; exact hR) ht
 | t ys hd ch=>exact Dr M5 r5 ho hq.to.1 (Gr _ _ _ _ _ wD) ⟨q,n,m,s,ys,hd,ch,rfl,hq,hok,hj,hm,hs,by simpa only [GR,AI] using hR⟩ ht
theorem Ga (c1:A7 X.K C.h) (c2:A7 X.K C.w) (c3:A7 X.K C.s) (c4:A7 X.K C.r) (n1:Ap X.K C.h "many") (n2:Ap X.K C.w "many") (n3:Ap X.K C.s "many") (n4:Ap X.K C.r "many") (c6:A7 X.K C.f) (n6:Ap X.K C.f "many") (c5:A7 X.K C.t) (n5:Ap X.K C.t "many") (ho:Ae X ρ O o (.ptr q)) (hq:Ay C O x q m s) (hok:AS n x m s) (hb:attributeBase o ("many" : Str) X.env (eval o X.env)=eval o X.env:=by rfl):Ae X ρ O (.Attribute o "many" pos) (.int (m:Nat)):=by
 cases x with
 | p v=>exact YG c1 c2 c3 c4 n1 n2 n3 n4 c6 n6 ho hq.pl hok.pl hb
 | t ys hd ch=>exact As ho hq.to.1 c5 n5 (JB _ _ _ _ _) hb
theorem Ff (c1:A7 X.K C.h) (c2:A7 X.K C.w) (c3:A7 X.K C.s) (c4:A7 X.K C.r) (n1:Ap X.K C.h "scale") (n2:Ap X.K C.w "scale") (n3:Ap X.K C.s "scale") (n4:Ap X.K C.r "scale") (c6:A7 X.K C.f) (n6:Ap X.K C.f "scale") (c5:A7 X.K C.t) (n5:Ap X.K C.t "scale") (ho:Ae X ρ O o (.ptr q)) (hq:Ay C O x q m s) (hok:AS n x m s) (hb:attributeBase o ("scale" : Str) X.env (eval o X.env)=eval o X.env:=by rfl):Ae X ρ O (.Attribute o "scale" pos) (.int s):=by
 cases x with
 | p v=>exact YE c1 c2 c3 c4 n1 n2 n3 n4 c6 n6 ho hq.pl hok.pl hb
 | t ys hd ch=>exact As ho hq.to.1 c5 n5 (JA _ _ _ _ _) hb
theorem Qj {k:Bool} {y:Str} {C2:Addr} {p p2:Pos} (hm:X.mg "isinstance" = none) (he:Ae X ρ O e (.ptr q)) (hq:Ay C O x q m s) (t1:Cm X.K C.h) (t2:Cm X.K C.w) (t3:Cm X.K C.s) (t4:Cm X.K C.r) (hx:X.mg y=some (.ref C2)) (k1:PySem.W.kitOne X.K (.ref C.h) (.ref C2)=some k) (k2:PySem.W.kitOne X.K (.ref C.w) (.ref C2)=some k) (k3:PySem.W.kitOne X.K (.ref C.s) (.ref C2)=some k) (k4:PySem.W.kitOne X.K (.ref C.r) (.ref C2)=some k) (t6:Cm X.K C.f) (k6':PySem.W.kitOne X.K (.ref C.f) (.ref C2)=some k) (t5:Cm X.K C.t) (k5':PySem.W.kitOne X.K (.ref C.t) (.ref C2)=some k)
  (hg:Gl X "isinstance" := by rfl) (hgx:Gl X y:=by rfl) (hdx:(y==("__debug__" : Str))=false:=by decide) (hs:starEach [e,.Name y p2] X.env=(false,eval e X.env)::starEach [.Name y p2] X.env:=by rfl) (hpl:(backTo pos (starEach [.Name y p2] X.env)).any (·.1)=false:=by rfl) :
  Ae X ρ O (.Call (.Name "isinstance" p) [e,.Name y p2] [] pos) (.bl k):=by
 cases x with
 | p v=>exact YH hm he hq.pl t1 t2 t3 t4 hx k1 k2 k3 k4 t6 k6' hg hgx hdx hs hpl
 | t ys hd ch=>exact Gb hm he hq.to.1 t5 hx k5' hg hgx hdx hs hpl
end
theorem Ay.le {C:Cs} {O:Ad}:∀ (x:Hn) (q m:Nat) (s:Int),Ay C O x q m s->q+AO x<=O.length
 | .p v,q,m,s,h=>by have:=(List.getElem?_eq_some_iff.mp h.pl).1; simp only [AO]; omega
 | .t hs hd ch,q,m,s,h=>by have:=Ay.le hd _ _ _ h.to.2.2; simp only [AO]; omega
theorem Ay.ap {C:Cs} {O Y:Ad} {x:Hn} {q m:Nat} {s:Int} (h:Ay C O x q m s):Ay C (O++Y) x q m s:=h.app (Ay.le _ _ _ _ h)
theorem Cf.app {C:Cs} {O Y:Ad} {m j:Nat} {s:Int} {pv:List (Nat×Hn)} (h:Cf C O m s j pv):Cf C (O++Y) m s j pv:=λx hx=>⟨(h x hx).1.ap,(h x hx).2⟩
theorem HR:∀ (xs ys:List Hn),AA (xs++ys)=AA xs+AA ys
 | [],ys=>by simp only [List.nil_append,AA,Nat.zero_add]
 | x::xs,ys=>by simp only [List.cons_append,AA]; rw [HR xs,Nat.add_assoc]
theorem HQ {xs:List Hn} {i:Nat} {x:Hn} (h:xs[i]?=some x):AA (xs.take (i+1))=AA (xs.take i)+AO x:=by
 rw [List.take_succ,h,HR]
 simp only [Option.toList,AA,Nat.add_zero]
theorem Oc (xs:List Hn) {i k:Nat} (h:i<=k):AA (xs.take i)<=AA (xs.take k):=by
 have e:xs.take k=xs.take i++(xs.take k).drop i:=by
  have:=List.take_append_drop i (xs.take k)
  rw [List.take_take,Nat.min_eq_left h] at this
  exact this.symm
 rw [e,HR]
 omega
theorem Oe (xs:List Hn) (i:Nat):AA (xs.take i)<=AA xs:=by
 have e:=congrArg AA (List.take_append_drop i xs)
 rw [HR] at e
 omega
theorem Pd (xs:List Hn) (q:Nat):BR xs q=(List.range xs.length).map λi=>q+AA (xs.take i):=by
 refine List.ext_getElem? λi=>?_
 rw [List.getElem?_map]
 by_cases hi:i<xs.length
 ·rw [Pg xs q i hi,List.getElem?_range hi]; rfl
 ·rw [List.getElem?_eq_none (by rw [Pe]; omega),List.getElem?_eq_none (by rw [List.length_range]; omega)]; rfl
theorem JD (m s:Int) (xs:List Hn) (q h:Nat) (ch:List Int):(BQ m s (BR xs q) h ch).lookup ("hands" : Str)=some (.tup ((List.range xs.length).map λi=>.ptr (q+AA (xs.take i)))):=by
 rw [RY,Pd,List.map_map]; rfl
theorem PD (C:Cs):∀ (xs ys:List Hn) (q m:Nat) (s:Int),Bq C (xs++ys) q m s=Bq C xs q m s++Bq C ys (q+AA xs) m s
 | [],ys,q,m,s=>by simp only [List.nil_append,Bq,AA,Nat.add_zero]
 | x::xs,ys,q,m,s=>by simp only [List.cons_append,Bq,AA]; rw [PD C xs,List.append_assoc,Nat.add_assoc]
theorem Xu (C:Cs) {xs:List Hn} {i:Nat} {x:Hn} (h:xs[i]?=some x) (q m:Nat) (s:Int):Bq C (xs.take (i+1)) q m s=Bq C (xs.take i) q m s++Bm C x (q+AA (xs.take i)) m s:=by
 rw [List.take_succ,h,PD]
 simp only [Option.toList,Bq,List.append_nil]
theorem UB (m s:Int) (ps:List Nat) (h:Nat) (ch:List Int):A9 "charged" (.tup (ch.map D.int)) (JE m s (.tup (ps.map D.ptr)) (.ptr h))=BQ m s ps h ch:=by
 unfold JE
 rw [AE wD,AE wD,AE wD,AE wD]
 rfl
theorem RW (m s:Int) (ps:List Nat) (h:Nat) (ch cs:List Int):A9 "charged" (.tup (cs.map D.int)) (BQ m s ps h ch)=BQ m s ps h cs:=by
 unfold BQ
 rw [AE wD,AE wD,AE wD,AE wD,EC]
theorem N2 {C:Cs} {ds:List D} {O:Ad} {R:D->Ad->Prop} (h:Ey C 0 ds O R):False:=by
 obtain ⟨_,_,_,_,_,_,_,_,_,_,_,h,_⟩:=h
 simp only [AX] at h; omega
theorem ND {C:Cs} {ds:List D} {O:Ad} {R:D->Ad->Prop} (h:Dz C 0 ds O R):False:=by
 obtain ⟨_,_,_,_,_,_,_,_,_,_,_,h,_⟩:=h
 simp only [AX] at h; omega
theorem NT {C:Cs} {ds:List D} {O:Ad} {R:D->Ad->Prop} (h:DJ C 0 ds O R):False:=by
 obtain ⟨_,_,_,_,_,_,_,_,_,_,_,_,h,_⟩:=h
 simp only [AX] at h; omega
theorem NQ {C:Cs} {ds:List D} {O:Ad} {R:D->Ad->Prop} (h:D5 C 0 ds O R):False:=by
 obtain ⟨_,_,_,_,_,_,_,_,_,_,_,h,_⟩:=h
 have:=(h _ (List.mem_singleton.mpr rfl)).2.2
 omega
theorem N3 {C:Cs} {ds:List D} {O:Ad} {R:D->Ad->Prop} (h:DK C 0 ds O R):False:=by
 obtain ⟨_,_,_,_,_,_,_,_,_,_,h,_⟩:=h
 simp only [AX] at h; omega
theorem Gc {hs:List Hn} {hd:Hn} {ch:List Int} {j:Nat} (h:AX (.t hs hd ch)<=j+1):(∀ x∈hs,AX x<=j)/\AX hd<=j:=by
 simp only [AX] at h
 have h1:=Nat.le_max_left (CA hs) (AX hd)
 have h2:=Nat.le_max_right (CA hs) (AX hd)
 exact ⟨λx hx=>by have:=Qt hs x hx; omega,by omega⟩
theorem Dv.rf (q k:Nat) (O:Ad):Dv q k O O:=⟨rfl,λ_ _=>rfl⟩
theorem Dv.in {q k q2 k2:Nat} {O O' O2:Ad} (h:Dv q k O O') (h2:Dv q2 k2 O' O2) (h3:q<=q2) (h4:q2+k2<=q+k):Dv q k O O2:=⟨h2.l.trans h.l,λj hj=>(h2.o j wF).trans (h.o j hj)⟩
theorem Z2 (m:Nat) (said:List (Option Int)) (so:Int) (v:Hv):Hh m (DU said so v)=Hh m v:=by cases v <;> rfl
mutual
theorem Mr:∀ (x:Hn) (m:Nat) (said:List (Option Int)) (so:Int),AI (A2 x m said so) m=AI x m
 | .p v,m,said,so=>by simp only [A2,AI]; rw [Z2]
 | .t hs hd ch,m,said,so=>by simp only [A2,AI,IC]; rw [Q0 hs,Mr hd]
theorem Q0:∀ (xs:List Hn) (m:Nat) (said:List (Option Int)) (so:Int),Cl (Ce xs m said so) m=Cl xs m
 | [],_,_,_=>by simp only [Ce]
 | x::xs,m,said,so=>by simp only [Ce,Cl]; rw [Mr x,Q0 xs]
end
def Bk (z:Nat×Hn):D:=.ptr z.1
structure Kp (b:Nat) (O O':Ad):Prop where
 l:O.length<=O'.length
 o:∀ i,i<b->O'[i]?=O[i]?
theorem Kp.tr {l:Nat} {O O1 O2:Ad} (h:Kp l O O1) (g:Kp l O1 O2):Kp l O O2:=⟨Nat.le_trans h.l g.l,λi hi=>(g.o i hi).trans (h.o i hi)⟩
theorem Kp.app {l:Nat} {O:Ad} (Y:Ad) (h:l<=O.length):Kp l O (O++Y):=⟨by rw [List.length_append]; omega,λi hi=>List.getElem?_append_left wF⟩
theorem Kp.bl {l q k:Nat} {O O':Ad} (h:Dv q k O O') (hq:l<=q):Kp l O O':=⟨Nat.le_of_eq h.l.symm,λi hi=>h.o i (.inl wF)⟩
theorem Kp.up {O O':Ad} (h:Kp O.length O O'):∃ Y,O'=O++Y:=by
 refine ⟨O'.drop O.length,List.ext_getElem? λj=>?_⟩
 have:=h.l
 by_cases hj:j<O.length
 ·rw [h.o j hj,List.getElem?_append_left hj]
 ·rw [List.getElem?_append_right wF,List.getElem?_drop,show O.length+(j-O.length)=j by omega]
def sd (m:Nat) (s:Int):List (Option Int):=(List.range m).map λk=>some (if k%2=0 then 0 else s)
theorem FP (m:Nat) (s:Int):(sd m s).length=m:=by unfold sd; rw [List.length_map,List.length_range]
theorem Oh {m k:Nat} {s:Int} (h:k<m):Az (sd m s) k=some (if k%2=0 then 0 else s):=by
 unfold Az sd
 rw [List.getElem?_map,List.getElem?_range h]
 rfl
theorem SW (m:Nat) (s:Int):ax (sd m s)=List.range m:=by
 unfold ax
 rw [FP]
 refine List.filter_eq_self.mpr λk hk=>?_
 rw [Oh (List.mem_range.mp hk)]
 rfl
theorem GF {m:Nat} {s:Int} (hs:0<=s) (hm:m<=24):Bn (m:Nat) s (sd m s):=by
 refine ⟨by rw [FP],by omega,λw hw=>?_⟩
 obtain ⟨k,_,rfl⟩:=List.mem_map.mp hw
 right
 show (decide (0<=if k%2=0 then 0 else s)&&decide ((if k%2=0 then 0 else s)<=s))=true
 split
 ·rw [decide_eq_true (Int.le_refl _),decide_eq_true hs]; rfl
 ·rw [decide_eq_true hs,decide_eq_true (Int.le_refl _)]; rfl
def Be (m:Nat) (s:Int) (y:Hn):Int:=if Bv y m (sd m s)=0 then s else 0
def A6 (m:Nat) (s:Int):Nat->Hn->Hn
 | 0,y=>y
 | n+1,y=>A2 (A6 m s n y) m (sd m s) (Be m s (A6 m s n y))
def BX (m:Nat) (s:Int) (n:Nat) (y:Hn):List Tn:=(List.range n).map λk=>(sd m s,Be m s (A6 m s k y))
theorem RU (m:Nat) (s:Int) (n:Nat) (y:Hn):BX m s (n+1) y=BX m s n y++[(sd m s,Be m s (A6 m s n y))]:=by unfold BX; rw [List.range_succ,List.map_append]; rfl
theorem Fz (m:Nat) (s:Int) (n:Nat) (y:Hn):(BX m s n y).length=n:=by unfold BX; rw [List.length_map,List.length_range]
theorem Jz {m:Nat} {s:Int} {n k:Nat} {y:Hn} (h:k<n):(BX m s n y)[k]?=some (sd m s,Be m s (A6 m s k y)):=by unfold BX; rw [List.getElem?_map,List.getElem?_range h]; rfl
theorem Gz {m:Nat} {s:Int} {y:Hn} (hs:0<=s):0<=Be m s y/\Be m s y<=s:=by
 unfold Be
 split
 ·exact ⟨hs,Int.le_refl _⟩
 ·exact ⟨Int.le_refl _,hs⟩
theorem N6 (m:Nat) (s:Int) (y:Hn):Be m s y=0\/Be m s y=s:=by
 unfold Be
 split
 ·exact .inr rfl
 ·exact .inl rfl
theorem HN {m:Nat} {s:Int} {y:Hn} (hs:1<=s):¬ Bv y m (sd m s)=Be m s y:=by
 unfold Be
 split <;> omega
theorem LQ {m:Nat} {s:Int} {y:Hn} (h:AS 0 y m s) (hs:0<=s) (hm:m<=24):∀ n,AS n (A6 m s n y) m s
 | 0=>h
 | n+1=>AS.hear _ _ _ _ _ (LQ h hs hm n) (GF hs hm) (Gz hs)
theorem J0 (m:Nat) (s:Int) (y:Hn):∀ n,AO (A6 m s n y)=AO y
 | 0=>rfl
 | n+1=>by show AO (A2 _ _ _ _)=_; rw [ET]; exact J0 m s y n
theorem L9 (m:Nat) (s:Int) (y:Hn):∀ n,AX (A6 m s n y)=AX y
 | 0=>rfl
 | n+1=>by show AX (A2 _ _ _ _)=_; rw [IV]; exact L9 m s y n
theorem RV {m n:Nat} {s:Int} {y:Hn} (hs:0<=s) (hm:m<=24):∀ t∈BX m s n y,Fm m s t:=λt ht=>by
 obtain ⟨k,_,rfl⟩:=List.mem_map.mp ht
 exact ⟨FP m s,(GF hs hm).2.2,Gz hs⟩
def Nw (C:Cs) (j:Nat):AQ:=λds O R=>∃ (q k m n:Nat) (s:Int) (x:Hn),ds=[.ptr q,.int (n:Nat)]/\Ay C O x q m s/\AS k x m s/\AX x<=j/\(2<=m/\m<=24)/\(1<=s/\s<=10)/\n<=60/\R (.tup ((BX m s n (AI x m)).map tD)) O
def JO:List D->D->Prop:=λds d=>∃ c k:Int,ds=[.int c,.int k]/\(0<=k/\k<=1000)/\d=.int (FO c k)
def Es (s:Int) (sl:Bool) (x:Int):Option Int:=if (sl&&decide (x%4=0))=true then none else some (if x/4%3=0 then (if x/12%2=0 then 0 else s) else x/12%(s+1))
def CN (s:Int) (sl:Bool):Nat->Nat->Int->List (Option Int)
 | 0,_,_=>[]
 | n+1,k,x=>Es s sl (BS (x+(k:Int)))::CN s sl n (k+1) (BS (x+(k:Int)))
theorem Lj (s:Int) (sl:Bool):∀ (n k:Nat) (x:Int),(CN s sl n k x).length=n
 | 0,_,_=>rfl
 | n+1,k,x=>by unfold CN; rw [List.length_cons,Lj s sl n]
theorem Rz {s:Int} {sl:Bool} (hs:1<=s) (x:Int):Es s sl x=none\/Cn s (Es s sl x)=true:=by
 unfold Es
 split
 ·exact .inl rfl
 ·right
  show (decide (0<=_)&&decide (_<=s))=true
  rw [Bool.and_eq_true,decide_eq_true_eq,decide_eq_true_eq]
  have h1:=Int.emod_nonneg (x/12) (show s+1≠0 by omega)
  have h2:=Int.emod_lt_of_pos (x/12) (show 0<s+1 by omega)
  split
  ·split <;> omega
  ·omega
theorem Li {s:Int} {sl:Bool} (hs:1<=s):∀ (n k:Nat) (x:Int),∀ w∈CN s sl n k x,w=none\/Cn s w=true
 | 0,_,_,w,h=>by cases h
 | n+1,k,x,w,h=>by
  unfold CN at h
  rcases List.mem_cons.mp h with rfl | h
  ·exact Rz hs _
  ·exact Li hs n _ _ w h
def NE:List D->D->Prop:=λds d=>∃ (x:Int) (m:Nat) (s:Int) (sl:Bool),ds=[.int x,.int (m:Nat),.int s,.bl sl]/\Lo x/\m<=24/\1<=s/\d=.tup ((CN s sl m 0 x).map od)
def FL (said:List (Option Int)):List Int:=said.filterMap id
theorem JX:∀ said:List (Option Int),(said.filterMap λw=>if (!Cv (od w))=true then some (od w) else none)=(FL said).map D.int
 | []=>rfl
 | none::l=>JX l
 | some i::l=>congrArg (D.int i::·) (JX l)
theorem SG {said:List (Option Int)} {i:Int} (h:i∈FL said):some i∈said:=by
 obtain ⟨a,ha,e⟩:=List.mem_filterMap.mp h
 cases e
 exact ha
theorem SH (said:List (Option Int)):(FL said).length<=said.length:=List.length_filterMap_le _ _
def GA (s y:Int) (som:List Int):Int:=if (decide (y%4<2)&&!decide (som=[]))=true then som.getD (y/8%(som.length:Nat)).toNat 0 else y/8%(s+1)
def HG (m:Nat) (s:Int) (sl:Bool) (x:Int):Tn:=(CN s sl m 0 x,GA s (BS (x+7)) (FL (CN s sl m 0 x)))
theorem N5 {som:List Int} (y:Int) (h:som≠[]):0<=y/8%(som.length:Nat)/\(y/8%(som.length:Nat)).toNat<som.length:=by
 have h0:=List.length_pos_iff.mpr h
 have h1:=Int.emod_nonneg (y/8) (show ((som.length:Nat):Int)≠0 by omega)
 have h2:=Int.emod_lt_of_pos (y/8) (show (0:Int)<(som.length:Nat) by omega)
 omega
theorem Vu {s x:Int} (h:Cn s (some x)=true):0<=x/\x<=s:=by
 have h:(decide (0<=x)&&decide (x<=s))=true:=h
 rw [Bool.and_eq_true] at h
 exact ⟨of_decide_eq_true h.1,of_decide_eq_true h.2⟩
theorem SI {s y:Int} {som:List Int} (hs:1<=s) (h:∀ i∈som,0<=i/\i<=s):0<=GA s y som/\GA s y som<=s:=by
 unfold GA
 split
 ·rename_i hk
  rw [Bool.and_eq_true,Bool.not_eq_true',decide_eq_false_iff_not] at hk
  rw [List.getD_eq_getElem?_getD,List.getElem?_eq_getElem (N5 y hk.2).2]
  exact h _ (List.getElem_mem _)
 ·have h1:=Int.emod_nonneg (y/8) (show s+1≠0 by omega)
  have h2:=Int.emod_lt_of_pos (y/8) (show 0<s+1 by omega)
  omega
theorem RP {m:Nat} {s:Int} {sl:Bool} (hs:1<=s) (x:Int):Fm m s (HG m s sl x):=by
 have h:=SI (y:=BS (x+7)) (som:=FL (CN s sl m 0 x)) hs λi hi=>Vu ((Li hs _ _ _ _ (SG hi)).resolve_left (λh=>by cases h))
 exact ⟨Lj _ _ _ _ _,Li hs _ _ _,h.1,h.2⟩
def Nv:List D->D->Prop:=λds d=>∃ (x:Int) (m:Nat) (s:Int) (sl:Bool),ds=[.int x,.int (m:Nat),.int s,.bl sl]/\Lo x/\m<=24/\1<=s/\d=tD (HG m s sl x)
def Ij:List D->Prop:=λds=>∃ c:Int,ds=[.int c]
def OG:List D->D->Prop:=λ_ d=>∃ s:Int,d=.int s/\1<=s/\s<=10
theorem M7 {a b i:Int} (h:i=0\/i=1):BO [D.int a,D.int b] i=some (.int (if i=0 then a else b)):=by
 rcases h with rfl | rfl <;> rfl
theorem MY {O O' Z:Ad} (h:∃ Y,O'=O++Y):∃ Y,O'++Z=O++Y:=by
 obtain ⟨Y,rfl⟩:=h
 exact ⟨_,List.append_assoc ..⟩
def BL (m z:Int) (q:Int×Int):Int:=if ab (m-z)<=ab (q.1-z) then q.2 else 0
theorem Yx {ns ws:List Int} (h:Hk ns ws) (z:Int):(Bd ws).sum<=2*sm (BL (CZ ns ws) z) (ns.zip (Bd ws)):=by
 by_cases hn:ns=[]
 ·subst hn
  have:ws=[]:=List.eq_nil_of_length_eq_zero h.1.symm
  subst this
  show (Bd []).sum<=2*(0:Int)
  decide
 ·have hh:=Xc h hn
  have hc:=Ma h.2.2
  have hl:ns.length=(Bd ws).length:=by rw [Mb]; exact h.1
  unfold DW there at hh
  generalize CZ ns ws=m at *
  generalize Bd ws=cs at *
  have hm:∀ p∈ns.zip cs,0<=p.2:=λp hp=>hc _ (List.of_mem_zip hp).2
  have hs:sm (λq:Int×Int=>q.2) (ns.zip cs)=cs.sum:=N7 hl
  by_cases hz:z<=m
  ·have:sm (λq:Int×Int=>q.2) (ns.zip cs)<=sm (λq=>(if q.1<m then q.2 else 0)+BL m z q) (ns.zip cs):=GB λa ha=>by
    have:=hm a ha
    unfold BL ab
    by_cases h1:a.1<m
    ·rw [if_pos h1]; split <;> split <;> split <;> omega
    ·rw [if_neg h1,if_pos (by split <;> split <;> omega)]; omega
   rw [FN] at this
   omega
  ·have:sm (λq:Int×Int=>(if q.1<m then q.2 else 0)+(if q.1=m then q.2 else 0)) (ns.zip cs)<=sm (BL m z) (ns.zip cs):=GB λa ha=>by
    have:=hm a ha
    unfold BL ab
    by_cases h1:a.1<=m
    ·rw [if_pos (c:=(if m-z<0 then -(m-z) else m-z)<=(if a.1-z<0 then -(a.1-z) else a.1-z)) (by split <;> split <;> omega)]; split <;> split <;> omega
    ·rw [if_neg (show ¬ a.1<m by omega),if_neg (show ¬ a.1=m by omega)]; split <;> split <;> split <;> omega
   rw [FN] at this
   omega
theorem N9 {α:Type} (p:α->Bool) (g:α->Int) (l:List α):sm g l=sm g (l.filter p)+sm g (l.filter λa=>!p a):=by
 induction l with
 | nil=>rfl
 | cons a l ih=>
  have e:sm g (a::l)=g a+sm g l:=rfl
  cases h:p a with
  | true=>
   rw [List.filter_cons_of_pos h,List.filter_cons_of_neg (by rw [h]; decide),e,ih]
   show _=(g a+sm g (l.filter p))+_
   omega
  | false=>
   rw [List.filter_cons_of_neg (by rw [h]; decide),List.filter_cons_of_pos (by rw [h]; rfl),e,ih]
   show _=_+(g a+sm g (l.filter λa=>!p a))
   omega
theorem Zm {t b:Int} (h0:0<=t) (hb:t<=b) (b1:1<=b) {s l d:Nat} (hl:l<=s) (hd:d<=s):t ^ l*b ^ (s-l)*b ^ d<=b ^ s*(if d<=l then t ^ d else b ^ d):=by
 by_cases h:d<=l
 ·rw [if_pos h]
  obtain ⟨e,rfl⟩:=Nat.exists_eq_add_of_le h
  obtain ⟨f,rfl⟩:=Nat.exists_eq_add_of_le hl
  have e1:d+e+f-(d+e)=f:=by omega
  rw [e1,Int.pow_add,Int.pow_add,Int.pow_add]
  have h1:t ^ e<=b ^ e:=D9 h0 hb e
  have p1:0<=t ^ d:=Int.pow_nonneg h0
  have p2:0<=b ^ f:=Int.pow_nonneg wF
  have p3:0<=b ^ d:=Int.pow_nonneg wF
  generalize t ^ d=x at *
  generalize t ^ e=y at *
  generalize b ^ e=z at *
  generalize b ^ f=v at *
  generalize b ^ d=w at *
  have q:x*y*v*w<=x*z*v*w:=Int.mul_le_mul_of_nonneg_right (Int.mul_le_mul_of_nonneg_right (Int.mul_le_mul_of_nonneg_left h1 p1) p2) p3
  have e2:w*z*v*x=x*z*v*w:=by
   rw [Int.mul_comm (w*z*v) x,Int.mul_assoc w z v,Int.mul_comm w (z*v),<- Int.mul_assoc,<- Int.mul_assoc]
  rw [e2]
  exact q
 ·rw [if_neg h]
  have h1:t ^ l<=b ^ l:=D9 h0 hb l
  have p2:0<=b ^ (s-l):=Int.pow_nonneg wF
  have p3:0<=b ^ d:=Int.pow_nonneg wF
  have e1:b ^ s=b ^ l*b ^ (s-l):=by rw [<- Int.pow_add]; congr 1; omega
  rw [e1]
  exact Int.mul_le_mul_of_nonneg_right (Int.mul_le_mul_of_nonneg_right h1 p2) p3
theorem Rs {ws:List Int} {n:Nat} (h:ws.length=n):ws.sum=sm (λk=>ws.getD k 0) (List.range n):=by
 subst h
 rw [<- D6]
 congr 1
 refine List.ext_getElem? λi=>?_
 rw [List.getElem?_map]
 by_cases hi:i<ws.length
 ·rw [List.getElem?_range hi,List.getElem?_eq_getElem hi]
  simp [List.getD,hi]
 ·rw [List.getElem?_eq_none wF,List.getElem?_eq_none (by simp; omega)]
  rfl
def Hj (m so:Int) (said:List (Option Int)) (ws:List Int):Int:=sm (λk=>if ab (m-so)<=ab ((Az said k).getD 0-so) then ws.getD k 0 else 0) (ax said)
theorem P3 {ws:List Int} (h:B8 ws) (k:Nat):0<=ws.getD k 0:=by
 by_cases hk:k<ws.length
 ·rw [List.getD_eq_getElem?_getD,List.getElem?_eq_getElem hk]
  exact h _ (List.getElem_mem hk)
 ·rw [List.getD_eq_getElem?_getD,List.getElem?_eq_none wF]
  exact Int.le_refl _
theorem MR (said:List (Option Int)) (ws:List Int):(BW said ws).sum=sm (λk=>ws.getD k 0) (ax said):=by unfold BW; rw [D6]
theorem Yh {said:List (Option Int)} {ws:List Int} (h24:said.length<=24) (hw:B8 ws) (so:Int):sm (λk=>ws.getD k 0) (ax said)<=2*Hj (AK said ws) so said ws:=by
 have h2:=HF (ws:=ws) h24 hw
 have hp:0<=Hj (AK said ws) so said ws:=Ez λk _=>by
  have:=P3 hw k
  split <;> omega
 by_cases h0:(BW said ws).sum=0
 ·rw [<- MR,h0]
  omega
 ·have hh:=Yx h2 so
  have e:Bd (BW said ws)=BW said ws:=by unfold Bd; rw [if_neg h0]
  rw [e,<- UM,MR] at hh
  have e2:sm (BL (CZ (Cc said) (BW said ws)) so) (Il said ws)=Hj (AK said ws) so said ws:=by
   unfold Il Hj AK
   rw [SL]
   rfl
  rw [e2] at hh
  exact hh
theorem RJ {B T x y:Int} (h1:T<=B) (h2:y<=x):2*(T*x+B*y)<=(B+T)*(x+y):=by
 have h:=Int.mul_nonneg (show 0<=B-T by omega) (show 0<=x-y by omega)
 rw [Int.sub_mul,Int.mul_sub,Int.mul_sub] at h
 rw [Int.add_mul,Int.mul_add B,Int.mul_add T]
 omega
theorem Sw {m sc t b so:Int} {said:List (Option Int)} {ws:List Int} (hf:CL sc t b) (hs:Bn m sc said) (hso:0<=so/\so<=sc) (hw:B8 ws) :
  sm (nW t b sc (ab (AK said ws-so)) so said ws) (ax said)<=tS t b sc (ab (AK said ws-so))*sm (λk=>ws.getD k 0) (ax said):=by
 have s1:=hf.s1; have s2:=hf.s2; have t0:=hf.t0; have tb:=hf.tb; have b2:=hf.b2
 have h24:said.length<=24:=by have:=hs.1; have:=hs.2.1; omega
 have hd:=EJ (Ed (ws:=ws) hs wF hw) hso
 have hh:=Yh h24 hw so
 unfold Hj at hh
 generalize AK said ws=mm at *
 generalize hdd:ab (mm-so)=dd at *
 obtain ⟨B,hB⟩:∃ B,b ^ dd.toNat=B:=⟨_,rfl⟩
 obtain ⟨Tt,hT⟩:∃ x,t ^ dd.toNat=x:=⟨_,rfl⟩
 have hTB:Tt<=B:=by rw [<- hT,<- hB]; exact D9 t0 wF _
 have c:∀ k∈ax said,nW t b sc dd so said ws k<=2*b ^ sc.toNat*((if dd<=ab ((Az said k).getD 0-so) then Tt else B)*ws.getD k 0):=λk hk=>by
  have hq:=(List.mem_filter.mp hk).2
  have hmem:Az said k∈said:=by
   unfold Az
   rw [List.getElem?_eq_getElem (Gh hk)]
   exact List.getElem_mem _
  unfold nW
  cases hx:Az said k with
  | none=>rw [hx] at hq; cases hq
  | some x=>
   rw [hx] at hmem
   have hon:=FZ ((hs.2.2 _ hmem).resolve_left (λh=>by cases h))
   have hl:=EJ hon hso
   show ws.getD k 0*tA t b sc dd (ab (x-so))<=2*b ^ sc.toNat*((if dd<=ab (x-so) then Tt else B)*ws.getD k 0)
   have hw0:=P3 hw k
   generalize ws.getD k 0=y at *
   generalize ab (x-so)=l at *
   have hc:=Zm (s:=sc.toNat) (l:=l.toNat) (d:=dd.toNat) t0 (Int.le_of_lt tb) wF wF wF
   have ei:(if dd.toNat<=l.toNat then t ^ dd.toNat else b ^ dd.toNat)=(if dd<=l then Tt else B):=by
    rw [hT,hB]
    by_cases h:dd<=l
    ·rw [if_pos h,if_pos wF]
    ·rw [if_neg h,if_neg wF]
   rw [ei] at hc
   have es:(sc-l).toNat=sc.toNat-l.toNat:=by omega
   unfold tA
   rw [es]
   generalize (if dd<=l then Tt else B)=z at *
   generalize t ^ l.toNat*b ^ (sc.toNat-l.toNat)=v at *
   rw [hB] at hc ⊢
   have q:=Int.mul_le_mul_of_nonneg_left hc (show 0<=2*y by omega)
   have e1:y*(v*2*B)=2*y*(v*B):=by rw [Int.mul_assoc v 2 B,Int.mul_comm 2 B,<- Int.mul_assoc v B 2,Int.mul_comm (v*B) 2,<- Int.mul_assoc,Int.mul_comm y 2]
   have e2:2*b ^ sc.toNat*(z*y)=2*y*(b ^ sc.toNat*z):=by rw [Int.mul_assoc,Int.mul_assoc,Int.mul_comm z y,<- Int.mul_assoc (b ^ sc.toNat) y z,Int.mul_comm (b ^ sc.toNat) y,Int.mul_assoc y]
   rw [e1,e2]
   exact q
 refine Int.le_trans (GB c) ?_
 rw [HP]
 have e3:sm (λk=>(if dd<=ab ((Az said k).getD 0-so) then Tt else B)*ws.getD k 0) (ax said)=Tt*sm (λk=>if dd<=ab ((Az said k).getD 0-so) then ws.getD k 0 else 0) (ax said)+B*sm (λk=>if dd<=ab ((Az said k).getD 0-so) then 0 else ws.getD k 0) (ax said):=by
  rw [<- HP,<- HP,<- FN]
  refine EA λk _=>?_
  by_cases h:dd<=ab ((Az said k).getD 0-so)
  ·rw [if_pos h,if_pos h,if_pos h,Int.mul_zero,Int.add_zero]
  ·rw [if_neg h,if_neg h,if_neg h,Int.mul_zero,Int.zero_add]
 have e4:sm (λk=>ws.getD k 0) (ax said)=sm (λk=>if dd<=ab ((Az said k).getD 0-so) then ws.getD k 0 else 0) (ax said)+sm (λk=>if dd<=ab ((Az said k).getD 0-so) then 0 else ws.getD k 0) (ax said):=by
  rw [<- FN]
  refine EA λk _=>?_
  by_cases h:dd<=ab ((Az said k).getD 0-so)
  ·rw [if_pos h,if_pos h,Int.add_zero]
  ·rw [if_neg h,if_neg h,Int.zero_add]
 rw [e3]
 rw [e4] at hh ⊢
 unfold tS
 rw [hB,hT]
 generalize sm (λk=>if dd<=ab ((Az said k).getD 0-so) then ws.getD k 0 else 0) (ax said)=wf at *
 generalize sm (λk=>if dd<=ab ((Az said k).getD 0-so) then 0 else ws.getD k 0) (ax said)=wn at *
 have q:=RJ (x:=wf) (y:=wn) hTB wF
 have p:0<=b ^ sc.toNat:=Int.pow_nonneg wF
 have r:=Int.mul_le_mul_of_nonneg_left q p
 rw [Int.mul_assoc,Int.mul_comm 2 (b ^ sc.toNat*(Tt*wf+B*wn)),Int.mul_assoc,Int.mul_comm (Tt*wf+B*wn) 2,Int.mul_assoc]
 exact r
theorem Nj {m sc t b so:Int} {said:List (Option Int)} {ws:List Int} (hf:CL sc t b) (hs:Bn m sc said) (hso:0<=so/\so<=sc) (hw:B8 ws) (hl:ws.length=said.length) :
  (BT t b sc (ab (AK said ws-so)) so said ws).sum<=ws.sum*tS t b sc (ab (AK said ws-so)):=by
 have ha:=Sw (ws:=ws) hf hs hso hw
 rw [<- Pn hl,D6,Rs hl,N9 (λk=>(Az said k).isSome) (nW _ _ _ _ _ _ _),N9 (λk=>(Az said k).isSome) (λk=>ws.getD k 0),Int.mul_comm,Int.mul_add]
 refine Int.add_le_add ha (Int.le_of_eq ?_)
 rw [<- HP]
 refine EA λk hk=>?_
 have hq:=(List.mem_filter.mp hk).2
 unfold nW
 cases hx:Az said k with
 | some x=>rw [hx] at hq; cases hq
 | none=>
  show ws.getD k 0*tS t b sc (ab (AK said ws-so))=_
  rw [Int.mul_comm]
theorem WT {t b sc dd so:Int} {said:List (Option Int)} {ws:List Int} (h:ws.length=said.length) {k:Nat} (hk:k<said.length):(BT t b sc dd so said ws).getD k 0=ws.getD k 0*tF t b sc dd so (Az said k):=by
 rw [<- Pn h,List.getD_eq_getElem?_getD,List.getElem?_map,List.getElem?_range hk]
 rfl
theorem Nc {t b sc dd:Int} (hf:CL sc t b):0<tS t b sc dd:=by
 have t0:=hf.t0; have tb:=hf.tb
 have h1:0<b ^ sc.toNat:=Int.pow_pos wF
 have h2:0<b ^ dd.toNat:=Int.pow_pos wF
 have h3:0<=t ^ dd.toNat:=Int.pow_nonneg t0
 exact Int.mul_pos h1 wF
theorem Xq {ws:List Int} (h:B8 ws) {k:Nat} (hk:k<ws.length):ws.getD k 0<=ws.sum:=by
 induction ws generalizing k with
 | nil=>cases hk
 | cons a l ih=>
  have ha:=h a List.mem_cons_self
  have hl:B8 l:=λw hw=>h w (List.mem_cons_of_mem _ hw)
  have hs:=Ni hl
  rw [List.sum_cons]
  cases k with
  | zero=>show a<=_; omega
  | succ k=>
   have:=ih hl (k:=k) (by simpa using hk)
   show l.getD k 0<=_
   omega
def dW (tn:Tn) (ws:List Int):Int:=ab (AK tn.1 ws-tn.2)
def wN (t b sc:Int) (tn:Tn) (ws:List Int):List Int:=BT t b sc (dW tn ws) tn.2 tn.1 ws
def uN (t b sc:Int) (tn:Tn) (ws:List Int) (u:Int):Int:=u*tS t b sc (dW tn ws)
structure Gk (m:Nat) (ws:List Int) (u:Int) (i:Nat):Prop where
 wo:Ja i ws u
 ln:ws.length=m
 up:0<u
 sm:ws.sum<=(m:Nat)*u
theorem Gk.next {m:Nat} {sc t b u:Int} {ws:List Int} {i:Nat} {tn:Tn} (h:Gk m ws u i) (hf:CL sc t b) (hm:m<=24) (hok:Fm m sc tn):Gk m (wN t b sc tn ws) (uN t b sc tn ws u) (i+1)/\(wN t b sc tn ws).sum*u<=ws.sum*uN t b sc tn ws u:=by
 have hsd:=hok.said hm
 have hso:=hok.2.2
 have hsl:ws.length=tn.1.length:=by rw [h.ln]; exact hok.1.symm
 have hw0:B8 ws:=λw hw=>(h.wo.w w hw).1
 have hd:=EJ (Ed (ws:=ws) hsd (by have:=hf.s1; omega) hw0) hso
 have hnx:=RC (dd:=dW tn ws) (so:=tn.2) (said:=tn.1) hf h.wo hsd.2.2 hso hd
 have hsn:(wN t b sc tn ws).sum<=ws.sum*tS t b sc (dW tn ws):=Nj hf hsd hso hw0 hsl
 have htp:=Nc (dd:=dW tn ws) hf
 refine ⟨⟨hnx,by unfold wN; rw [F2 hsl]; exact h.ln,Int.mul_pos h.up htp,?_⟩,?_⟩
 ·refine Int.le_trans hsn ?_
  show _<=(m:Nat)*(u*tS t b sc (dW tn ws))
  rw [<- Int.mul_assoc]
  exact Int.mul_le_mul_of_nonneg_right h.sm (Int.le_of_lt htp)
 ·show _<=ws.sum*(u*tS t b sc (dW tn ws))
  rw [Int.mul_comm u,<- Int.mul_assoc]
  exact Int.mul_le_mul_of_nonneg_right hsn (Int.le_of_lt h.up)
abbrev Cu (m t b:Int) (o e:Nat):Prop:=t ^ o*(2*b) ^ e<=m*(b+t) ^ e*b ^ o
structure Ho (m t b:Int) (o:Nat):Prop where
 m1:1<=m
 m2:m<=24
 t0:0<=t
 tb:t<b
 b2:b<=100
 o2:o<=60
theorem le0 {m t b:Int} {o:Nat} (h:Ho m t b o):Cu m t b o 0:=by
 unfold Cu
 rw [Int.pow_zero,Int.pow_zero,Int.mul_one,Int.mul_one]
 have h1:t ^ o<=b ^ o:=D9 h.t0 (Int.le_of_lt h.tb) o
 have h2:0<=b ^ o:=Int.pow_nonneg (Int.le_trans h.t0 (Int.le_of_lt h.tb))
 have h3:1*b ^ o<=m*b ^ o:=Int.mul_le_mul_of_nonneg_right h.m1 h2
 omega
theorem big:199 ^ 56000*(24*100 ^ 60)<200 ^ 56000:=by decide +kernel
theorem ZV (N k:Nat) (h:199 ^ N*k<200 ^ N):(199:Int) ^ N*(k:Nat)<200 ^ N:=by
 have q:=Int.ofNat_lt.mpr h
 rw [Int.natCast_mul,Int.natCast_pow,Int.natCast_pow] at q
 exact q
theorem Yw {N:Nat} {k:Int} (hk:24*100 ^ 60<=k) (bg:(199:Int) ^ N*k<200 ^ N) {m t b:Int} {o e:Nat} (h:Ho m t b o) (hp:1<=t ^ o) (hl:Cu m t b o e):e<N:=by
 refine Nat.lt_of_not_le λhn=>?_
 unfold Cu at hl
 have hb:0<b:=Int.lt_of_le_of_lt h.t0 h.tb
 have hb0:0<=b:=Int.le_of_lt hb
 have c0:0<=b+t:=by have:=h.t0; omega
 have c1:0<(b+t) ^ e:=Int.pow_pos (by have:=h.t0; omega)
 have d0:0<=(2*b) ^ e:=Int.pow_nonneg wF
 have h1:(2*b) ^ e<=m*(b+t) ^ e*b ^ o:=by
  have:1*(2*b) ^ e<=t ^ o*(2*b) ^ e:=Int.mul_le_mul_of_nonneg_right hp d0
  omega
 have h2:(200*(b+t)) ^ e<=(199*(2*b)) ^ e:=D9 wF (by have:=h.tb; have:=h.b2; omega) e
 rw [Int.mul_pow,Int.mul_pow] at h2
 have h3:b ^ o<=100 ^ 60:=Int.le_trans (D9 hb0 h.b2 o) (by
  have:(100:Int) ^ 60=100 ^ o*100 ^ (60-o):=by rw [<- Int.pow_add]; congr 1; have:=h.o2; omega
  rw [this]
  have p1:(0:Int)<=100 ^ o:=Int.pow_nonneg wE
  have p2:(1:Int)<=100 ^ (60-o):=Int.pow_pos wE
  have:=Int.mul_le_mul_of_nonneg_left p2 p1
  omega)
 have h4:m*b ^ o<=k:=Int.le_trans (Int.mul_le_mul h.m2 h3 (Int.pow_nonneg hb0) wE) hk
 have e0:(0:Int)<=199 ^ e:=Int.pow_nonneg wE
 have h5:199 ^ e*(2*b) ^ e<=199 ^ e*k*(b+t) ^ e:=by
  have q1:=Int.mul_le_mul_of_nonneg_left h1 e0
  have q2:199 ^ e*(m*(b+t) ^ e*b ^ o)=199 ^ e*(m*b ^ o)*(b+t) ^ e:=by
   rw [Int.mul_assoc m,Int.mul_comm ((b+t) ^ e),<- Int.mul_assoc m,<- Int.mul_assoc,<- Int.mul_assoc,Int.mul_assoc (199 ^ e) m]
  have q3:199 ^ e*(m*b ^ o)*(b+t) ^ e<=199 ^ e*k*(b+t) ^ e:=Int.mul_le_mul_of_nonneg_right (Int.mul_le_mul_of_nonneg_left h4 e0) (Int.le_of_lt c1)
  omega
 have h6:(200:Int) ^ e<=199 ^ e*k:=Int.le_of_mul_le_mul_right (Int.le_trans h2 h5) c1
 obtain ⟨d,rfl⟩:=Nat.exists_eq_add_of_le hn
 have g1:(199:Int) ^ d<=200 ^ d:=D9 wE wE d
 have g0:(0:Int)<199 ^ d:=Int.pow_pos wE
 have hy:(0:Int)<=200 ^ N:=Int.pow_nonneg wE
 clear hk h4 h3 h5 h2 h1 hl
 rw [Int.pow_add,Int.pow_add] at h6
 generalize (199:Int) ^ N=x at *
 generalize (200:Int) ^ N=y at *
 generalize (199:Int) ^ d=u at *
 generalize (200:Int) ^ d=v at *
 have r1:x*k*u<y*u:=Int.mul_lt_mul_of_pos_right bg g0
 have r2:x*u*k=x*k*u:=by rw [Int.mul_assoc,Int.mul_comm u,<- Int.mul_assoc]
 have r3:y*u<=y*v:=Int.mul_le_mul_of_nonneg_left g1 hy
 omega
theorem L1 {m t b:Int} {o e:Nat} (h:Ho m t b o) (hp:1<=t ^ o) (hl:Cu m t b o e):e<56000:=Yw (k:=((24*100 ^ 60:Nat):Int)) wE (ZV 56000 _ big) h hp hl
def OP:List D->Prop:=λds=>∃ m t b o:Int,ds=[.int m,.int t,.int b,.int o]/\0<=o/\Ho m t b o.toNat
def OH:List D->D->Prop:=λds d=>∃ m t b o:Int,ds=[.int m,.int t,.int b,.int o]/\((t=0/\0<o/\d=.non)\/(¬ (t=0/\0<o)/\∃ e:Nat,e<56000/\d=.int (e:Nat)/\Cu m t b o.toNat e/\¬ Cu m t b o.toNat (e+1)))
def NU:List D->D->Prop:=λds d=>∃ t b o:Int,ds=[.int t,.int b,.int o]/\d=.bl (decide (t<b)&&(decide (t>0)||decide (o=0)))
def W0 (ρ:Aj) (_:Ad):Nat:=match ρ with
 | [_,_,_,_,some (.int e),_,_]=>56001-e.toNat
 | _=>0
def DM (t b sc:Int):List Tn->List Int->List Int
 | [],_=>[]
 | tn::ts,ws=>AK tn.1 ws::DM t b sc ts (wN t b sc tn ws)
def oI (k:Nat) (p:Tn×Int):Int:=if Cv (od (Az p.1.1 k))=true then 0 else if (!decide (Az p.1.1 k=some p.1.2))=true then 1 else 0
def hI (k:Nat) (p:Tn×Int):Int:=if Cv (od (Az p.1.1 k))=true then 0 else if (!decide (p.2=p.1.2))=true then 1 else 0
theorem XF {t b so x mm:Int} (hx:0<=x/\x<=1) (hso:0<=so/\so<=1) (hm:0<=mm/\mm<=1) (b0:0<b):tA t b 1 (ab (mm-so)) (ab (x-so))*(b ^ (if x=so then 0 else 1)*(b+t) ^ (if mm=so then 0 else 1))=tS t b 1 (ab (mm-so))*(t ^ (if x=so then 0 else 1)*(2*b) ^ (if mm=so then 0 else 1)):=by
 have hl:ab (x-so)=if x=so then 0 else 1:=by unfold ab; split <;> split <;> omega
 have hd:ab (mm-so)=if mm=so then 0 else 1:=by unfold ab; split <;> split <;> omega
 rw [hl,hd]
 unfold tA tS
 by_cases h1:x=so <;> by_cases h2:mm=so <;> simp only [h1,h2,if_true,if_false,Int.pow_zero,Int.pow_succ,Int.mul_one,Int.one_mul,Int.sub_zero,Int.sub_self,Int.toNat_zero,Int.toNat_one]
 ·omega
 ·ac_rfl
 ·rw [show (1:Int)+1=2 by decide]; ac_rfl
 ·ac_rfl
theorem Qf {m:Nat} {t b:Int} {k:Nat} (hf:CL 1 t b) (hm:m<=24) (hk:k<m):∀ (ts:List Tn) (ws:List Int) (u:Int) (i:Nat),Gk m ws u i->(∀ tn∈ts,Fm m 1 tn)->
  ∃ (ws':List Int) (u':Int) (j c e:Nat),Gk m ws' u' j/\sm (oI k) (ts.zip (DM t b 1 ts ws))=(c:Nat)/\sm (hI k) (ts.zip (DM t b 1 ts ws))=(e:Nat)/\c<=ts.length/\e<=ts.length/\ws'.getD k 0*(b ^ c*(b+t) ^ e)*u=ws.getD k 0*(t ^ c*(2*b) ^ e)*u'
 | [],ws,u,i,h,_=>⟨ws,u,i,0,0,h,rfl,rfl,Nat.le_refl _,Nat.le_refl _,by rw [Int.pow_zero,Int.pow_zero,Int.pow_zero,Int.pow_zero]⟩
 | tn::ts,ws,u,i,h,hts=>by
  have hok:=hts tn List.mem_cons_self
  obtain ⟨hN,_⟩:=h.next hf hm hok
  obtain ⟨ws',u',j,c,e,hI',hc,he,hcl,hel,heq⟩:=Qf hf hm hk ts _ _ _ hN λq hq=>hts q (List.mem_cons_of_mem _ hq)
  have hsl:ws.length=tn.1.length:=by rw [h.ln]; exact hok.1.symm
  have hw0:B8 ws:=λw hw=>(h.wo.w w hw).1
  have hkl:k<tn.1.length:=by rw [hok.1]; exact hk
  have htp:=Nc (dd:=dW tn ws) hf
  have hwk:(wN t b 1 tn ws).getD k 0=ws.getD k 0*tF t b 1 (dW tn ws) tn.2 (Az tn.1 k):=WT hsl hkl
  have huN:uN t b 1 tn ws u=u*tS t b 1 (dW tn ws):=rfl
  rw [hwk,huN] at heq
  have b0:0<b:=by have:=hf.t0; have:=hf.tb; omega
  have hs2:=Ed (ws:=ws) (hok.said hm) wE hw0
  have hkey:∃ cc ee:Nat,oI k (tn,AK tn.1 ws)=(cc:Nat)/\hI k (tn,AK tn.1 ws)=(ee:Nat)/\cc<=1/\ee<=1/\tF t b 1 (dW tn ws) tn.2 (Az tn.1 k)*(b ^ cc*(b+t) ^ ee)=tS t b 1 (dW tn ws)*(t ^ cc*(2*b) ^ ee):=by
   unfold oI hI
   cases hx:Az tn.1 k with
   | none=>
    refine ⟨0,0,rfl,rfl,by decide,by decide,?_⟩
    rw [Int.pow_zero,Int.pow_zero,Int.pow_zero,Int.pow_zero]
    rfl
   | some x=>
    have hmem:Az tn.1 k∈tn.1:=by
     unfold Az
     rw [List.getElem?_eq_getElem hkl]
     exact List.getElem_mem _
    rw [hx] at hmem
    have hon:=FZ ((hok.2.1 _ hmem).resolve_left (λz=>by cases z))
    refine ⟨if x=tn.2 then 0 else 1,if AK tn.1 ws=tn.2 then 0 else 1,?_,?_,by split <;> decide,by split <;> decide,XF hon hok.2.2 hs2 b0⟩
    ·show (if (!decide (some x=some tn.2))=true then (1:Int) else 0)=_
     by_cases e:x=tn.2
     ·rw [if_pos e,decide_eq_true (by rw [e])]; rfl
     ·rw [if_neg e,decide_eq_false (by intro z; exact e (Option.some.inj z))]; rfl
    ·show (if (!decide (AK tn.1 ws=tn.2))=true then (1:Int) else 0)=_
     by_cases e:AK tn.1 ws=tn.2
     ·rw [if_pos e,decide_eq_true e]; rfl
     ·rw [if_neg e,decide_eq_false e]; rfl
  obtain ⟨cc,ee,h1,h2,h3,h4,h5⟩:=hkey
  refine ⟨ws',u',j,cc+c,ee+e,hI',?_,?_,by rw [List.length_cons]; omega,by rw [List.length_cons]; omega,?_⟩
  ·show oI k (tn,AK tn.1 ws)+sm (oI k) (ts.zip (DM t b 1 ts (wN t b 1 tn ws)))=_
   rw [h1,hc]; omega
  ·show hI k (tn,AK tn.1 ws)+sm (hI k) (ts.zip (DM t b 1 ts (wN t b 1 tn ws)))=_
   rw [h2,he]; omega
  ·refine Int.eq_of_mul_eq_mul_right (Int.ne_of_gt htp) ?_
   rw [Int.pow_add,Int.pow_add,Int.pow_add,Int.pow_add]
   generalize tS t b 1 (dW tn ws)=S at *
   generalize tF t b 1 (dW tn ws) tn.2 (Az tn.1 k)=F at *
   generalize ws'.getD k 0=W' at *
   generalize ws.getD k 0=w at *
   generalize b ^ cc=x1 at *
   generalize (b+t) ^ ee=x2 at *
   generalize t ^ cc=y1 at *
   generalize (2*b) ^ ee=y2 at *
   generalize b ^ c=z1 at *
   generalize (b+t) ^ e=z2 at *
   generalize t ^ c=v1 at *
   generalize (2*b) ^ e=v2 at *
   have a1:W'*(x1*z1*(x2*z2))*u*S=W'*(z1*z2)*(u*S)*(x1*x2):=by ac_rfl
   have a2:w*F*(v1*v2)*u'*(x1*x2)=F*(x1*x2)*(w*(v1*v2)*u'):=by ac_rfl
   have a3:S*(y1*y2)*(w*(v1*v2)*u')=w*(y1*v1*(y2*v2))*u'*S:=by ac_rfl
   rw [a1,heq,a2,h5,a3]
theorem ZT {m:Nat} {t b:Int} {k:Nat} (hf:CL 1 t b) (hm1:1<=m) (hm:m<=24) (hk:k<m) {ts:List Tn} (hts:∀ tn∈ts,Fm m 1 tn) :
  ∃ c e:Nat,sm (oI k) (ts.zip (DM t b 1 ts (List.replicate m 1)))=(c:Nat)/\sm (hI k) (ts.zip (DM t b 1 ts (List.replicate m 1)))=(e:Nat)/\c<=ts.length/\e<=ts.length/\Cu (m:Nat) t b c e:=by
 have hws:(List.replicate m (1:Int)).sum=(m:Nat):=by
  have:=Vt (List.replicate m (0:Int))
  rw [List.map_replicate,List.length_replicate] at this
  exact this
 have hI0:Gk m (List.replicate m 1) 1 0:=⟨RB m,List.length_replicate,by decide,by rw [hws]; omega⟩
 obtain ⟨ws',u',j,c,e,hI,hc,he,h1,h2,heq⟩:=Qf hf hm hk ts _ _ _ hI0 hts
 refine ⟨c,e,hc,he,h1,h2,?_⟩
 have hwk:(List.replicate m (1:Int)).getD k 0=1:=by rw [List.getD_eq_getElem?_getD,List.getElem?_replicate,if_pos hk]; rfl
 rw [hwk,Int.one_mul,Int.mul_one] at heq
 have hw0:B8 ws':=λw hw=>(hI.wo.w w hw).1
 have hle:=Int.le_trans (Xq hw0 (show k<ws'.length by rw [hI.ln]; exact hk)) hI.sm
 have b0:0<b:=by have:=hf.t0; have:=hf.tb; omega
 have hB:0<=b ^ c*(b+t) ^ e:=Int.mul_nonneg (Int.pow_nonneg wF) (Int.pow_nonneg (by have:=hf.t0; omega))
 have q:=Int.mul_le_mul_of_nonneg_right hle hB
 rw [heq] at q
 unfold Cu
 refine Int.le_of_mul_le_mul_right (a:=u') ?_ hI.up
 have a1:(m:Nat)*u'*(b ^ c*(b+t) ^ e)=(m:Nat)*(b+t) ^ e*b ^ c*u':=by
  generalize b ^ c=x
  generalize (b+t) ^ e=y
  generalize ((m:Nat):Int)=z
  ac_rfl
 rw [a1] at q
 exact q
theorem Xs {m t b:Int} {o e:Nat} (t0:0<=t) (tb:t<b) (h:Cu m t b o (e+1)):Cu m t b o e:=by
 unfold Cu at *
 refine Int.le_of_mul_le_mul_right (a:=b+t) ?_ wF
 have p:0<=t ^ o*(2*b) ^ e:=Int.mul_nonneg (Int.pow_nonneg t0) (Int.pow_nonneg wF)
 have q:t ^ o*(2*b) ^ e*(b+t)<=t ^ o*(2*b) ^ e*(2*b):=Int.mul_le_mul_of_nonneg_left wF p
 rw [Int.pow_succ,Int.pow_succ] at h
 have a1:t ^ o*((2*b) ^ e*(2*b))=t ^ o*(2*b) ^ e*(2*b):=by rw [Int.mul_assoc]
 have a2:m*((b+t) ^ e*(b+t))*b ^ o=m*(b+t) ^ e*b ^ o*(b+t):=by
  generalize (b+t) ^ e=x
  generalize b ^ o=y
  generalize b+t=z
  ac_rfl
 rw [a1,a2] at h
 exact Int.le_trans q h
theorem PB {m t b:Int} {o:Nat} (t0:0<=t) (tb:t<b):∀ {e d:Nat},Cu m t b o (e+d)->Cu m t b o e
 | _,0,h=>h
 | e,d+1,h=>PB t0 tb (d:=d) (Xs t0 tb h)
theorem Oy {p:SP} {n:Nat}:∀ (ts:List Tn) (ws:List Int) (u:Int),(List.range ts.length).map (λk=>EY n (HI ts k).1 ((ts.take k).foldl (λy t=>DU t.1 t.2 y) (.v false p ws u)))=DM p.t p.b p.sc ts ws
 | [],_,_=>rfl
 | t::ts,ws,u=>by
  rw [List.length_cons,List.range_succ_eq_map,List.map_cons,List.map_map]
  show AK t.1 ws::_=AK t.1 ws::DM p.t p.b p.sc ts (wN p.t p.b p.sc t ws)
  congr 1
  exact Oy ts (wN p.t p.b p.sc t ws) (u*tS p.t p.b p.sc (ab (AK t.1 ws-t.2)))
def nn (said:List (Option Int)) (k:Nat):Int:=(Az said k).getD 0
def s1 (said:List (Option Int)) (ins:List Bool):List Int:=((ax said).filter λk=>ins.getD k false).map (nn said)
def sR (said:List (Option Int)) (ins:List Bool):List Int:=if s1 said ins=[] then Cc said else s1 said ins
def le (g:Int) (l:List Int):Nat:=(l.filter λx=>decide (x<=g)).length
theorem LK (g:Int) (n:Nat->Int) (b:Nat->Bool):∀ as:List Nat,sm (λq:Int×Int=>if q.1<=g then q.2 else 0) (as.map λk=>(n k,CK (b k)))=(le g ((as.filter b).map n):Nat)
 | []=>rfl
 | a::as=>by
  have ih:=LK g n b as
  rw [List.map_cons]
  show (if n a<=g then CK (b a) else 0)+_=_
  rw [ih]
  unfold CK
  cases hb:b a with
  | false=>
   rw [List.filter_cons_of_neg (by rw [hb]; exact Bool.false_ne_true),if_neg Bool.false_ne_true]
   split <;> omega
  | true=>
   rw [List.filter_cons_of_pos hb,if_pos rfl,List.map_cons]
   unfold le
   by_cases hg:n a<=g
   ·rw [if_pos hg,List.filter_cons,if_pos (decide_eq_true hg),List.length_cons]; omega
   ·rw [if_neg hg,List.filter_cons,if_neg (by rw [decide_eq_true_eq]; exact hg)]; omega
theorem JG (n:Nat->Int) (b:Nat->Bool):∀ as:List Nat,(as.map λk=>CK (b k)).sum=(((as.filter b).map n).length:Nat)
 | []=>rfl
 | a::as=>by
  have ih:=JG n b as
  rw [List.map_cons,List.sum_cons,ih]
  unfold CK
  cases hb:b a with
  | false=>rw [List.filter_cons_of_neg (by rw [hb]; exact Bool.false_ne_true),if_neg Bool.false_ne_true]; omega
  | true=>rw [List.filter_cons_of_pos hb,if_pos rfl,List.map_cons,List.length_cons]; omega
theorem Rt (said:List (Option Int)) (ins:List Bool) (h:ins.length=said.length):BW said (Bi ins)=(ax said).map λk=>CK (ins.getD k false):=by
 unfold BW Bi
 refine List.map_congr_left λk hk=>?_
 have hk:=Gh hk
 rw [List.getD_eq_getElem?_getD,List.getElem?_map,List.getElem?_eq_getElem wF,List.getD_eq_getElem?_getD,List.getElem?_eq_getElem wF]
 rfl
theorem Zs (said:List (Option Int)) (ins:List Bool) (h:ins.length=said.length):(∀ g,sm (λq:Int×Int=>if q.1<=g then q.2 else 0) ((Cc said).zip (Bd (BW said (Bi ins))))=(le g (sR said ins):Nat))/\(Bd (BW said (Bi ins))).sum=((sR said ins).length:Nat):=by
 rw [Rt said ins h]
 have hs:=JG (nn said) (λk=>ins.getD k false) (ax said)
 have hs1:s1 said ins=((ax said).filter λk=>ins.getD k false).map (nn said):=rfl
 rw [<- hs1] at hs
 have hz:∀ b:Nat->Bool,(Cc said).zip ((ax said).map λk=>CK (b k))=(ax said).map λk=>(nn said k,CK (b k)):=λb=>by
  show ((ax said).map (nn said)).zip _=_
  rw [List.zip_map']
 unfold sR Bd
 by_cases h0:s1 said ins=[]
 ·have h00:((ax said).map λk=>CK (ins.getD k false)).sum=0:=by rw [hs,h0]; rfl
  rw [if_pos h0,if_pos h00,List.map_map]
  have e:((λ_:Int=>(1:Int)) ∘ λk=>CK (ins.getD k false))=λk:Nat=>CK ((λ_=>true) k):=rfl
  have ht:(ax said).filter (λ_=>true)=ax said:=List.filter_eq_self.mpr λ_ _=>rfl
  rw [e]
  refine ⟨λg=>?_,?_⟩
  ·rw [hz,LK g (nn said) (λ_=>true),ht]
   rfl
  ·rw [JG (nn said) (λ_=>true),ht]
   rfl
 ·have h00:¬ ((ax said).map λk=>CK (ins.getD k false)).sum=0:=by
   rw [hs]
   have:=List.length_pos_iff.mpr h0
   omega
  rw [if_neg h0,if_neg h00]
  refine ⟨λg=>?_,hs⟩
  rw [hz,LK g (nn said)]
  rfl
theorem LJ {f g:Int} (h:f<=g):∀ l:List Int,le f l<=le g l
 | []=>Nat.le_refl _
 | x::l=>by
  have ih:=LJ h l
  unfold le at *
  rw [List.filter_cons,List.filter_cons]
  by_cases h1:x<=f
  ·rw [if_pos (decide_eq_true h1),if_pos (decide_eq_true wF),List.length_cons,List.length_cons]; omega
  ·rw [if_neg (by rw [decide_eq_true_eq]; exact h1)]
   by_cases h2:x<=g
   ·rw [if_pos (decide_eq_true h2),List.length_cons]; omega
   ·rw [if_neg (by rw [decide_eq_true_eq]; exact h2)]; exact ih
theorem Xd {said:List (Option Int)} {ins:List Bool} (h24:said.length<=24) (h:ins.length=said.length) :
  (sR said ins=[]->AK said (Bi ins)=0)/\(sR said ins≠[]->((sR said ins).length:Int)<=2*(le (AK said (Bi ins)) (sR said ins):Nat)/\∀ f,f<AK said (Bi ins)->2*((le f (sR said ins):Nat):Int)<(sR said ins).length):=by
 obtain ⟨c1,c2⟩:=Zs said ins h
 have hr:=Lk (HF (ws:=Bi ins) h24 (Js ins))
 have hm:CZ (Cc said) (BW said (Bi ins))=AK said (Bi ins):=rfl
 rw [hm] at hr
 generalize AK said (Bi ins)=m at hr
 have hne:Cc said=[] ↔ sR said ins=[]:=by
  unfold sR
  by_cases h0:s1 said ins=[]
  ·rw [if_pos h0]
  ·rw [if_neg h0]
   refine ⟨λe=>?_,λe=>absurd e h0⟩
   exfalso
   apply h0
   unfold s1
   have:ax said=[]:=List.map_eq_nil_iff.mp (show (ax said).map _=[] from e)
   rw [this]; rfl
 unfold GM at hr
 refine ⟨λe=>?_,λe=>?_⟩
 ·rw [if_pos (hne.mpr e)] at hr
  exact of_decide_eq_true hr
 ·rw [if_neg (λz=>e (hne.mp z)),Bool.and_eq_true,Bool.and_eq_true] at hr
  have h2:=of_decide_eq_true hr.2.1
  have h3:=of_decide_eq_true hr.2.2
  rw [c2] at h2 h3
  have e1:DW m (Cc said) (Bd (BW said (Bi ins)))+there m (Cc said) (Bd (BW said (Bi ins)))=(le m (sR said ins):Nat):=by
   rw [<- c1 m]
   unfold DW there
   rw [<- FN]
   refine EA λa ha=>?_
   split <;> split <;>(try split) <;> omega
  have e2:DW m (Cc said) (Bd (BW said (Bi ins)))=(le (m-1) (sR said ins):Nat):=by
   rw [<- c1 (m-1)]
   unfold DW
   refine EA λa ha=>?_
   split <;> split <;> omega
  rw [e1] at h3
  rw [e2] at h2
  refine ⟨h3,λf hf=>?_⟩
  have:=LJ (show f<=m-1 by omega) (sR said ins)
  omega
def A3 (l p:Int):Int:=if p<=l then l-p+1 else 0
def Hd (ps:List Int) (l:Int):Int:=if sm (A3 l) ps=0 then 0 else sm (A3 l) ps-1
theorem IW (l p:Int):0<=A3 l p:=by unfold A3; split <;> omega
theorem Y7 (ps:List Int) (l:Int):(if 0>sm (A3 l) ps-1 then 0 else sm (A3 l) ps-1)=Hd ps l:=by
 have:=Ez (l:=ps) (g:=A3 l) λa _=>IW l a
 unfold Hd
 split <;> split <;> omega
theorem Zh (ps:List Int) (l:Int):((ps.filter λp=>decide (p<=l)).map λp=>l-p+1).sum=sm (A3 l) ps:=by
 rw [D6,<- SM (p:=λp=>decide (p<=l)) (g:=A3 l) (λa _ h=>if_neg (of_decide_eq_false h))]
 exact EA λa ha=>(if_pos (of_decide_eq_true (List.mem_filter.mp ha).2)).symm
def NJ:List D->D->Prop:=λds d=>∃ (ps:List Int) (l:Int),ds=[.tup (ps.map D.int),.int l]/\ps.length<=63/\d=.int (Hd ps l)
theorem Lq (L so:Int):∀ (sc:List Int) (said:List (Option Int)),sm (A3 L) (CO said so sc)<=sm (A3 L) sc
 | [],_=>Int.le_refl _
 | x::sc,[]=>Ez (l:=x::sc) λa _=>IW L a
 | x::sc,w::said=>by
  have ih:=Lq L so sc said
  have hc:0<=BM w so:=by
   cases w with
   | none=>exact Int.le_refl _
   | some i=>show 0<=ab (i-so); unfold ab; split <;> omega
  show A3 L (x+BM w so)+sm (A3 L) (CO said so sc)<=A3 L x+sm (A3 L) sc
  have:A3 L (x+BM w so)<=A3 L x:=by unfold A3; split <;> split <;> omega
  omega
theorem OQ (L so:Int):∀ (sc:List Int) (said:List (Option Int)) (f:Nat),f<sc.length->f<said.length->sc.getD f 0<=L->1<=BM (Az said f) so->sm (A3 L) (CO said so sc)+1<=sm (A3 L) sc
 | [],_,f,h,_,_,_=>absurd h (Nat.not_lt_zero _)
 | _::_,[],f,_,h,_,_=>absurd h (Nat.not_lt_zero _)
 | x::sc,w::said,0,_,_,hx,hc=>by
  have ih:=Lq L so sc said
  have hx:x<=L:=hx
  have hc:1<=BM w so:=hc
  show A3 L (x+BM w so)+sm (A3 L) (CO said so sc)+1<=A3 L x+sm (A3 L) sc
  have:A3 L (x+BM w so)+1<=A3 L x:=by unfold A3; split <;>(try split) <;> omega
  omega
 | x::sc,w::said,f+1,h1,h2,hx,hc=>by
  have ih:=OQ L so sc said f (Nat.lt_of_succ_lt_succ h1) (Nat.lt_of_succ_lt_succ h2) hx hc
  have h0:0<=BM w so:=by
   cases w with
   | none=>exact Int.le_refl _
   | some i=>show 0<=ab (i-so); unfold ab; split <;> omega
  show A3 L (x+BM w so)+sm (A3 L) (CO said so sc)+1<=A3 L x+sm (A3 L) sc
  have:A3 L (x+BM w so)<=A3 L x:=by unfold A3; split <;> split <;> omega
  omega
theorem S2 {sc:List Int} {k:Nat} (h:k<sc.length) (L:Int) (hL:sc.getD k 0<=L):1<=sm (A3 L) sc:=by
 have:∀ (sc:List Int) (k:Nat),k<sc.length->sc.getD k 0<=L->1<=sm (A3 L) sc:=λsc=>by
  induction sc with
  | nil=>intro k h; exact absurd h (Nat.not_lt_zero _)
  | cons x l ih=>
   intro k h hL
   have hp:=Ez (l:=l) (g:=A3 L) λa _=>IW L a
   have hx:=IW L x
   show 1<=A3 L x+sm (A3 L) l
   cases k with
   | zero=>
    have hL:x<=L:=hL
    have:1<=A3 L x:=by unfold A3; rw [if_pos hL]; omega
    omega
   | succ k=>
    have:=ih k (Nat.lt_of_succ_lt_succ h) hL
    omega
 exact this sc k h hL
def Aw (said:List (Option Int)):Prop:=∀ w∈said,∃ i,w=some i
structure Ji (m:Nat) (ps sc:List Int) (errs hi:Int):Prop where
 ln:sc.length=m
 h0:0<=hi
 le:∀ k,k<m->hi<=sc.getD k 0
 pot:∀ L,hi<=L->errs+sm (A3 L) sc<=sm (A3 L) ps
theorem Ji.next {m:Nat} {ps sc:List Int} {errs hi so:Int} {said:List (Option Int)} {k:Nat} (h:Ji m ps sc errs hi) (hs:said.length=m) (aw:Aw said) (hf:D2 sc (List.range m) k) :
  Ji m ps (CO said so sc) (errs+(if (!decide ((Az said k).getD 0=so))=true then 1 else 0)) (if sc.getD k 0>hi then sc.getD k 0 else hi):=by
 have hk:=List.mem_range.mp hf.1
 have hln:=h.ln
 have hv:=h.le k hk
 have hsl:sc.length=said.length:=by omega
 have hc:∀ j,0<=BM (Az said j) so:=λj=>by
  cases Az said j with
  | none=>exact Int.le_refl _
  | some i=>show 0<=ab (i-so); unfold ab; split <;> omega
 have hhi:(if sc.getD k 0>hi then sc.getD k 0 else hi)=sc.getD k 0:=by split <;> omega
 rw [hhi]
 refine ⟨by rw [Pm hsl]; exact hln,by have:=h.h0; omega,λj hj=>?_,λL hL=>?_⟩
 ·rw [WU hsl wF]
  have:=(hf.2 j (List.mem_range.mpr hj)).1
  have:=hc j
  omega
 ·have hp:=h.pot L wF
  by_cases hd:(Az said k).getD 0=so
  ·rw [decide_eq_true hd]
   have:=Lq L so sc said
   show errs+0+_<=_
   omega
  ·rw [decide_eq_false hd]
   have hc1:1<=BM (Az said k) so:=by
    obtain ⟨i,e⟩:=aw _ (List.getElem_mem (show k<said.length by omega))
    have e2:Az said k=some i:=by unfold Az; rw [List.getElem?_eq_getElem wF,e]; rfl
    rw [e2] at hd ⊢
    have hd:¬ i=so:=hd
    show 1<=ab (i-so)
    unfold ab
    split <;> omega
   have:=OQ L so sc said k wF wF hL hc1
   show errs+1+_<=_
   omega
def ct (l:List Bool):Nat:=(l.filter id).length
def IR (so:Int) (l:List Int):Nat:=(l.filter λx=>decide (x=so)).length
def hv (n:Nat):Nat:=Nat.log2 n
theorem X6:∀ n,n<25->∀ j,j<25->j<=n->hv j<=hv n:=by decide +kernel
theorem X8:∀ n,n<25->∀ j,j<25->1<=j->2*j<=n->hv j+1<=hv n:=by decide +kernel
theorem X4:∀ n,n<25->1<n->hv n=hv (n/2)+1:=by decide +kernel
theorem X5:∀ n,n<25->¬ 1<n->hv n=0:=by decide +kernel
theorem X7:∀ n,n<25->hv n<=4:=by decide +kernel
theorem LI (so:Int):∀ l:List Int,le so l=le (so-1) l+IR so l
 | []=>rfl
 | x::l=>by
  have ih:=LI so l
  unfold le IR at *
  rw [List.filter_cons,List.filter_cons,List.filter_cons]
  by_cases h1:x<=so-1
  ·rw [if_pos (decide_eq_true wF),if_pos (decide_eq_true h1),if_neg (by rw [decide_eq_true_eq]; omega),List.length_cons,List.length_cons]; omega
  ·by_cases h2:x=so
   ·rw [if_pos (decide_eq_true wF),if_neg (by rw [decide_eq_true_eq]; exact h1),if_pos (decide_eq_true h2),List.length_cons,List.length_cons]; omega
   ·rw [if_neg (by rw [decide_eq_true_eq]; omega),if_neg (by rw [decide_eq_true_eq]; exact h1),if_neg (by rw [decide_eq_true_eq]; exact h2)]; exact ih
theorem Xr (g:Int) (l:List Int):le g l<=l.length:=List.length_filter_le _ _
theorem QC {α:Type} (f:α->Bool) (l:List α):ct (l.map f)=(l.filter f).length:=by
 unfold ct
 rw [List.filter_map,List.length_map]
 rfl
theorem Pz {said:List (Option Int)} {so:Int} {ins:List Bool} (h:ins.length=said.length):BN said so ins=(List.range said.length).map λk=>ins.getD k false&&decide (BM (Az said k) so=0):=by
 unfold BN
 refine List.ext_getElem? λi=>?_
 rw [List.getElem?_map,List.getElem?_map]
 by_cases hi:i<said.length
 ·have hz:i<(ins.zip said).length:=by rw [List.length_zip]; omega
  rw [List.getElem?_range hi,List.getElem?_eq_getElem hz,List.getElem_zip]
  have h1:ins.getD i false=ins[i]:=by rw [List.getD_eq_getElem?_getD,List.getElem?_eq_getElem wF]; rfl
  have h2:Az said i=said[i]:=by unfold Az; rw [List.getElem?_eq_getElem hi]; rfl
  show some (ins[i]&&decide (BM said[i] so=0))=some (ins.getD i false&&decide (BM (Az said i) so=0))
  rw [h1,h2]
 ·rw [List.getElem?_eq_none (by rw [List.length_zip]; omega),List.getElem?_eq_none (by simp; omega)]
  rfl
theorem XW {n:Nat} {ins:List Bool} (h:ins.length=n):ins=(List.range n).map λk=>ins.getD k false:=by
 refine List.ext_getElem? λi=>?_
 rw [List.getElem?_map]
 by_cases hi:i<n
 ·rw [List.getElem?_range hi,List.getElem?_eq_getElem wF]
  simp [List.getD,h,hi]
 ·rw [List.getElem?_eq_none wF,List.getElem?_eq_none (by simp; omega)]
  rfl
theorem Mn {said:List (Option Int)} (h:Aw said) {k:Nat} (hk:k<said.length):∃ i,Az said k=some i:=by
 obtain ⟨i,e⟩:=h _ (List.getElem_mem hk)
 exact ⟨i,by unfold Az; rw [List.getElem?_eq_getElem hk,e]; rfl⟩
theorem Zj {said:List (Option Int)} {ins:List Bool} (h:ins.length=said.length) (aw:Aw said):ct ins=(s1 said ins).length:=by
 conv=>lhs; rw [XW h]
 rw [QC]
 unfold s1 ax
 rw [List.length_map,List.filter_filter]
 congr 1
 refine List.filter_congr λk hk=>?_
 obtain ⟨i,e⟩:=Mn aw (List.mem_range.mp hk)
 rw [e]
 exact (Bool.and_true _).symm
theorem Zi {said:List (Option Int)} {so:Int} {ins:List Bool} (h:ins.length=said.length) (aw:Aw said):ct (BN said so ins)=IR so (s1 said ins):=by
 rw [Pz h,QC]
 unfold IR s1 ax
 rw [List.filter_map,List.length_map,List.filter_filter,List.filter_filter]
 congr 1
 refine List.filter_congr λk hk=>?_
 obtain ⟨i,e⟩:=Mn aw (List.mem_range.mp hk)
 show (ins.getD k false&&decide (BM (Az said k) so=0))=(decide (nn said k=so)&&ins.getD k false&&(Az said k).isSome)
 unfold nn
 rw [e]
 show (ins.getD k false&&decide (ab (i-so)=0))=(decide (i=so)&&ins.getD k false&&true)
 rw [Bool.and_true,Bool.and_comm]
 congr 1
 by_cases hi:i=so
 ·rw [decide_eq_true hi,decide_eq_true (by unfold ab; split <;> omega)]
 ·rw [decide_eq_false hi,decide_eq_false (by unfold ab; split <;> omega)]
theorem QZ (l:List Bool):l.any id=true ↔ 1<=ct l:=by
 unfold ct
 refine ⟨λh=>?_,λh=>?_⟩
 ·obtain ⟨b,hb,e⟩:=List.any_eq_true.mp h
  exact List.length_pos_iff.mpr (List.ne_nil_of_mem (List.mem_filter.mpr ⟨hb,e⟩))
 ·obtain ⟨b,hb⟩:=List.exists_mem_of_ne_nil _ (List.length_pos_iff.mp h)
  exact List.any_eq_true.mpr ⟨b,List.mem_filter.mp hb⟩
theorem IX (n:Nat):ct (List.replicate n true)=n:=by
 unfold ct
 rw [List.filter_eq_self.mpr λb hb=>by rw [List.eq_of_mem_replicate hb]; rfl,List.length_replicate]
theorem Yg {said:List (Option Int)} {so:Int} {ins:List Bool} (h24:said.length<=24) (h:ins.length=said.length) (aw:Aw said) (h1:1<=ct ins) :
  (AK said (Bi ins)≠so->2*ct (BN said so ins)<=ct ins)/\(AK said (Bi ins)=so->1<=ct (BN said so ins))/\ct (BN said so ins)<=ct ins:=by
 have e1:=Zj h aw
 have e2:=Zi (so:=so) h aw
 have hne:s1 said ins≠[]:=by
  rw [e1] at h1
  exact List.length_pos_iff.mp h1
 have er:sR said ins=s1 said ins:=if_neg hne
 have hm:=(Xd h24 h).2 (by rw [er]; exact hne)
 rw [er] at hm
 rw [e2,e1]
 generalize AK said (Bi ins)=m at hm
 generalize s1 said ins=S at hm hne
 obtain ⟨m1,m2⟩:=hm
 have hsp:=LI so S
 have hl:=Xr so S
 refine ⟨λhd=>?_,λhd=>?_,?_⟩
 ·by_cases hlt:so<m
  ·have:=m2 so hlt
   omega
  ·have:=LJ (show m<=so-1 by omega) S
   omega
 ·subst hd
  have:=m2 (m-1) wF
  have hsp:=LI m S
  omega
 ·omega
def Hi (m:Nat) (said:List (Option Int)) (so:Int) (am:List Int):List Int:=(List.range m).map λj=>am.getD j 0+(if (!decide (Az said j=some so))=true then 1 else 0)
theorem Q1 {m:Nat} {said:List (Option Int)} {so:Int} {am:List Int} {j:Nat} (h:j<m):(Hi m said so am).getD j 0=am.getD j 0+(if (!decide (Az said j=some so))=true then 1 else 0):=by
 unfold Hi
 rw [List.getD_eq_getElem?_getD,List.getElem?_map,List.getElem?_range h]
 rfl
structure Fp (m:Nat) (ins:List Bool) (ov errs:Int) (am:List Int) (i:Nat):Prop where
 li:ins.length=m
 la:am.length=m
 c1:1<=ct ins
 o0:0<=ov
 oi:ov<=i
 pot:errs+(hv (ct ins):Nat)<=((hv m:Nat)+1)*ov+(hv m:Nat)
 ea:∀ j,j<m->ov+(if ins.getD j false=true then 0 else 1)<=am.getD j 0
theorem Fp.next {m:Nat} {ins:List Bool} {ov errs so:Int} {am:List Int} {i:Nat} {said:List (Option Int)} (h:Fp m ins ov errs am i) (hm1:1<=m) (hm2:m<=24) (hs:said.length=m) (aw:Aw said) :
  Fp m (DP said so ins) (ED said so ins ov) (errs+(if (!decide (AK said (Bi ins)=so))=true then 1 else 0)) (Hi m said so am) (i+1)/\(AK said (Bi ins)=so->ED said so ins ov=ov):=by
 have hl:=h.li; have ho:=h.o0; have hoi:=h.oi; have hp:=h.pot
 have hil:ins.length=said.length:=by omega
 obtain ⟨a1,a2,a3⟩:=Yg (so:=so) wF hil aw h.c1
 have hc24:ct ins<=m:=by rw [<- hl]; exact List.length_filter_le _ _
 have hlr:=Pz (so:=so) hil
 have hll:=LH (so:=so) hil
 have heA:(if (!decide (AK said (Bi ins)=so))=true then (1:Int) else 0)=if AK said (Bi ins)=so then 0 else 1:=by
  by_cases hd:AK said (Bi ins)=so
  ·rw [if_pos hd,decide_eq_true hd]; rfl
  ·rw [if_neg hd,decide_eq_false hd]; rfl
 rw [heA]
 have hlat:∀ j,j<m->(BN said so ins).getD j false=(ins.getD j false&&decide (Az said j=some so)):=λj hj=>by
  rw [hlr,List.getD_eq_getElem?_getD,List.getElem?_map,List.getElem?_range wF]
  obtain ⟨x,e⟩:=Mn aw (show j<said.length by omega)
  show (ins.getD j false&&decide (BM (Az said j) so=0))=_
  rw [e]
  congr 1
  show decide (ab (x-so)=0)=decide (some x=some so)
  by_cases hx:x=so
  ·rw [decide_eq_true (show ab (x-so)=0 by unfold ab; split <;> omega),decide_eq_true (show some x=some so by rw [hx])]
  ·rw [decide_eq_false (show ¬ ab (x-so)=0 by unfold ab; split <;> omega),decide_eq_false (show ¬ some x=some so from λz=>hx (Option.some.inj z))]
 by_cases hany:(BN said so ins).any id=true
 ·have hc:=(QZ _).mp hany
  unfold DP ED
  rw [if_pos hany,if_pos hany]
  refine ⟨⟨by omega,by unfold Hi; rw [List.length_map,List.length_range],hc,ho,by omega,?_,λj hj=>?_⟩,λ_=>rfl⟩
  ·have hmo:=X6 (ct ins) wF (ct (BN said so ins)) wF a3
   by_cases hd:AK said (Bi ins)=so
   ·rw [if_pos hd]
    generalize ((hv m:Nat)+1)*ov+(hv m:Nat)=B at *
    omega
   ·rw [if_neg hd]
    have hh:=X8 (ct ins) wF (ct (BN said so ins)) wF hc (a1 hd)
    generalize ((hv m:Nat)+1)*ov+(hv m:Nat)=B at *
    omega
  ·rw [Q1 hj,hlat j hj]
   have:=h.ea j hj
   cases hb:ins.getD j false <;> cases hd:decide (Az said j=some so) <;> rw [hb] at this <;> simp at this ⊢ <;> omega
 ·have hc:ct (BN said so ins)=0:=by
   exact Nat.eq_zero_of_not_pos λz=>hany ((QZ (BN said so ins)).mpr z)
  have hd:AK said (Bi ins)≠so:=λz=>by have:=a2 z; omega
  unfold DP ED
  rw [if_neg hany,if_neg hany,if_neg hd]
  refine ⟨⟨by rw [List.length_replicate]; exact hl,by unfold Hi; rw [List.length_map,List.length_range],by rw [IX]; omega,by omega,by omega,?_,λj hj=>?_⟩,λz=>absurd z hd⟩
  ·rw [IX,hl,Int.mul_add,Int.mul_one]
   generalize ((hv m:Nat)+1:Int)*ov=B at *
   omega
  ·rw [Q1 hj]
   have:=h.ea j hj
   have hz:(BN said so ins).getD j false=false:=by
    cases hb:(BN said so ins).getD j false with
    | false=>rfl
    | true=>
     exfalso
     apply hany
     have hjl:j<(BN said so ins).length:=by omega
     rw [List.getD_eq_getElem?_getD,List.getElem?_eq_getElem hjl] at hb
     exact List.any_eq_true.mpr ⟨true,by rw [<- show (BN said so ins)[j]=true from hb]; exact List.getElem_mem _,rfl⟩
   rw [hlat j hj] at hz
   have hrep:(List.replicate ins.length true).getD j false=true:=by
    rw [List.getD_eq_getElem?_getD,List.getElem?_replicate,if_pos wF]
    rfl
   rw [hrep]
   cases hb:ins.getD j false <;> cases hdd:decide (Az said j=some so) <;> rw [hb] at this hz <;> rw [hdd] at hz <;> simp at this hz ⊢ <;> omega
theorem Fp.first {m:Nat} (hm1:1<=m):Fp m (List.replicate m true) 0 0 (List.replicate m 0) 0:=by
 refine ⟨List.length_replicate,List.length_replicate,by rw [IX]; exact hm1,Int.le_refl _,Int.le_refl _,?_,λj hj=>?_⟩
 ·rw [IX,Int.mul_zero]
  omega
 ·rw [List.getD_eq_getElem?_getD,List.getElem?_replicate,if_pos hj,List.getD_eq_getElem?_getD,List.getElem?_replicate,if_pos hj]
  decide
def muH:Aj->Ad->Nat:=λρ _=>match ρ with
 | [some (.int m),_]=>m.toNat
 | _=>0
def NW:List D->D->Prop:=λds d=>∃ m:Nat,ds=[.int (m:Nat)]/\(1<=m/\m<=24)/\d=.int (hv m:Nat)
def Er (so:Int) (x:Hn):Prop:=(so=1->∃ p ws u,x=.p (.v false p ws u))/\(so=2->∃ ps sc,x=.p (.f ps sc))/\(so=3->∃ ins ov,x=.p (.r ins ov))/\(so=4->∃ p ws u,x=.p (.v true p ws u))
theorem Er.hear {so w:Int} {x:Hn} {m:Nat} {said:List (Option Int)} (h:Er so x):Er so (A2 x m said w):=by
 refine ⟨λe=>?_,λe=>?_,λe=>?_,λe=>?_⟩
 ·obtain ⟨p,ws,u,rfl⟩:=h.1 e; exact ⟨p,_,_,by simp only [A2]; rfl⟩
 ·obtain ⟨p,ws,rfl⟩:=h.2.1 e; exact ⟨p,_,by simp only [A2]; rfl⟩
 ·obtain ⟨p,ws,rfl⟩:=h.2.2.1 e; exact ⟨_,_,by simp only [A2]; rfl⟩
 ·obtain ⟨p,ws,u,rfl⟩:=h.2.2.2 e; exact ⟨p,_,_,by simp only [A2]; rfl⟩
theorem LL {so:Int} {x:Hn} (h:so=0\/5<=so):Er so x:=⟨λe=>by omega,λe=>by omega,λe=>by omega,λe=>by omega⟩
def HL (C:Cs):AQ:=λds O R=>∃ (m:Nat) (so s x:Int),ds=[.int so,.int (m:Nat),.int s,.int x]/\(0<=so/\so<=4)/\Lo x/\(1<=m/\m<=24)/\(1<=s/\s<=10)/\∀ v,BU 0 m s v->Er so (.p v)->R (.ptr O.length) (O++[some (C.o (m:Nat) s v)])
def Gu (C:Cs) (j:Nat):AQ:=λds O R=>∃ (m:Nat) (s x:Int),ds=[.int (m:Nat),.int s,.int x,.int (j:Nat)]/\Lo x/\(1<=m/\m<=24)/\(1<=s/\s<=10)/\∀ (O':Ad) (q:Nat) (y:Hn),(∃ Y,O'=O++Y)->O.length<=q->Ay C O' y q m s->AS 0 y m s->AX y<=j+1->R (.ptr q) O'
def NV (C:Cs):AQ:=λds O R=>∃ (ns:List Int) (m:Nat) (s:Int),ds=[.scr (ns.map D.int),.int (m:Nat),.int s]/\ns.length<=63/\(1<=m/\m<=24)/\(1<=s/\s<=10)/\∀ (O':Ad) (q:Nat) (y:Hn),(∃ Y,O'=O++Y)->O.length<=q->Ay C O' y q m s->AS 0 y m s->AX y<=2->Er (Dh ns 2%7) y->R (.ptr q) O'
def NN:List D->D->Prop:=λds d=>∃ (m:Nat) (s so:Int),ds=[tD (sd m s,so),.int (m:Nat),.int s]/\m<=24/\(so=0\/so=s)/\d=.bl true
theorem Cf.up {C:Cs} {O:Ad} {m j j':Nat} {s:Int} {pv:List (Nat×Hn)} (h:Cf C O m s j pv) (hj:j<=j'):Cf C O m s j' pv:=λz hz=>⟨(h z hz).1,(h z hz).2.1,Nat.lt_of_lt_of_le (h z hz).2.2 hj⟩
theorem Zb {zs:List Hn} {hz:Hn} {ch:List Int} {j:Nat} (h1:∀ y∈zs,AX y<=j) (h2:AX hz<=j):AX (.t zs hz ch)<=j+1:=by
 simp only [AX]
 have:CA zs<=j:=by
  clear h2
  induction zs with
  | nil=>simp only [CA]; omega
  | cons y zs ih=>simp only [CA]; exact Nat.max_le.mpr ⟨h1 y List.mem_cons_self,ih λz hz=>h1 z (List.mem_cons_of_mem _ hz)⟩
 have:=Nat.max_le.mpr ⟨this,h2⟩
 omega
theorem M9 {C:Cs} {O:Ad} {m r:Nat} {s:Int} {pv:List (Nat×Hn)} {v:Hv} {j:Nat} (h:Cf C O m s (j+1) pv) (hv:BU r pv.length s v) (hl:1<=pv.length/\pv.length<=24):AS 0 (AI (.t (pv.map (·.2)) (.p v) []) m) m s/\AX (AI (.t (pv.map (·.2)) (.p v) []) m)<=j+1:=by
 refine ⟨?_,?_⟩
 ·simp only [AI,AS]
  refine ⟨(Hq _).mpr λy hy=>?_,?_,by rw [F5,List.length_map]; exact hl,by rw [List.length_replicate,F5]⟩
  ·rw [Ms,List.map_map] at hy
   obtain ⟨z,hz,rfl⟩:=List.mem_map.mp hy
   exact AS.anew _ _ _ (h z hz).2.1.choose_spec
  ·rw [F5,List.length_map]; exact hv.anew
 ·rw [He]
  refine Zb (λy hy=>?_) (by simp only [AX]; omega)
  obtain ⟨z,hz,rfl⟩:=List.mem_map.mp hy
  exact Nat.le_of_lt_succ (h z hz).2.2
theorem JF:∀ n:Nat,(List.replicate n (1:Int)).sum=(n:Nat)
 | 0=>rfl
 | n+1=>by rw [List.replicate_succ,List.sum_cons,JF n]; omega
theorem QB (p:SP):∀ (ws:List Int) (c:Int),(ws.map λw=>w*(p.m*(p.pa-p.sh))+c).sum=ws.sum*(p.m*(p.pa-p.sh))+(ws.length:Nat)*c
 | [],c=>by simp
 | w::ws,c=>by
  rw [List.map_cons,List.sum_cons,QB p ws c,List.sum_cons,List.length_cons]
  generalize p.m*(p.pa-p.sh)=K
  push_cast
  grind
theorem Sv {sf:Bool} {p:SP} {said:List (Option Int)} {so u:Int} {ws:List Int} (hv:C5 sf p) (hsd:Bn p.m p.sc said) (hso:0<=so/\so<=p.sc) (hw0:B8 ws) (hl:ws.length=said.length) (h:ws.sum<=u*p.m):(F9 sf p said so ws).sum<=GU sf p said so ws u*p.m:=by
 have h24:=hsd.2.1
 have hl2:(ws.length:Int)=p.m:=by have:=hsd.1; omega
 have hd:=EJ (Ed (ws:=ws) hsd (by have:=hv.f.s1; omega) hw0) hso
 have hs:=Nj hv.f hsd hso hw0 hl
 have hT:=FA (own:=ab (AK said ws-so)) hv.f hd.2
 cases sf with
 | false=>
  show (BT p.t p.b p.sc (ab (AK said ws-so)) so said ws).sum<=u*tS p.t p.b p.sc (ab (AK said ws-so))*p.m
  have e:u*tS p.t p.b p.sc (ab (AK said ws-so))*p.m=u*p.m*tS p.t p.b p.sc (ab (AK said ws-so)):=by grind
  rw [e]
  exact Int.le_trans hs (Int.mul_le_mul_of_nonneg_right h hT.1)
 | true=>
  obtain ⟨q1,q2,q3⟩:=hv.s rfl
  show (Df p (BT p.t p.b p.sc (ab (AK said ws-so)) so said ws)).sum<=u*tS p.t p.b p.sc (ab (AK said ws-so))*p.m*p.pa*p.m
  unfold Df
  rw [QB,F2 hl,hl2]
  generalize (BT p.t p.b p.sc (ab (AK said ws-so)) so said ws).sum=X at hs
  generalize tS p.t p.b p.sc (ab (AK said ws-so))=Y at hs hT
  generalize ws.sum=W at hs h
  have m1:=hv.m1
  have e1:X*(p.m*(p.pa-p.sh))+p.m*(p.sh*X)=X*(p.m*p.pa):=by grind
  have e2:u*Y*p.m*p.pa*p.m=u*p.m*Y*(p.m*p.pa):=by grind
  rw [e1,e2]
  refine Int.mul_le_mul_of_nonneg_right (Int.le_trans hs (Int.mul_le_mul_of_nonneg_right h hT.1)) (Int.mul_nonneg wF wF)
theorem PP {m:Nat} {s:Int} {sf:Bool} {p:SP} (hs:1<=s) (hm:m<=24) (h0:BU 0 m s (.v sf p (List.replicate m 1) 1)):∀ n,∃ ws u,A6 m s n (.p (.v sf p (List.replicate m 1) 1))=.p (.v sf p ws u)/\BU n m s (.v sf p ws u)/\ws.sum<=u*p.m
 | 0=>⟨_,_,rfl,h0,by rw [JF,h0.2.1]; omega⟩
 | n+1=>by
  obtain ⟨ws,u,e,hk,hsum⟩:=PP hs hm h0 n
  have hsd:=GF (m:=m) (s:=s) wF hm
  have hso:=Gz (m:=m) (s:=s) (y:=.p (.v sf p ws u)) wF
  refine ⟨F9 sf p (sd m s) (Be m s (.p (.v sf p ws u))) ws,GU sf p (sd m s) (Be m s (.p (.v sf p ws u))) ws u,?_,hk.hear hsd hso,?_⟩
  ·show A2 (A6 m s n _) m (sd m s) (Be m s (A6 m s n _))=_
   rw [e]; simp only [A2]; rfl
  ·exact Sv hk.1 (by rw [hk.2.1,hk.2.2.1]; exact hsd) (by rw [hk.2.2.1]; exact hso) (λw hw=>(hk.2.2.2.1.w w hw).1) (by rw [FP]; exact hk.2.2.2.2) hsum
theorem PR {m:Nat} {s:Int} {ps:List Int} (hs:1<=s) (hm:1<=m) (hps:Eo (m:Nat) ps):∀ n,∃ sc hi,A6 m s n (.p (.f ps ps))=.p (.f ps sc)/\Ji m ps sc (n:Nat) hi
 | 0=>⟨ps,0,rfl,by have:=hps.1; omega,Int.le_refl _,λk hk=>by
   have hk:k<ps.length:=by have:=hps.1; omega
   rw [List.getD_eq_getElem?_getD,List.getElem?_eq_getElem hk]
   exact (hps.2 _ (List.getElem_mem hk)).1,λL _=>by show 0+_<=_; omega⟩
 | n+1=>by
  obtain ⟨sc,hi,e,hK⟩:=PR hs hm hps n
  obtain ⟨k,hk⟩:=Yv (sc:=sc) (by rw [hK.ln]; exact hm)
  rw [hK.ln] at hk
  have hkm:=List.mem_range.mp hk.1
  have aw:Aw (sd m s):=λw hw=>by
   obtain ⟨j,_,rfl⟩:=List.mem_map.mp hw
   exact ⟨_,rfl⟩
  have hsay:Bv (.p (.f ps sc)) m (sd m s)=(Az (sd m s) k).getD 0:=by
   simp only [Bv]
   exact Oz (by rw [SW]; exact hk)
  have hne:=HN (m:=m) (s:=s) (y:=.p (.f ps sc)) hs
  rw [hsay] at hne
  have hN:=hK.next (so:=Be m s (.p (.f ps sc))) (FP m s) aw hk
  rw [decide_eq_false hne] at hN
  refine ⟨CO (sd m s) (Be m s (.p (.f ps sc))) sc,_,?_,hN⟩
  show A2 (A6 m s n _) m (sd m s) (Be m s (A6 m s n _))=_
  rw [e]; simp only [A2]; rfl
theorem PQ {m:Nat} {s:Int} (hs:1<=s) (hm1:1<=m) (hm:m<=24):∀ n,∃ ins ov am,A6 m s n (.p (.r (List.replicate m true) 0))=.p (.r ins ov)/\Fp m ins ov (n:Nat) am n
 | 0=>⟨_,_,_,rfl,Fp.first hm1⟩
 | n+1=>by
  obtain ⟨ins,ov,am,e,hK⟩:=PQ hs hm1 hm n
  have aw:Aw (sd m s):=λw hw=>by
   obtain ⟨j,_,rfl⟩:=List.mem_map.mp hw
   exact ⟨_,rfl⟩
  have hsay:Bv (.p (.r ins ov)) m (sd m s)=AK (sd m s) (Bi ins):=by simp only [Bv]; rfl
  have hne:=HN (m:=m) (s:=s) (y:=.p (.r ins ov)) hs
  rw [hsay] at hne
  have hN:=(hK.next (so:=Be m s (.p (.r ins ov))) hm1 hm (FP m s) aw).1
  rw [decide_eq_false hne] at hN
  refine ⟨DP (sd m s) (Be m s (.p (.r ins ov))) ins,ED (sd m s) (Be m s (.p (.r ins ov))) ins ov,_,?_,hN⟩
  show A2 (A6 m s n _) m (sd m s) (Be m s (A6 m s n _))=_
  rw [e]; simp only [A2]; rfl
def Cd (m:Nat) (s:Int) (y:Hn) (b:Bool) (n:Nat):Int:=((List.range n).map λk=>if decide (Be m s (A6 m s k y)=0)=b then (1:Int) else 0).sum
theorem GW (m:Nat) (s:Int) (y:Hn) (b:Bool) (n:Nat):Cd m s y b (n+1)=Cd m s y b n+if decide (Be m s (A6 m s n y)=0)=b then (1:Int) else 0:=by
 unfold Cd
 rw [List.range_succ,List.map_append,List.sum_append]
 show _+(_+0)=_
 rw [Int.add_zero]
theorem LS (m:Nat) (s:Int) (y:Hn) (b:Bool):∀ n,0<=Cd m s y b n
 | 0=>Int.le_refl _
 | n+1=>by rw [GW]; have:=LS m s y b n; split <;> omega
theorem PX (m:Nat) (s:Int) (y:Hn):∀ n,Cd m s y false n+Cd m s y true n=(n:Nat)
 | 0=>rfl
 | n+1=>by
  rw [GW,GW]
  have:=PX m s y n
  cases decide (Be m s (A6 m s n y)=0) <;> simp <;> omega
theorem P9 (m:Nat) (s:Int) (p:SP) (n:Nat):∀ k,k<=n->A6 m s k (.p (.v false p (List.replicate m 1) 1))=.p (((BX m s n (.p (.v false p (List.replicate m 1) 1))).take k).foldl (λy t=>DU t.1 t.2 y) (.v false p (List.replicate m 1) 1))
 | 0,_=>rfl
 | k+1,h=>by
  rw [List.take_add_one,Jz (show k<n by omega),List.foldl_append]
  show A2 (A6 m s k _) m (sd m s) (Be m s (A6 m s k _))=.p (DU (sd m s) (Be m s (A6 m s k _)) _)
  have ih:=P9 m s p n k wF
  generalize ((BX m s n (.p (.v false p (List.replicate m 1) 1))).take k).foldl (λy t=>DU t.1 t.2 y) (.v false p (List.replicate m 1) 1)=z at ih
  rw [ih]; simp only [A2]
theorem XM {m n:Nat} {p:SP} (hm1:1<=m) (hm:m<=24) (h0:BU 0 m 1 (.v false p (List.replicate m 1) 1)) (j:Nat) (hj:j<m):∃ c:Nat,Cd m 1 (.p (.v false p (List.replicate m 1) 1)) (decide (j%2=1)) n=(c:Nat)/\c<=n/\Cu (m:Nat) p.t p.b c n:=by
 have hf:CL 1 p.t p.b:=by have:=h0.1.f; rw [h0.2.2.1] at this; exact this
 obtain ⟨c,e,hc,he,hcl,hel,hle⟩:=ZT (k:=j) hf hm1 hm hj (RV (n:=n) (y:=.p (.v false p (List.replicate m 1) 1)) (show (0:Int)<=1 by decide) hm)
 have hz:(BX m 1 n (.p (.v false p (List.replicate m 1) 1))).zip (DM p.t p.b 1 (BX m 1 n (.p (.v false p (List.replicate m 1) 1))) (List.replicate m 1))=(List.range n).map λk=>((sd m 1,Be m 1 (A6 m 1 k (.p (.v false p (List.replicate m 1) 1)))),Bv (A6 m 1 k (.p (.v false p (List.replicate m 1) 1))) m (sd m 1)):=by
  have e:=Oy (p:=p) (n:=m) (BX m 1 n (.p (.v false p (List.replicate m 1) 1))) (List.replicate m 1) 1
  rw [h0.2.2.1,Fz] at e
  have e2:(List.range n).map (λk=>Bv (A6 m 1 k (.p (.v false p (List.replicate m 1) 1))) m (sd m 1))=(List.range n).map (λk=>EY m (HI (BX m 1 n (.p (.v false p (List.replicate m 1) 1))) k).1 (((BX m 1 n (.p (.v false p (List.replicate m 1) 1))).take k).foldl (λy t=>DU t.1 t.2 y) (.v false p (List.replicate m 1) 1))):=by
   refine List.map_congr_left λk hk=>?_
   have hk:=List.mem_range.mp hk
   rw [R0 (Jz hk),P9 m 1 p n k wF]
   simp only [Bv]
  rw [<- e,<- e2]
  conv=>lhs; lhs; unfold BX
  exact List.zip_map' ..
 have hsat:Az (sd m 1) j=some (if j%2=0 then 0 else 1):=Oh hj
 rw [hz,<- D6,List.map_map] at hc he
 have hen:(e:Int)=(n:Nat):=by
  have e1:(List.range n).map (λ_=>(1:Int))=List.replicate n 1:=by rw [List.map_const',List.length_range]
  rw [<- he,<- JF n,<- e1]
  congr 1
  refine List.map_congr_left λk _=>?_
  show (if Cv (od (Az (sd m 1) j))=true then (0:Int) else if (!decide (Bv _ m (sd m 1)=Be m 1 _))=true then 1 else 0)=1
  rw [hsat,decide_eq_false (HN wE)]
  rfl
 have hee:e=n:=by omega
 subst hee
 refine ⟨c,?_,by rw [Fz] at hcl; exact hcl,hle⟩
 rw [<- hc]
 unfold Cd
 congr 1
 refine List.map_congr_left λk _=>?_
 show _=(if Cv (od (Az (sd m 1) j))=true then (0:Int) else if (!decide (Az (sd m 1) j=some (Be m 1 (A6 m 1 k _))))=true then 1 else 0)
 rw [hsat]
 rcases N6 m 1 (A6 m 1 k (.p (.v false p (List.replicate m 1) 1))) with h | h <;> rw [h] <;> by_cases h2:j%2=0
 ·rw [if_pos h2,decide_eq_false (show ¬ j%2=1 by omega)]; rfl
 ·rw [if_neg h2,decide_eq_true (show j%2=1 by omega)]; rfl
 ·rw [if_pos h2,decide_eq_false (show ¬ j%2=1 by omega)]; rfl
 ·rw [if_neg h2,decide_eq_true (show j%2=1 by omega)]; rfl
structure Wi (so:Int) (x:Hn) (m:Nat) (s:Int) (n:Nat) (es:List Int):Prop where
 l:es.length<=24
 w:so=1\/so=4->∃ sf p ws u,x=.p (.v sf p ws u)/\(so=1->sf=false)/\ws.sum<=u*(m:Nat)/\ws.length=m/\CL s p.t p.b/\(so=1->s=1->∀ e∈es,∃ c:Nat,e=(c:Nat)/\c<=60/\Cu (m:Nat) p.t p.b c n)
 f:so=2->∃ ps sc,x=.p (.f ps sc)/\ps.length=m/\sc.length=m/\∀ L,L∈sc->(∀ y∈sc,L<=y)->(n:Int)<=Hd ps L
 r:so=3->∃ ins ov,x=.p (.r ins ov)/\(n:Int)<=((hv m:Nat)+1)*ov+(hv m:Nat)
def Nu (C:Cs):AQ:=λds O R=>∃ (so:Int) (q n m:Nat) (s:Int) (x:Hn) (es:List Int),ds=[.int so,.ptr q,.lst (es.map D.int),.int (m:Nat),.int s,.int (n:Nat)]/\Ay C O x q m s/\(1<=m/\m<=24)/\n<=60/\Wi so x m s n es/\R (.bl true) O
theorem Ry {so s:Int} {x:Hn} {m n:Nat} (hk:Er so x) (hok:AS 0 (AI x m) m s) (hm:1<=m/\m<=24) (hs:1<=s) (hn:n<=60):Wi so (A6 m s n (AI x m)) m s n ((List.range m).map λj=>Cd m s (AI x m) (decide (j%2=1)) n):=by
 refine ⟨by rw [List.length_map,List.length_range]; exact hm.2,λh=>?_,λh=>?_,λh=>?_⟩
 ·obtain ⟨sf,p,ws,u,rfl,hsf⟩:∃ sf p ws u,x=.p (.v sf p ws u)/\(so=1->sf=false):=by
   rcases h with h | h
   ·obtain ⟨p,ws,u,rfl⟩:=hk.1 h; exact ⟨_,_,_,_,rfl,λ_=>rfl⟩
   ·obtain ⟨p,ws,u,rfl⟩:=hk.2.2.2 h; exact ⟨_,_,_,_,rfl,λe=>by omega⟩
  have e:AI (.p (.v sf p ws u)) m=.p (.v sf p (List.replicate m 1) 1):=by simp only [AI]; rfl
  rw [e] at hok ⊢
  obtain ⟨w2,u2,e2,hk2,hsum⟩:=PP hs hm.2 hok.pl n
  rw [hk2.2.1] at hsum
  refine ⟨sf,p,w2,u2,e2,hsf,hsum,hk2.2.2.2.2,by have:=hk2.1.f; rw [hk2.2.2.1] at this; exact this,λh1 hs1=>?_⟩
  have:=hsf h1
  subst this
  subst hs1
  intro y hy
  obtain ⟨j,hj,rfl⟩:=List.mem_map.mp hy
  obtain ⟨c,h1,h2,h3⟩:=XM (n:=n) hm.1 hm.2 hok.pl j (List.mem_range.mp hj)
  exact ⟨c,h1,by omega,h3⟩
 ·obtain ⟨ps,sc,rfl⟩:=hk.2.1 h
  have e:AI (.p (.f ps sc)) m=.p (.f ps ps):=by simp only [AI]; rfl
  rw [e] at hok ⊢
  have hps:Eo (m:Nat) ps:=hok.pl.1
  obtain ⟨s2,hi,e2,hK⟩:=PR hs hm.1 hps n
  refine ⟨ps,s2,e2,by have:=hps.1; omega,hK.ln,λL hL hmin=>?_⟩
  obtain ⟨i,hi2,rfl⟩:=List.mem_iff_getElem.mp hL
  have hg:s2.getD i 0=s2[i]:=by rw [List.getD_eq_getElem?_getD,List.getElem?_eq_getElem hi2]; rfl
  have h1:=hK.le i (by rw [<- hK.ln]; exact hi2)
  rw [hg] at h1
  have h2:=hK.pot s2[i] h1
  have h3:=S2 hi2 s2[i] (by rw [hg]; exact Int.le_refl _)
  unfold Hd
  split <;> omega
 ·obtain ⟨ins,ov,rfl⟩:=hk.2.2.1 h
  have e:AI (.p (.r ins ov)) m=.p (.r (List.replicate m true) 0):=by simp only [AI]; rfl
  rw [e]
  obtain ⟨i2,o2,am,e2,hK⟩:=PQ hs hm.1 hm.2 n
  have:=hK.pot
  exact ⟨i2,o2,e2,by omega⟩
def OF:List D->D->Prop:=λ_ d=>∃ m:Nat,d=.int (m:Nat)/\2<=m/\m<=24
theorem J1 (m:Nat) (s:Int):(sd m s).map od=((List.range m).map λk:Nat=>((k:Int)%2*s)).map D.int:=by
 unfold sd
 rw [List.map_map,List.map_map]
 refine List.map_congr_left λk _=>?_
 show D.int (if k%2=0 then 0 else s)=D.int ((k:Int)%2*s)
 congr 1
 by_cases h:k%2=0
 ·rw [if_pos h,show ((k:Nat):Int)%2=0 by omega,Int.zero_mul]
 ·rw [if_neg h,show ((k:Nat):Int)%2=1 by omega,Int.one_mul]
theorem Sx (a b:Int):[a,b].sum=a+b:=by show a+(b+0)=_; omega
def NI:List D->D->Prop:=λds d=>∃ (m:Nat) (s:Int),ds=[.int (m:Nat),.int s]/\m<=24/\d=.tup ((sd m s).map od)
seal Ae Ev BZ Ex Ch AU Ci
section
variable {P:Program} {w:World} {K:PySem.W.Frag} {mg:Str->Option Value} {base:Heap} {CK1 CK5 CK3 CK2 CK0 CK4:Addr} {f:Addr} {fd:FuncData} (T:Txt K mg CK1 CK5 CK3 CK2 CK0 CK4)
include T
theorem VW (Fn:Av K "is_whole" "is_whole" Kw f fd) (hm:mg "is_whole" = some (.ref f)) (hb:Binds K fd ["value"] []):Ak P w K mg base 1 "is_whole" (Au JQ):=by
 refine A1 (k:=0) Fn S8 hm hb (λds O R h=>?_) (λcdv A outer s H E ds O R hr h=>?_)
 ·obtain ⟨_,⟨_,rfl,_⟩,_⟩:=h; rfl
 ·obtain ⟨d,⟨w,rfl,rfl⟩,hR⟩:=h
  cases w with
  | none=>
   refine Ac (AG (Ae.ev (DE (A8 T.ba (Ab (Aa 0) (Ab (DB T.bc) Af)) (QI rfl)) (λhbb=>(DC (L3 (A8 T.ba (Ab (Aa 0) (Ab (DB T.bd) Af)) (Mh rfl)))))) ?_))
   exact hR
  | some i=>
   refine Ac (AG (Ae.ev (DE (A8 T.ba (Ab (Aa 0) (Ab (DB T.bc) Af)) (QI rfl)) (λhbb=>(DC (L3 (A8 T.ba (Ab (Aa 0) (Ab (DB T.bd) Af)) (Mh rfl)))))) ?_))
   exact hR
theorem V3 (Fn:Av K "counted" "counted" KD f fd) (hm:mg "counted" = some (.ref f)) (hb:Binds K fd ["weights"] []):Ak P w K mg base 1 "counted" (Au N1):=by
 refine A1 (k:=0) Fn Ti hm hb (λds O R h=>?_) (λcdv A outer s H E ds O R hr h=>?_)
 ·obtain ⟨_,⟨_,rfl,_⟩,_⟩:=h; rfl
 ·obtain ⟨d,⟨ws,rfl,hl,rfl⟩,hR⟩:=h
  refine Ac (AT (AM (A8 T.xw (Ab (Aa 0) Af) (Gf (by first | exact Or.inr rfl | exact Or.inl (Or.inl rfl) | exact Or.inl (Or.inr (Or.inl rfl)) | exact Or.inl (Or.inr (Or.inr ⟨_,rfl,by first | assumption | rfl⟩))))) Ag A5) (λhk=>?_) (λhk=>?_))
  ·have hk:=of_decide_eq_true hk
   refine Ac (AG (Ae.ev (Cy (λ_=>.int 1) ["weight"] [] [] (Cq (Aa 0) wB) (by rw [sizeLine_eq]; omega) (by exact λq hq s H fp=>⟨[some _],rfl,(AZ 0 (show List.Nodup (["weight"]:List Str) by decide +kernel)),⟨_,rfl,Ag⟩⟩)) ?_))
   unfold Bd at hR
   rw [if_pos hk,List.map_map] at hR
   exact hR
  ·have hk:=of_decide_eq_false hk
   refine Aq ?_
   refine Ac (AG (Ae.ev (Ck T.xu (Ab (Aa 0) Af) (ZO (by first | exact Or.inr rfl | exact Or.inl (Or.inl rfl) | exact Or.inl (Or.inr (Or.inl rfl)) | exact Or.inl (Or.inr (Or.inr ⟨_,rfl,by first | assumption | rfl⟩))))) ?_))
   unfold Bd at hR
   rw [if_neg hk] at hR
   exact hR
theorem VF (Fn:Av K "middle" "middle" Kg f fd) (hm:mg "middle" = some (.ref f)) (hb:Binds K fd ["numbers","weights"] []) (gg:Ak P w K mg base 1 "counted" (Au N1)):Ak P w K mg base 2 "middle" (Au NK):=by
 refine A1 (k:=1) Fn EV hm hb (λds O R h=>?_) (λcdv A outer s H E ds O R hr h=>?_)
 ·obtain ⟨_,⟨_,_,rfl,_⟩,_⟩:=h; rfl
 ·obtain ⟨d,⟨ns,ws,rfl,⟨h1,h2,h3⟩,rfl⟩,hR⟩:=h
  refine Ac (AW 2 (Ae.ev (AD gg (hr.mono wE) (Ab (Aa 1) Af) ⟨_,rfl,by assumption,rfl⟩) ?_) EV.nd)
  have hc:=Ma h3
  have hcl:=Mb ws
  unfold CZ at hR
  generalize Bd ws=cs at hR hc hcl
  refine Ac (AW 3 (Ae.ev (A8 T.xw (Ab (Aa 2) Af) (Gf (by first | exact Or.inr rfl | exact Or.inl (Or.inl rfl) | exact Or.inl (Or.inr (Or.inl rfl)) | exact Or.inl (Or.inr (Or.inr ⟨_,rfl,by first | assumption | rfl⟩))))) ?_) EV.nd)
  refine Ac (AW 4 (Ae.ev Ag ?_) EV.nd)
  have hz:(ns.zip cs).length<64:=by rw [List.length_zip]; omega
  have hsl:(Ca AY (ns.zip cs)).length<=63:=by rw [(HK AY (ns.zip cs)).length_eq]; omega
  have hsm:∀ p∈Ca AY (ns.zip cs),0<=p.2:=λp hp=>hc _ (List.of_mem_zip ((HK AY (ns.zip cs)).mem_iff.mp hp)).2
  refine Ac (Dw (Cq (YB GQ (λY=>Zv) WP (GZ (Aa 0) (Aa 2) wB wB T.xx) wF T.xy) wB) (λi ρ O'=>∃ (r:Int) (u v:Option D),ρ=[some (.tup (ns.map D.int)),some (.tup (ws.map D.int)),some (.lst (cs.map D.int)),some (.int cs.sum),some (.int r),u,v]/\r=sm (λq=>q.2) ((Ca AY (ns.zip cs)).take i)/\go cs.sum 0 (Ca AY (ns.zip cs))=go cs.sum r ((Ca AY (ns.zip cs)).drop i)/\O'=O) ⟨0,_,_,rfl,rfl,rfl,rfl⟩ ?_ ?_)
  ·rintro i x ρ O' hx ⟨r,u,v,rfl,hr1,hg,rfl⟩
   rw [List.getElem?_map] at hx
   cases hp:(Ca AY (ns.zip cs))[i]? with
   | none=>rw [hp] at hx; cases hx
   | some p=>
    rw [hp] at hx
    cases hx
    refine ⟨_,Eu (CJ (AZ 5 EV.nd) (CJ (AZ 6 EV.nd) Et)),?_⟩
    refine Ac (AW 4 (Ae.ev (Ai (Aa 4) (Aa 6) Bl) ?_) EV.nd)
    have h4:r+p.2=sm (λq=>q.2) ((Ca AY (ns.zip cs)).take (i+1)):=by rw [SK hp,hr1]
    have hd:(Ca AY (ns.zip cs)).drop i=p::(Ca AY (ns.zip cs)).drop (i+1):=by
     obtain ⟨hi,e⟩:=List.getElem?_eq_some_iff.mp hp
     rw [List.drop_eq_getElem_cons hi,e]
    rw [hd] at hg
    refine Ac (AT (AM (Ai Ag (Aa 4) (BH (BC.ok (Or.inl ⟨by decide,by decide⟩)))) (Aa 3) Zu) (λhk=>?_) (λhk=>?_))
    ·have hk:=of_decide_eq_true hk
     refine Ac (AG (Ae.ev (Aa 5) ?_))
     rw [hg] at hR
     unfold go at hR
     rw [if_pos hk] at hR
     exact hR
    ·have hk:=of_decide_eq_false hk
     refine Aq (Aq ?_)
     refine ⟨_,_,_,rfl,h4,?_,rfl⟩
     rw [hg]
     conv=>lhs; unfold go
     rw [if_neg hk]
  ·rintro ρ O' ⟨r,u,v,rfl,hr1,hg,rfl⟩
   refine Ac (AG (Ae.ev Ag ?_))
   rw [List.length_map,List.drop_of_length_le (Nat.le_refl _)] at hg
   rw [hg] at hR
   exact hR
theorem V4 (Fn:Av K "check_within" "check_within" KF f fd) (hm:mg "check_within" = some (.ref f)) (hb:Binds K fd ["what","value","least","most"] []) (kc:Ak P w K mg base 1 "is_whole" (Au JQ)):Ak P w K mg base 2 "check_within" (Au FC):=by
 refine A1 (k:=1) Fn Tj hm hb (λds O R h=>?_) (λcdv A outer s H E ds O R hr h=>?_)
 ·obtain ⟨_,⟨_,_,_,_,rfl,_⟩,_⟩:=h; rfl
 ·obtain ⟨d,⟨x,v,l,u,rfl,hv,rfl⟩,hR⟩:=h
  refine Ac (AT (BB.t (Dc (CQ (Cz (AD kc (hr.mono wE) (Ab (Aa 1) Af) ⟨some v,rfl,rfl⟩))) (λhbb=>(Dp (CQ (YS (Aa 2) (Aa 1) (Aa 3) EH (λhbb=>EH))))))) (λhk=>?_) (λhk=>Aq (Aq hR)))
  exfalso
  have hk:(!true||!(decide (l<=v)&&decide (v<=u)))=true:=hk
  rw [decide_eq_true hv.1,decide_eq_true hv.2] at hk
  cases hk
theorem V8 (Fn:Av K "check_scale" "check_scale" KJ f fd) (hm:mg "check_scale" = some (.ref f)) (hb:Binds K fd ["scale"] []) (jc:Ak P w K mg base 2 "check_within" (Au FC)):Ak P w K mg base 3 "check_scale" (Au NC):=by
 refine A1 (k:=2) Fn Tp hm hb (λds O R h=>?_) (λcdv A outer s H E ds O R hr h=>?_)
 ·obtain ⟨_,⟨_,rfl,_⟩,_⟩:=h; rfl
 ·obtain ⟨d,⟨s,rfl,hs,rfl⟩,hR⟩:=h
  refine Ac (Bb (Ae.ev (AD jc (hr.mono wE) (Ab Fe (Ab (Aa 0) (Ab Ag (Ab (Ha T.bu.choose_spec) Af)))) ⟨_,_,_,_,rfl,by omega,rfl⟩) ?_))
  exact Aq hR
theorem Wb (Fn:Av K "check_making" "check_making" KM f fd) (hm:mg "check_making" = some (.ref f)) (hb:Binds K fd ["many","scale"] []) (jc:Ak P w K mg base 2 "check_within" (Au FC)) (gh:Ak P w K mg base 3 "check_scale" (Au NC)):Ak P w K mg base 4 "check_making" (Au NL):=by
 refine A1 (k:=3) Fn Tr hm hb (λds O R h=>?_) (λcdv A outer s H E ds O R hr h=>?_)
 ·obtain ⟨_,⟨_,_,rfl,_⟩,_⟩:=h; rfl
 ·obtain ⟨d,⟨m,s,rfl,hm,hs,rfl⟩,hR⟩:=h
  refine Ac (Bb (Ae.ev (AD jc (hr.mono wE) (Ab Fe (Ab (Aa 0) (Ab Ag (Ab (Ha T.br.choose_spec) Af)))) ⟨_,_,_,_,rfl,by omega,rfl⟩) ?_))
  refine Ac (Bb (Ae.ev (AD gh (hr.mono wE) (Ab (Aa 1) Af) ⟨_,rfl,by assumption,rfl⟩) ?_))
  exact Aq hR
theorem Wc (Fn:Av K "check_fraction" "check_fraction" KN f fd) (hm:mg "check_fraction" = some (.ref f)) (hb:Binds K fd ["top","bottom"] []) (jc:Ak P w K mg base 2 "check_within" (Au FC)):Ak P w K mg base 3 "check_fraction" (Au NX):=by
 refine A1 (k:=2) Fn Ts hm hb (λds O R h=>?_) (λcdv A outer s H E ds O R hr h=>?_)
 ·obtain ⟨_,⟨_,_,rfl,_⟩,_⟩:=h; rfl
 ·obtain ⟨d,⟨t,b,rfl,hb,rfl⟩,hR⟩:=h
  refine Ac (Bb (Ae.ev (AD jc (hr.mono wE) (Ab Fe (Ab (Aa 1) (Ab Ag (Ab (Ha T.bv.choose_spec) Af)))) ⟨_,_,_,_,rfl,by omega,rfl⟩) ?_))
  refine Ac (Bb (Ae.ev (AD jc (hr.mono wE) (Ab Fe (Ab (Aa 0) (Ab Ag (Ab (Ai (Aa 1) Ag Dm) Af)))) ⟨_,_,_,_,rfl,by omega,rfl⟩) ?_))
  exact Aq hR
theorem V7 (Fn:Av K "check_share" "check_share" KI f fd) (hm:mg "check_share" = some (.ref f)) (hb:Binds K fd ["share","parts"] []) (jc:Ak P w K mg base 2 "check_within" (Au FC)):Ak P w K mg base 3 "check_share" (Au NA):=by
 refine A1 (k:=2) Fn Tm hm hb (λds O R h=>?_) (λcdv A outer s H E ds O R hr h=>?_)
 ·obtain ⟨_,⟨_,_,rfl,_⟩,_⟩:=h; rfl
 ·obtain ⟨d,⟨t,b,rfl,hb,rfl⟩,hR⟩:=h
  refine Ac (Bb (Ae.ev (AD jc (hr.mono wE) (Ab Fe (Ab (Aa 1) (Ab Ag (Ab (Ha T.bw.choose_spec) Af)))) ⟨_,_,_,_,rfl,by omega,rfl⟩) ?_))
  refine Ac (Bb (Ae.ev (AD jc (hr.mono wE) (Ab Fe (Ab (Aa 0) (Ab Ag (Ab (Ai (Aa 1) Ag Dm) Af)))) ⟨_,_,_,_,rfl,by omega,rfl⟩) ?_))
  exact Aq hR
theorem VZ (Fn:Av K "is_on_scale" "is_on_scale" Kz f fd) (hm:mg "is_on_scale" = some (.ref f)) (hb:Binds K fd ["scale","value"] []) (kc:Ak P w K mg base 1 "is_whole" (Au JQ)):Ak P w K mg base 2 "is_on_scale" (Au JP):=by
 refine A1 (k:=1) Fn Td hm hb (λds O R h=>?_) (λcdv A outer s H E ds O R hr h=>?_)
 ·obtain ⟨_,⟨_,_,rfl,_⟩,_⟩:=h; rfl
 ·obtain ⟨d,⟨s,w,rfl,rfl⟩,hR⟩:=h
  cases w with
  | none=>
   refine Ac (AG (Ae.ev (DE (l:=false) (AD kc (hr.mono wE) (Ab (Aa 1) Af) ⟨none,rfl,rfl⟩) (λhbb=>absurd hbb Bool.false_ne_true)) ?_))
   exact hR
  | some i=>
   refine Ac (AG (Ae.ev (DE (AD kc (hr.mono wE) (Ab (Aa 1) Af) ⟨some i,rfl,rfl⟩) (λhbb=>(DC (YM Ag (Aa 1) (Aa 0) EH (λhbb=>EH))))) ?_))
   exact hR
theorem VY (Fn:Av K "is_said" "is_said" Ky f fd) (hm:mg "is_said" = some (.ref f)) (hb:Binds K fd ["many","scale","said"] []) (kh:Ak P w K mg base 2 "is_on_scale" (Au JP)):Ak P w K mg base 3 "is_said" (Au JR):=by
 refine A1 (k:=2) Fn Tc hm hb (λds O R h=>?_) (λcdv A outer s H E ds O R hr h=>?_)
 ·obtain ⟨_,⟨_,_,_,rfl,_⟩,_⟩:=h; rfl
 ·obtain ⟨d,⟨m,s,said,rfl,⟨h1,h2,h3⟩,rfl⟩,hR⟩:=h
  refine Ac (AT (BB.t (Dc (CQ (Cz (A8 T.ba (Ab (Aa 2) (Ab (DB T.xt) Af)) (Gg rfl)))) (λhbb=>(Dp (AM (A8 T.xr (Ab (Aa 2) Af) (C4 (by first | exact Or.inr rfl | exact Or.inl (Or.inl rfl) | exact Or.inl (Or.inr (Or.inl rfl)) | exact Or.inl (Or.inr (Or.inr ⟨_,rfl,by first | assumption | rfl⟩))))) (Aa 0) Gd))))) (λhk=>?_) (λhk=>Aq ?_))
  ·exfalso
   have e:(!decide ((((said.map od).length:Nat):Int)=m))=false:=by rw [List.length_map,h1,decide_eq_true rfl]; rfl
   have hk:(!true||!decide ((((said.map od).length:Nat):Int)=m))=true:=hk
   rw [e] at hk
   cases hk
  refine Ac (AG (Ae.ev (A8 T.bf (Ab (Cy (λw=>.bl (Cv (od w)||Cn s w)) ["what"] ["scale"] [1] (Cq (Aa 2) wB) (by rw [sizeLine_eq]; omega) (by exact λq hq s H fp=>⟨[some _],rfl,(AZ 0 (show List.Nodup (["what","scale"]:List Str) by decide +kernel)),⟨_,rfl,(Qh (C3 (Aa 0) Dd Fk) (λhbb=>(DC (AD kh (hr.mono wE) (Ab (Aa 1) (Ab (Aa 0) Af)) ⟨_,q,rfl,rfl⟩))))⟩⟩)) Af) (Mj (bs:=said.map λw=>(Cv (od w)||Cn s w)) (Or.inl (Or.inl (congrArg D.lst (by rw [List.map_map]; rfl)))))) ?_))
  have e:((said.map λw=>(Cv (od w)||Cn s w)).all id)=true:=by
   rw [List.all_map,List.all_eq_true]
   intro w hw
   rcases h3 w hw with rfl | h
   ·rfl
   ·show (Cv (od w)||Cn s w)=true
    rw [h,Bool.or_true]
  rw [e]
  exact hR
theorem V9 (Fn:Av K "check_said" "check_said" KK f fd) (hm:mg "check_said" = some (.ref f)) (hb:Binds K fd ["many","scale","said"] []) (ki:Ak P w K mg base 3 "is_said" (Au JR)):Ak P w K mg base 4 "check_said" (Au HM):=by
 refine A1 (k:=3) Fn Tq hm hb (λds O R h=>?_) (λcdv A outer s H E ds O R hr h=>?_)
 ·obtain ⟨_,⟨_,_,_,rfl,_⟩,_⟩:=h; rfl
 ·obtain ⟨d,⟨m,s,said,rfl,hs,rfl⟩,hR⟩:=h
  exact Ac (AT (CQ (Cz (AD ki (hr.mono wE) (Ab (Aa 0) (Ab (Aa 1) (Ab (Aa 2) Af))) ⟨_,_,_,rfl,by assumption,rfl⟩))) (λhk=>by cases hk) (λhk=>Aq (Aq hR)))
theorem VA (Fn:Av K "power" "power" Kb f fd) (hm:mg "power" = some (.ref f)) (hb:Binds K fd ["base","exponent"] []):Ak P w K mg base 1 "power" (Au Gv):=by
 refine A1 (k:=0) Fn HU hm hb (λds O R h=>?_) (λcdv A outer s H E ds O R hr h=>?_)
 ·obtain ⟨_,⟨_,_,rfl,_⟩,_⟩:=h; rfl
 ·obtain ⟨d,⟨b,n,rfl,hb,hn,rfl⟩,hR⟩:=h
  refine Ac (AW 2 (Ae.ev Ag ?_) HU.nd)
  refine Ac (Dw (Ek (Aa 1) T.xz wC wC) (λi ρ O'=>∃ u,ρ=[some (.int b),some (.int n),some (.int (b ^ i)),u]/\O'=O) ⟨none,by rw [Int.pow_zero]; rfl,rfl⟩ ?_ ?_)
  ·rintro i x ρ O' hx ⟨u,rfl,rfl⟩
   refine ⟨_,AZ 3 HU.nd,?_⟩
   refine Ac (AW 2 (Ae.ev (Ai (Aa 2) (Aa 0) (BH (by first | assumption | exact BC.ok (Or.inl ⟨by omega,by omega⟩) | exact BC.ok (Or.inr ⟨by omega,by omega⟩)))) ?_) HU.nd)
   exact Aq ⟨_,by rw [Int.pow_succ]; rfl,rfl⟩
  ·rintro ρ O' ⟨u,rfl,rfl⟩
   rw [DN]
   exact Ac (AG (Ae.ev (Aa 2) hR))
theorem Wf (Fn:Av K "charge" "charge" KO f fd) (hm:mg "charge" = some (.ref f)) (hb:Binds K fd ["what","so"] []):Ak P w K mg base 1 "charge" (Au FH):=by
 refine A1 (k:=0) Fn Tu hm hb (λds O R h=>?_) (λcdv A outer s H E ds O R hr h=>?_)
 ·obtain ⟨_,⟨_,_,rfl,_⟩,_⟩:=h; rfl
 ·obtain ⟨d,⟨w,z,rfl,rfl⟩,hR⟩:=h
  cases w with
  | none=>
   refine Ac (AT (AM (Aa 0) Dd Fk) (λhk=>?_) (λhk=>?_))
   ·exact Ac (AG (Ae.ev Ag hR))
   ·cases hk
  | some w=>
   refine Ac (AT (AM (Aa 0) Dd Fk) (λhk=>?_) (λhk=>?_))
   ·cases hk
   ·exact Aq (Ac (AG (Ae.ev (A8 T.bn (Ab (Ai (Aa 0) (Aa 1) Dm) Af) ZS) hR)))
theorem VX (Fn:Av K "is_turn" "is_turn" Kx f fd) (hm:mg "is_turn" = some (.ref f)) (hb:Binds K fd ["many","scale","turn"] []) (ki:Ak P w K mg base 3 "is_said" (Au JR)) (kh:Ak P w K mg base 2 "is_on_scale" (Au JP)):Ak P w K mg base 4 "is_turn" (Au NO):=by
 refine A1 (k:=3) Fn S9 hm hb (λds O R h=>?_) (λcdv A outer s H E ds O R hr h=>?_)
 ·obtain ⟨_,⟨_,_,_,_,rfl,_⟩,_⟩:=h; rfl
 ·obtain ⟨d,⟨m,s,said,so,rfl,hs,hso,rfl⟩,hR⟩:=h
  refine Ac (AT (BB.t (Dc (CQ (Cz (A8 T.ba (Ab (Aa 2) (Ab (DB T.xt) Af)) (Gg rfl)))) (λhbb=>(Dp (AM (A8 T.xr (Ab (Aa 2) Af) (C4 (by first | exact Or.inr rfl | exact Or.inl (Or.inl rfl) | exact Or.inl (Or.inr (Or.inl rfl)) | exact Or.inl (Or.inr (Or.inr ⟨_,rfl,by first | assumption | rfl⟩))))) Ag Gd))))) (λhk=>by cases hk) (λhk=>Aq ?_))
  have e:Cn s (some so)=true:=by
   show (decide (0<=so)&&decide (so<=s))=true
   rw [decide_eq_true hso.1,decide_eq_true hso.2]; rfl
  refine Ac (AG (Ae.ev (DE (AD ki (hr.mono wE) (Ab (Aa 0) (Ab (Aa 1) (Ab (B7 (Aa 2) Ag rfl) Af))) ⟨_,_,_,rfl,by assumption,rfl⟩) (λhbb=>(DC (AD kh (hr.mono wE) (Ab (Aa 1) (Ab (B7 (Aa 2) Ag rfl) Af)) ⟨s,some so,rfl,rfl⟩)))) ?_))
  rw [e]
  exact hR
theorem V5 (Fn:Av K "check_turn" "check_turn" KG f fd) (hm:mg "check_turn" = some (.ref f)) (hb:Binds K fd ["many","scale","said","so"] []) (gj:Ak P w K mg base 4 "is_turn" (Au NO)):Ak P w K mg base 5 "check_turn" (Au ES):=by
 refine A1 (k:=4) Fn Tk hm hb (λds O R h=>?_) (λcdv A outer s H E ds O R hr h=>?_)
 ·obtain ⟨_,⟨_,_,_,_,rfl,_⟩,_⟩:=h; rfl
 ·obtain ⟨d,⟨m,s,said,so,rfl,hs,hso,rfl⟩,hR⟩:=h
  exact Ac (AT (CQ (Cz (AD gj (hr.mono wE) (Ab (Aa 0) (Ab (Aa 1) (Ab (Dq (Ab (Aa 2) (Ab (Aa 3) Af))) Af))) ⟨_,_,_,_,rfl,by assumption,by assumption,rfl⟩))) (λhk=>by cases hk) (λhk=>Aq (Aq hR)))
theorem Wg (Fn:Av K "awake_in" "awake_in" KP f fd) (hm:mg "awake_in" = some (.ref f)) (hb:Binds K fd ["said"] []):Ak P w K mg base 1 "awake_in" (Au JW):=by
 refine A1 (k:=0) Fn Tv hm hb (λds O R h=>?_) (λcdv A outer s H E ds O R hr h=>?_)
 ·obtain ⟨_,⟨_,rfl,_⟩,_⟩:=h; rfl
 ·obtain ⟨d,⟨said,rfl,hs,rfl⟩,hR⟩:=h
  refine Ac (AG (Ae.ev (L6 (λq:Option Int×Nat=>if (!Cv (od q.1))=true then some (D.int (q.2:Nat)) else none) ["adviser","what"] [] [] (Hc (Yz (Aa 0) wB T.bj)) (by rw [List.length_zipIdx,sizeLine_eq]; omega) (by exact λq hq s H fp=>⟨[some _,some _],rfl,(Eu (CJ (AZ 0 (show List.Nodup (["adviser","what"]:List Str) by decide +kernel)) (CJ (AZ 1 (show List.Nodup (["adviser","what"]:List Str) by decide +kernel)) Et))),⟨_,(AM (Aa 1) Dd IY),λhbb=>⟨_,if_pos hbb,(Aa 0)⟩,λhbb=>if_neg (λhcc=>Bool.false_ne_true (hbb.symm.trans hcc))⟩⟩)) ?_))
  rw [ZZ]
  exact hR
theorem VE (Fn:Av K "middle_awake" "middle_awake" Kf f fd) (hm:mg "middle_awake" = some (.ref f)) (hb:Binds K fd ["said","weights"] []) (gk:Ak P w K mg base 2 "middle" (Au NK)) (kj:Ak P w K mg base 1 "awake_in" (Au JW)):Ak P w K mg base 4 "middle_awake" (Au NM):=by
 refine A1 (k:=3) Fn Om hm hb (λds O R h=>?_) (λcdv A outer s H E ds O R hr h=>?_)
 ·obtain ⟨_,⟨_,_,rfl,_⟩,_⟩:=h; rfl
 ·obtain ⟨d,⟨said,ws,rfl,hs,hl,hw,rfl⟩,hR⟩:=h
  have hal:=Mm said
  refine Ac (AW 2 (Ae.ev (AD kj (hr.mono wE) (Ab (Aa 0) Af) ⟨_,rfl,by assumption,rfl⟩) ?_) Om.nd)
  have e:[D.tup ((ax said).map λk=>D.int ((Az said k).getD 0)),D.tup ((ax said).map λk=>D.int (ws.getD k 0))]=[.tup ((Cc said).map D.int),.tup ((BW said ws).map D.int)]:=by
   unfold Cc BW
   rw [List.map_map,List.map_map]
   rfl
  exact Ac (AG (Ae.ev (AD gk (hr.mono wE) (Ab (Ck T.xt (Ab (Cy (λk=>D.int ((Az said k).getD 0)) ["adviser"] ["said"] [0] (Cq (Aa 2) wB) (by rw [sizeLine_eq]; omega) (by exact λq hq s H fp=>⟨[some _],rfl,(AZ 0 (show List.Nodup (["adviser","said"]:List Str) by decide +kernel)),⟨_,rfl,(B7 (Aa 1) (Aa 0) (QV hq))⟩⟩)) Af) (CD (by first | exact Or.inr rfl | exact Or.inl (Or.inl rfl) | exact Or.inl (Or.inr (Or.inl rfl)) | exact Or.inl (Or.inr (Or.inr ⟨_,rfl,by first | assumption | rfl⟩))))) (Ab (Ck T.xt (Ab (Cy (λk=>D.int (ws.getD k 0)) ["adviser"] ["weights"] [1] (Cq (Aa 2) wB) (by rw [sizeLine_eq]; omega) (by exact λq hq s H fp=>⟨[some _],rfl,(AZ 0 (show List.Nodup (["adviser","weights"]:List Str) by decide +kernel)),⟨_,rfl,(B7 (Aa 1) (Aa 0) (QT (by have:=Gh hq; omega)))⟩⟩)) Af) (CD (by first | exact Or.inr rfl | exact Or.inl (Or.inl rfl) | exact Or.inl (Or.inr (Or.inl rfl)) | exact Or.inl (Or.inr (Or.inr ⟨_,rfl,by first | assumption | rfl⟩))))) Af)) ⟨Cc said,BW said ws,e,HF hs hw,rfl⟩) hR))
theorem Vw (Fn:Av K "times_awake" "times_awake" J7 f fd) (hm:mg "times_awake" = some (.ref f)) (hb:Binds K fd ["keeper","own","off"] []) (jd:Ak P w K mg base 1 "power" (Au Gv)):Ak P w K mg base 2 "times_awake" (Nz CK5 CK3):=by
 refine A1 (k:=1) Fn Oj hm hb (λds O R h=>?_) (λcdv A outer s H E ds O R hr h=>?_)
 ·obtain ⟨_,_,_,_,_,_,_,rfl,_⟩:=h; rfl
 ·obtain ⟨q,sf,p,u,own,off,ws,rfl,hW,hp,ho,hof,hR⟩:=h
  have hf:=hp.f
  have s1:=hf.s1; have s2:=hf.s2; have t0:=hf.t0; have tb:=hf.tb; have b2:=hf.b2
  have a1:=Dk (x:=p.t) (e:=off) hf.t0 wF wF
  have a2:=Dk (x:=p.b) (e:=p.sc-off) wF wF wF
  have a3:=Dk (x:=p.b) (e:=own) wF wF wF
  have c1:=CY a1.1 a1.2 a2.1 a2.2
  have c2:=CY (c:=2) c1.1 c1.2 (show (0:Int)<=2 by decide) wE
  refine Ac (AW 3 (Ae.ev (Ai (AD jd (hr.mono wE) (Ab (As (Aa 0) hW (cv T.di.cls T.dw.cls sf) (nv T.dm T.eg sf) (MV sf p u ws)) (Ab (Aa 2) Af)) ⟨_,_,rfl,⟨by omega,by omega⟩,⟨by omega,by omega⟩,rfl⟩) (AD jd (hr.mono wE) (Ab (As (Aa 0) hW (cv T.di.cls T.dw.cls sf) (nv T.dq T.eh sf) (HE sf p u ws)) (Ab (Ai (As (Aa 0) hW (cv T.di.cls T.dw.cls sf) (nv T.dl T.ef sf) (HD sf p u ws)) (Aa 2) Dm) Af)) ⟨_,_,rfl,⟨by omega,by omega⟩,⟨by omega,by omega⟩,rfl⟩) (BH (Ec a1.1 a1.2 a2.1 a2.2))) ?_) Oj.nd)
  exact Ac (AG (Ae.ev (Ai (Ai (Aa 3) Ag (BH (by first | assumption | exact BC.ok (Or.inl ⟨by omega,by omega⟩) | exact BC.ok (Or.inr ⟨by omega,by omega⟩)))) (AD jd (hr.mono wE) (Ab (As (Aa 0) hW (cv T.di.cls T.dw.cls sf) (nv T.dq T.eh sf) (HE sf p u ws)) (Ab (Aa 1) Af)) ⟨_,_,rfl,⟨by omega,by omega⟩,⟨by omega,by omega⟩,rfl⟩) (BH (Ec c2.1 c2.2 a3.1 a3.2))) hR))
theorem Vx (Fn:Av K "times_asleep" "times_asleep" J8 f fd) (hm:mg "times_asleep" = some (.ref f)) (hb:Binds K fd ["keeper","own"] []) (jd:Ak P w K mg base 1 "power" (Au Gv)):Ak P w K mg base 2 "times_asleep" (JN CK5 CK3):=by
 refine A1 (k:=1) Fn SY hm hb (λds O R h=>?_) (λcdv A outer s H E ds O R hr h=>?_)
 ·obtain ⟨_,_,_,_,_,_,rfl,_⟩:=h; rfl
 ·obtain ⟨q,sf,p,u,own,ws,rfl,hW,hp,ho,hR⟩:=h
  have hf:=hp.f
  have s1:=hf.s1; have s2:=hf.s2; have t0:=hf.t0; have tb:=hf.tb; have b2:=hf.b2
  have a1:=Dk (x:=p.b) (e:=p.sc) wF wF wF
  have a2:=Dk (x:=p.b) (e:=own) wF wF wF
  have a3:=Dk (x:=p.t) (e:=own) hf.t0 wF wF
  have e82:(2:Int) ^ 82=2 ^ 81+2 ^ 81:=by decide
  exact Ac (AG (Ae.ev (Ai (AD jd (hr.mono wE) (Ab (As (Aa 0) hW (cv T.di.cls T.dw.cls sf) (nv T.dq T.eh sf) (HE sf p u ws)) (Ab (As (Aa 0) hW (cv T.di.cls T.dw.cls sf) (nv T.dl T.ef sf) (HD sf p u ws)) Af)) ⟨_,_,rfl,⟨by omega,by omega⟩,⟨by omega,by omega⟩,rfl⟩) (Ai (AD jd (hr.mono wE) (Ab (As (Aa 0) hW (cv T.di.cls T.dw.cls sf) (nv T.dq T.eh sf) (HE sf p u ws)) (Ab (Aa 1) Af)) ⟨_,_,rfl,⟨by omega,by omega⟩,⟨by omega,by omega⟩,rfl⟩) (AD jd (hr.mono wE) (Ab (As (Aa 0) hW (cv T.di.cls T.dw.cls sf) (nv T.dm T.eg sf) (MV sf p u ws)) (Ab (Aa 1) Af)) ⟨_,_,rfl,⟨by omega,by omega⟩,⟨by omega,by omega⟩,rfl⟩) Bl) (BH (Ec (n:=82) a1.1 a1.2 wF (by rw [e82]; omega)))) hR))
theorem Vy (Fn:Av K "times" "times" J9 f fd) (hm:mg "times" = some (.ref f)) (hb:Binds K fd ["keeper","own","what","so"] []) (jg:Ak P w K mg base 1 "charge" (Au FH)) (kl:Ak P w K mg base 2 "times_asleep" (JN CK5 CK3)) (gl:Ak P w K mg base 2 "times_awake" (Nz CK5 CK3)):Ak P w K mg base 3 "times" (Ny CK5 CK3):=by
 refine A1 (k:=2) Fn SZ hm hb (λds O R h=>?_) (λcdv A outer s H E ds O R hr h=>?_)
 ·obtain ⟨_,_,_,_,_,_,_,_,rfl,_⟩:=h; rfl
 ·obtain ⟨q,sf,p,u,own,so,w,ws,rfl,hW,hp,ho,hso,hw,hR⟩:=h
  cases w with
  | none=>
   refine Ac (AT (AM (Aa 2) Dd Fk) (λhk=>?_) (λhk=>by cases hk))
   exact Ac (AG (Ae.ev (Ev.evp (B1 kl (hr.mono wE) (Ab (Aa 0) (Ab (Aa 1) Af)) ⟨q,sf,p,u,own,ws,rfl,hW,hp,ho,rfl,rfl⟩)) hR))
  | some x=>
   have hx:=FZ (hw.resolve_left (λh=>by cases h))
   refine Ac (AT (AM (Aa 2) Dd Fk) (λhk=>by cases hk) (λhk=>Aq ?_))
   exact Ac (AG (Ae.ev (Ev.evp (B1 gl (hr.mono wE) (Ab (Aa 0) (Ab (Aa 1) (Ab (AD jg (hr.mono wE) (Ab (Aa 2) (Ab (Aa 3) Af)) ⟨some x,so,rfl,rfl⟩) Af))) ⟨q,sf,p,u,own,ab (x-so),ws,rfl,hW,hp,ho,EJ hx hso,rfl,rfl⟩)) hR))
theorem Wa (Fn:Av K "check_push" "check_push" KL f fd) (hm:mg "check_push" = some (.ref f)) (hb:Binds K fd ["many","push"] []) (jc:Ak P w K mg base 2 "check_within" (Au FC)) (jd:Ak P w K mg base 1 "power" (Au Gv)):Ak P w K mg base 3 "check_push" (Au NH):=by
 refine A1 (k:=2) Fn Oo hm hb (λds O R h=>?_) (λcdv A outer s H E ds O R hr h=>?_)
 ·obtain ⟨_,⟨_,_,rfl,_⟩,_⟩:=h; rfl
 ·obtain ⟨d,⟨m,ps,rfl,hp,hm,rfl⟩,hR⟩:=h
  refine Ac (AT (BB.t (Dc (CQ (Cz (A8 T.ba (Ab (Aa 1) (Ab (DB T.xt) Af)) (Gg rfl)))) (λhbb=>(Dp (AM (A8 T.xr (Ab (Aa 1) Af) (C4 (by first | exact Or.inr rfl | exact Or.inl (Or.inl rfl) | exact Or.inl (Or.inr (Or.inl rfl)) | exact Or.inl (Or.inr (Or.inr ⟨_,rfl,by first | assumption | rfl⟩))))) (Aa 0) Gd))))) (λhk=>?_) (λhk=>Aq ?_))
  ·exfalso
   have hk:(!true||!decide ((((ps.map D.int).length:Nat):Int)=m))=true:=hk
   rw [List.length_map,hp.1,decide_eq_true rfl] at hk
   cases hk
  refine Ac (Dw (Cq (Aa 1) wB) (λi ρ O'=>(∃ u,ρ=[some (.int m),some (.tup (ps.map D.int)),u])/\O'=O) ⟨⟨_,rfl⟩,rfl⟩ ?_ ?_)
  ·rintro i x ρ O' hx ⟨⟨u,rfl⟩,rfl⟩
   rw [List.getElem?_map] at hx
   cases hi:ps[i]? with
   | none=>rw [hi] at hx; cases hx
   | some p=>
    rw [hi] at hx
    cases hx
    have hb:=hp.2 p (List.mem_of_getElem? hi)
    refine ⟨_,AZ 2 Oo.nd,?_⟩
    exact Ac (Bb (Ae.ev (AD jc (hr.mono wE) (Ab Fe (Ab (Aa 2) (Ab Ag (Ab (Ai (AD jd (hr.mono wE) (Ab Ag (Ab (Ha T.bx.choose_spec) Af)) ⟨10,60,rfl,by decide,by decide,rfl⟩) Ag Dm) Af)))) ⟨_,_,_,_,rfl,hb,rfl⟩) (Aq ⟨⟨_,rfl⟩,rfl⟩)))
  ·rintro ρ O' ⟨⟨u,rfl⟩,rfl⟩
   exact Aq hR
theorem Vz (Fn:Av K "push_of" "push_of" Ka f fd) (hm:mg "push_of" = some (.ref f)) (hb:Binds K fd ["many","push"] []) (gm:Ak P w K mg base 3 "check_push" (Au NH)):Ak P w K mg base 4 "push_of" (Au NG):=by
 refine A1 (k:=3) Fn S0 hm hb (λds O R h=>?_) (λcdv A outer s H E ds O R hr h=>?_)
 ·obtain ⟨_,⟨_,_,rfl,_⟩,_⟩:=h; rfl
 ·obtain ⟨d,⟨m,po,rfl,hm,hp,rfl⟩,hR⟩:=h
  cases po with
  | none=>
   refine Ac (AT (AM (Aa 1) Dd Fk) (λhk=>?_) (λhk=>by cases hk))
   refine Ac (AG (Ae.ev (Ai (Dq (Ab Ag Af)) (Aa 0) (F0 hm.1 wF (by simp) (by rw [sizeLine_eq]; show 1*m.toNat<=_; omega))) ?_))
   rw [Jp]
   exact hR
  | some ps=>
   have hp:Eo m ps:=hp
   have hm2:=hm.2
   refine Ac (AT (AM (Aa 1) Dd Fk) (λhk=>by cases hk) (λhk=>Aq ?_))
   refine Ac (Bb (Ae.ev (AD gm (hr.mono wE) (Ab (Aa 0) (Ab (Aa 1) Af)) ⟨m,ps,rfl,hp,hm2,rfl⟩) ?_))
   exact Ac (AG (Ae.ev (Aa 1) hR))
theorem V2 (Fn:Av K "first_least" "first_least" KC f fd) (hm:mg "first_least" = some (.ref f)) (hb:Binds K fd ["scores","advisers"] []):Ak P w K mg base 1 "first_least" (Au NY):=by
 refine A1 (k:=0) Fn Th hm hb (λds O R h=>?_) (λcdv A outer s H E ds O R hr h=>?_)
 ·obtain ⟨_,⟨_,_,_,rfl,_⟩,_⟩:=h; rfl
 ·obtain ⟨d,⟨sc,as,k,rfl,hl,hb,hf,rfl⟩,hR⟩:=h
  have hy:∀ q∈as,BO (sc.map D.int) (q:Nat)=some (.int (sc.getD q 0)):=λq hq=>QT (hb q hq)
  have hne:(as.map λk=>(sc.getD k 0,((k:Nat):Int)))≠[]:=λz=>by
   rw [List.map_eq_nil_iff] at z
   have:=hf.1
   rw [z] at this
   cases this
  refine Ac (AG (Ae.ev (B7 (A8 T.bo (Ab (Cy (λk:Nat=>pD (sc.getD k 0,((k:Nat):Int))) ["adviser"] ["scores"] [0] (Cq (Aa 1) wB) (by rw [sizeLine_eq]; omega) (by exact λq hq s H fp=>⟨[some _],rfl,(AZ 0 (show List.Nodup (["adviser","scores"]:List Str) by decide +kernel)),⟨_,rfl,(Dq (Ab (B7 (Aa 1) (Aa 0) (hy q hq)) (Ab (Aa 0) Af)))⟩⟩)) Af) (ZM hr (ps:=as.map λk=>(sc.getD k 0,((k:Nat):Int))) (Or.inl (congrArg D.lst (by rw [List.map_map]; rfl))) hne)) Ag rfl) ?_))
  rw [Xb hf]
  exact hR
theorem WH (Fn:Av K "__init__" "Hand.__init__" Ld f fd)  (gp:Ak P w K mg base 4 "check_making" (Au NL)):AF P w K mg base AL 5 f fd ["self","many","scale"] (AJ K (Ew (λC=>C=CK1\/C=CK5\/C=CK3\/C=CK2\/C=CK4\/C=CK0))):=by
 refine Bf (k:=4) Fn TW (λds O R h=>?_) (λcdv A outer s H E ds O R hr h=>?_)
 ·obtain ⟨_,_,_,_,rfl,_⟩:=h; rfl
 ·obtain ⟨q,m,s,C,rfl,hC,hq,hm,hs,hR⟩:=h
  have hc:A7 K C:=by rcases hC with rfl | rfl | rfl | rfl | rfl | rfl; exact T.bz.cls; exact T.di.cls; exact T.dw.cls; exact T.fg.cls; exact T.ld.cls; exact T.ft.cls
  have n1:Ap K C "many" := by rcases hC with rfl | rfl | rfl | rfl | rfl | rfl; exact T.df; exact T.dk; exact T.dz; exact T.fi; exact T.lg; exact T.fv
  have n2:Ap K C "scale" := by rcases hC with rfl | rfl | rfl | rfl | rfl | rfl; exact T.dg; exact T.dl; exact T.ef; exact T.fj; exact T.lh; exact T.fw
  refine Ac (Bb (Ae.ev (AD gp (hr.mono wE) (Ab (Aa 1) (Ab (Aa 2) Af)) ⟨_,_,rfl,by assumption,by assumption,rfl⟩) ?_))
  refine Ac (B0 (Aa 1) (Aa 0) hq hc n1 wE ?_)
  refine Ac (B0 (Aa 2) (Aa 0) (Cb hq) hc n2 (by show 1<1000; decide) ?_)
  refine Aq ?_
  rw [List.set_set,Ux]
  exact hR
theorem WE (Fn:Av K "heeded" "Hand.heeded" La f fd)  : AF P w K mg base AL 1 f fd ["self"] (AJ K (NS CK1)):=by
 refine Bf (k:=0) Fn TR (λds O R h=>?_) (λcdv A outer s H E ds O R hr h=>?_)
 ·obtain ⟨_,_,_,rfl,_⟩:=h; rfl
 ·obtain ⟨q,m,s,rfl,hq,hm,hR⟩:=h
  refine Ac (AG (Ae.ev (Ai (Dq (Ab Ag Af)) (As (Aa 0) hq T.bz.cls T.df (GV m s)) (F0 hm.1 wF (by simp) (by rw [sizeLine_eq]; show 1*m.toNat<=_; omega))) ?_))
  rw [O7]
  exact hR
theorem Wl (Fn:Av K "heeded" "Weigher.heeded" KU f fd)  : AF P w K mg base AL 1 f fd ["self"] (AJ K (JU CK5 CK3)):=by
 refine Bf (k:=0) Fn Tz (λds O R h=>?_) (λcdv A outer s H E ds O R hr h=>?_)
 ·obtain ⟨_,_,_,_,_,rfl,_⟩:=h; rfl
 ·obtain ⟨q,sf,p,u,ws,rfl,hW,hR⟩:=h
  exact Ac (AG (Ae.ev (As (Aa 0) hW (cv T.di.cls T.dw.cls sf) (nv T.dr T.ej sf) (Jy sf p u ws)) hR))
theorem Wz (Fn:Av K "heeded" "Rounder.heeded" K5 f fd)  : AF P w K mg base AL 1 f fd ["self"] (AJ K (NR CK2)):=by
 refine Bf (k:=0) Fn TL (λds O R h=>?_) (λcdv A outer s H E ds O R hr h=>?_)
 ·obtain ⟨_,_,_,_,_,rfl,_⟩:=h; rfl
 ·obtain ⟨jj,m,s,ov,ins,rfl,hO,hl,hR⟩:=h
  refine Ac (AG (Ae.ev (Ck T.xt (Ab (Cy (λb:Bool=>if b=true then D.int 1 else D.int 0) ["one"] [] [] (Cq (As (Aa 0) hO T.fg.cls T.fk (OE m s ov ins)) wB) (by rw [sizeLine_eq]; omega) (by exact λq hq s H fp=>⟨[some _],rfl,(AZ 0 (show List.Nodup (["one"]:List Str) by decide +kernel)),⟨_,rfl,(L5 (Cz (Aa 0)) (λhbb=>Ag) (λhbb=>Ag))⟩⟩)) Af) (CD (by first | exact Or.inr rfl | exact Or.inl (Or.inl rfl) | exact Or.inl (Or.inr (Or.inl rfl)) | exact Or.inl (Or.inr (Or.inr ⟨_,rfl,by first | assumption | rfl⟩))))) ?_))
  rw [Ye]
  exact hR
theorem WD (Fn:Av K "say" "Hand.say" K9 f fd)  (jn:Ak P w K mg base 4 "check_said" (Au HM)) (kz:Ak P w K mg base 4 "middle_awake" (Au NM)) (gq:Al P w K mg base CK1 1 "heeded" (NS CK1)) (gr:Al P w K mg base CK5 1 "heeded" (JU CK5 CK3)) (gu:Al P w K mg base CK3 1 "heeded" (JU CK5 CK3)) (gv:Al P w K mg base CK2 1 "heeded" (NR CK2)):AF P w K mg base AL 6 f fd ["self","said"] (AJ K (BG CK1 CK5 CK3 CK2)):=by
 refine Bf (k:=5) Fn TQ (λds O R h=>?_) (λcdv A outer s H E ds O R hr h=>?_)
 ·obtain ⟨_,_,_,_,_,rfl,_⟩:=h; rfl
 ·obtain ⟨q,m,s,ws,said,rfl,hq,hm,hs,hl,hw,hR⟩:=h
  have hs1:=hs.1
  have h24:said.length<=24:=by have:=hs.2.1; omega
  have hll:ws.length=said.length:=by omega
  rcases hq with ⟨hq,rfl⟩ | ⟨sf,p,u,hW,rfl,rfl⟩ | ⟨ins,ov,hq,rfl⟩
  ·refine Ac (Bb (Ae.ev (AD jn (hr.mono wE) (Ab (As (Aa 0) hq T.bz.cls T.df (GV m s)) (Ab (As (Aa 0) hq T.bz.cls T.dg (IH m s)) (Ab (Aa 1) Af))) ⟨_,_,_,rfl,by assumption,rfl⟩) ?_))
   exact Ac (AG (Ae.ev (AD kz (hr.mono wE) (Ab (Aa 1) (Ab (Ev.evp (Dr gq (hr.mono wE) (Aa 0) hq (Yb m s) ⟨q,m,s,rfl,hq,hm,rfl,rfl⟩)) Af)) ⟨_,_,rfl,by assumption,by assumption,by assumption,rfl⟩) hR))
  ·refine Ac (Bb (Ae.ev (AD jn (hr.mono wE) (Ab (As (Aa 0) hW (cv T.di.cls T.dw.cls sf) (nv T.dk T.dz sf) (MW sf p u ws)) (Ab (As (Aa 0) hW (cv T.di.cls T.dw.cls sf) (nv T.dl T.ef sf) (HD sf p u ws)) (Ab (Aa 1) Af))) ⟨_,_,_,rfl,by assumption,rfl⟩) ?_))
   exact Ac (AG (Ae.ev (AD kz (hr.mono wE) (Ab (Aa 1) (Ab (Ev.evp (Dr (mv gr gu sf) (hr.mono wE) (Aa 0) hW (Fw sf p u ws wD wD) ⟨q,sf,p,u,ws,rfl,hW,rfl,rfl⟩)) Af)) ⟨_,_,rfl,by assumption,by assumption,by assumption,rfl⟩) hR))
  ·have hi24:ins.length<=24:=by have:(Bi ins).length=ins.length:=List.length_map ..; omega
   refine Ac (Bb (Ae.ev (AD jn (hr.mono wE) (Ab (As (Aa 0) hq T.fg.cls T.fi (GL m s ov ins)) (Ab (As (Aa 0) hq T.fg.cls T.fj (Ih m s ov ins)) (Ab (Aa 1) Af))) ⟨_,_,_,rfl,by assumption,rfl⟩) ?_))
   exact Ac (AG (Ae.ev (AD kz (hr.mono wE) (Ab (Aa 1) (Ab (Ev.evp (Dr gv (hr.mono wE) (Aa 0) hq (GK m s ov ins wD) ⟨q,m,s,ov,ins,rfl,hq,hi24,rfl,rfl⟩)) Af)) ⟨_,_,rfl,by assumption,by assumption,by assumption,rfl⟩) hR))
theorem WF (Fn:Av K "hear" "Hand.hear" Lb f fd)  (jb:Ak P w K mg base 5 "check_turn" (Au ES)):AF P w K mg base AL 6 f fd ["self","said","so"] (AJ K (FF CK1)):=by
 refine Bf (k:=5) Fn TU (λds O R h=>?_) (λcdv A outer s H E ds O R hr h=>?_)
 ·obtain ⟨_,_,_,_,_,rfl,_⟩:=h; rfl
 ·obtain ⟨q,m,sc,so,said,rfl,hq,hs,hso,hR⟩:=h
  exact Ac (Bb (Ae.ev (AD jb (hr.mono wE) (Ab (As (Aa 0) hq T.bz.cls T.df (GV m sc)) (Ab (As (Aa 0) hq T.bz.cls T.dg (IH m sc)) (Ab (Aa 1) (Ab (Aa 2) Af)))) ⟨_,_,_,_,rfl,by assumption,by assumption,rfl⟩) (Aq hR)))
theorem WG (Fn:Av K "anew" "Hand.anew" Lc f fd)  (km:CI P w K mg base CK1 5 "Hand" (Ew (λC=>C=CK1\/C=CK5\/C=CK3\/C=CK2\/C=CK4\/C=CK0))):AF P w K mg base AL 7 f fd ["self"] (AJ K (FJ CK1)):=by
 refine Bf (k:=6) Fn TV (λds O R h=>?_) (λcdv A outer s H E ds O R hr h=>?_)
 ·obtain ⟨_,_,_,rfl,_⟩:=h; rfl
 ·obtain ⟨q,m,sc,rfl,hq,hm,hs,hR⟩:=h
  refine Ac (AG (DD km (hr.mono wE) (Ab (As (Aa 0) hq T.bz.cls T.df (GV m sc)) (Ab (As (Aa 0) hq T.bz.cls T.dg (IH m sc)) Af)) ⟨O.length,m,sc,CK1,rfl,.inl rfl,Br,hm,hs,rfl,?_⟩))
  rw [CV]
  exact hR
theorem WC (Fn:Av K "__init__" "Rounder.__init__" K8 f fd)  (jl:EL P w K mg base "Hand" 5 "__init__" (Ew (λC=>C=CK1\/C=CK5\/C=CK3\/C=CK2\/C=CK4\/C=CK0))):AF P w K mg base AL 6 f fd ["self","many","scale"] (AJ K (JT CK2)):=by
 refine Bf (k:=5) Fn TN (λds O R h=>?_) (λcdv A outer s H E ds O R hr h=>?_)
 ·obtain ⟨_,_,_,rfl,_⟩:=h; rfl
 ·obtain ⟨q,m,s,rfl,hq,hm,hs,hR⟩:=h
  refine Ac (Bb (G0 jl (hr.mono wE) (Ab (Aa 0) (Ab (Aa 1) (Ab (Aa 2) Af))) ⟨q,m,s,CK2,rfl,.inr (.inr (.inr (.inl rfl))),hq,hm,hs,?_⟩))
  refine Ac (B0 (Ai (Dq (Ab IP Af)) (Aa 1) (F0 hm.1 wF (by simp) (by rw [sizeLine_eq]; show 1*m.toNat<=_; omega))) (Aa 0) (Cb hq) T.fg.cls T.fk (by show 2<1000; decide) ?_)
  rw [List.set_set,show BK m s=r2 m s from rfl,Ut,M8]
  refine Ac (B0 Ag (Aa 0) (Cb hq) T.fg.cls T.fm (by show 3<1000; decide) ?_)
  rw [List.set_set,Us]
  exact Aq hR
theorem Wy (Fn:Av K "rounds" "Rounder.rounds" K4 f fd)  : AF P w K mg base AL 1 f fd ["self"] (AJ K (NF CK2)):=by
 refine Bf (k:=0) Fn TK (λds O R h=>?_) (λcdv A outer s H E ds O R hr h=>?_)
 ·obtain ⟨_,_,_,_,_,rfl,_⟩:=h; rfl
 ·obtain ⟨q,m,s,ov,ins,rfl,hq,hR⟩:=h
  exact Ac (AG (Ae.ev (As (Aa 0) hq T.fg.cls T.fm (OD m s ov ins)) hR))
theorem WA (Fn:Av K "hear" "Rounder.hear" K6 f fd)  (jb:Ak P w K mg base 5 "check_turn" (Au ES)) (jg:Ak P w K mg base 1 "charge" (Au FH)):AF P w K mg base AL 6 f fd ["self","said","so"] (AJ K (FE CK2)):=by
 refine Bf (k:=5) Fn Ov (λds O R h=>?_) (λcdv A outer s H E ds O R hr h=>?_)
 ·obtain ⟨_,_,_,_,_,_,_,rfl,_⟩:=h; rfl
 ·obtain ⟨jj,m,s,ov,so,ins,said,rfl,hO,hm,hs,hso,hl,hR⟩:=h
  have hs1:=hs.1
  have hzl:(ins.zip said).length<=63:=by rw [List.length_zip]; omega
  refine Ac (Bb (Ae.ev (AD jb (hr.mono wE) (Ab (As (Aa 0) hO T.fg.cls T.fi (GL m s ov ins)) (Ab (As (Aa 0) hO T.fg.cls T.fj (Ih m s ov ins)) (Ab (Aa 1) (Ab (Aa 2) Af)))) ⟨_,_,_,_,rfl,by assumption,by assumption,rfl⟩) ?_))
  refine Ac (AW 3 (Ae.ev (Ck T.xt (Ab (Cy (λp:Bool×Option Int=>.bl (p.1&&decide (BM p.2 so=0))) ["one","what"] ["so"] [2] (Hc (GZ (As (Aa 0) hO T.fg.cls T.fk (OE m s ov ins)) (Aa 1) wB wB T.xx)) (by rw [sizeLine_eq]; omega) (by exact λq hq s H fp=>⟨[some _,some _],rfl,(Eu (CJ (AZ 0 (show List.Nodup (["one","what","so"]:List Str) by decide +kernel)) (CJ (AZ 1 (show List.Nodup (["one","what","so"]:List Str) by decide +kernel)) Et))),⟨_,rfl,(DE (Aa 0) (λhbb=>(DC (C3 (AD jg (hr.mono wE) (Ab (Aa 1) (Ab (Aa 2) Af)) ⟨_,_,rfl,rfl⟩) Ag A5))))⟩⟩)) Af) (CD (by first | exact Or.inr rfl | exact Or.inl (Or.inl rfl) | exact Or.inl (Or.inr (Or.inl rfl)) | exact Or.inl (Or.inr (Or.inr ⟨_,rfl,by first | assumption | rfl⟩))))) ?_) Ov.nd)
  have e1:((ins.zip said).map λp:Bool×Option Int=>D.bl (p.1&&decide (BM p.2 so=0)))=(BN said so ins).map D.bl:=by
   unfold BN
   rw [List.map_map]
   rfl
  rw [e1]
  have hLl:(BN said so ins).length=ins.length:=LH wF
  unfold DP ED at hR
  generalize BN said so ins=left at hR hLl
  refine Ac (AT (Cz (A8 T.bh (Ab (Aa 3) Af) (ZR (by first | exact Or.inr rfl | exact Or.inl (Or.inl rfl) | exact Or.inl (Or.inr (Or.inl rfl)) | exact Or.inl (Or.inr (Or.inr ⟨_,rfl,by first | assumption | rfl⟩)))))) (λhk=>?_) (λhk=>?_))
  ·rw [if_pos hk,if_pos hk] at hR
   refine Ac (B0 (Aa 3) (Aa 0) hO T.fg.cls T.fk (by show 4<1000; decide) ?_)
   rw [OC]
   exact Aq (Aq hR)
  ·have hk':¬ left.any id=true:=by rw [hk]; exact Bool.false_ne_true
   rw [if_neg hk',if_neg hk'] at hR
   refine Ac (B0 (Ai (Dq (Ab IP Af)) (As (Aa 0) hO T.fg.cls T.fi (GL m s ov ins)) (F0 hm.1 wF (by simp) (by rw [sizeLine_eq]; show 1*m.toNat<=_; omega))) (Aa 0) hO T.fg.cls T.fk (by show 4<1000; decide) ?_)
   rw [M8,OC]
   have hO2:(O.set jj (some (MO.ins CK2 (BY m s (List.replicate m.toNat true) ov))))[jj]?=some (some (.ins CK2 (BY m s (List.replicate m.toNat true) ov))):=Cb hO
   refine Ac (B0 (Ai (As (Aa 0) hO2 T.fg.cls T.fm (OD m s ov _)) Ag Bl) (Aa 0) hO2 T.fg.cls T.fm (by show 4<1000; decide) ?_)
   rw [List.set_set,T9]
   have e:m.toNat=ins.length:=by omega
   rw [e]
   exact Aq (Aq hR)
theorem WB (Fn:Av K "anew" "Rounder.anew" K7 f fd)  (kn:CI P w K mg base CK2 6 "Rounder" (JT CK2)):AF P w K mg base AL 8 f fd ["self"] (AJ K (FI CK2)):=by
 refine Bf (k:=7) Fn TM (λds O R h=>?_) (λcdv A outer s H E ds O R hr h=>?_)
 ·obtain ⟨_,_,_,_,_,rfl,_⟩:=h; rfl
 ·obtain ⟨q,m,s,ov,ins,rfl,hq,hm,hs,hR⟩:=h
  refine Ac (AG (DD kn (hr.mono wE) (Ab (As (Aa 0) hq T.fg.cls T.fi (GL m s ov ins)) (Ab (As (Aa 0) hq T.fg.cls T.fj (Ih m s ov ins)) Af)) ⟨O.length,m,s,rfl,Br,hm,hs,rfl,?_⟩))
  rw [CV]
  exact hR
theorem Wo (Fn:Av K "__init__" "Weigher.__init__" KZ f fd)  (gw:Ak P w K mg base 3 "check_fraction" (Au NX)) (jl:EL P w K mg base "Hand" 5 "__init__" (Ew (λC=>C=CK1\/C=CK5\/C=CK3\/C=CK2\/C=CK4\/C=CK0))):AF P w K mg base AL 6 f fd ["self","many","scale","top","bottom"] (AJ K (Gx CK5 CK3)):=by
 refine Bf (k:=5) Fn TD (λds O R h=>?_) (λcdv A outer s H E ds O R hr h=>?_)
 ·obtain ⟨_,_,_,rfl,_⟩:=h; rfl
 ·obtain ⟨q,sf,p,rfl,hq,hp,hR⟩:=h
  obtain ⟨m,s,t,b,sh,pa⟩:=p
  have hm:1<=m/\m<=24:=⟨hp.m1,hp.m2⟩
  have hb:0<=t/\t<b/\b<=100:=⟨hp.f.t0,hp.f.tb,hp.f.b2⟩
  refine Ac (Bb (Ae.ev (AD gw (hr.mono wE) (Ab (Aa 3) (Ab (Aa 4) Af)) ⟨_,_,rfl,by assumption,rfl⟩) ?_))
  refine Ac (Bb (G0 jl (hr.mono wE) (Ab (Aa 0) (Ab (Aa 1) (Ab (Aa 2) Af))) ⟨q,m,s,CM CK5 CK3 sf,rfl,(by cases sf; exact .inr (.inl rfl); exact .inr (.inr (.inl rfl))),hq,hm,⟨hp.f.s1,hp.f.s2⟩,?_⟩))
  have q1:=Cb (y:=some (.ins (CM CK5 CK3 sf) (BK m s))) hq
  refine Ac (B0 (Aa 3) (Aa 0) q1 (cv T.di.cls T.dw.cls sf) (nv T.dm T.eg sf) (by show 2<1000; decide) ?_)
  rw [List.set_set,Uq]
  refine Ac (B0 (Aa 4) (Aa 0) (Cb hq) (cv T.di.cls T.dw.cls sf) (nv T.dq T.eh sf) (by show 3<1000; decide) ?_)
  rw [List.set_set,UA]
  refine Ac (B0 (Ai (Dq (Ab Ag Af)) (Aa 1) (F0 hm.1 wF (by simp) (by rw [sizeLine_eq]; show 1*m.toNat<=_; omega))) (Aa 0) (Cb hq) (cv T.di.cls T.dw.cls sf) (nv T.dr T.ej sf) (by show 4<1000; decide) ?_)
  rw [List.set_set,Up,O7]
  refine Ac (B0 Ag (Aa 0) (Cb hq) (cv T.di.cls T.dw.cls sf) (nv T.dt T.ek sf) (by show 5<1000; decide) ?_)
  rw [List.set_set,Uo]
  exact Aq hR
theorem Wx (Fn:Av K "__init__" "Shifter.__init__" K3 f fd)  (gx:Ak P w K mg base 3 "check_share" (Au NA)) (gy:EL P w K mg base "Weigher" 6 "__init__" (Gx CK5 CK3)):AF P w K mg base AL 7 f fd ["self","many","scale","top","bottom","share","parts"] (AJ K (JS CK3)):=by
 refine Bf (k:=6) Fn TJ (λds O R h=>?_) (λcdv A outer s H E ds O R hr h=>?_)
 ·obtain ⟨_,_,rfl,_⟩:=h; rfl
 ·obtain ⟨q,p,rfl,hq,hp,hR⟩:=h
  have hsh:1<=p.sh/\p.sh<p.pa/\p.pa<=100:=⟨hp.h1,hp.h2,hp.h3⟩
  refine Ac (Bb (Ae.ev (AD gx (hr.mono wE) (Ab (Aa 5) (Ab (Aa 6) Af)) ⟨_,_,rfl,by assumption,rfl⟩) ?_))
  refine Ac (Bb (G0 gy (hr.mono wE) (Ab (Aa 0) (Ab (Aa 1) (Ab (Aa 2) (Ab (Aa 3) (Ab (Aa 4) Af))))) ⟨q,true,p,rfl,hq,⟨hp.f,hp.m1,hp.m2,λz=>by cases z⟩,?_⟩))
  have q1:=Cb (y:=some (.ins CK3 (BD p.m p.sc p.t p.b (List.replicate p.m.toNat 1) 1))) hq
  refine Ac (B0 (Aa 5) (Aa 0) q1 T.dw.cls T.em (by show 6<1000; decide) ?_)
  rw [List.set_set,Ur]
  refine Ac (B0 (Aa 6) (Aa 0) (Cb hq) T.dw.cls T.eu (by show 7<1000; decide) ?_)
  rw [List.set_set,Uu]
  exact Aq hR
theorem Wk (Fn:Av K "total" "Weigher.total" KT f fd)  : AF P w K mg base AL 1 f fd ["self"] (AJ K (JM CK5 CK3)):=by
 refine Bf (k:=0) Fn Tx (λds O R h=>?_) (λcdv A outer s H E ds O R hr h=>?_)
 ·obtain ⟨_,_,_,_,_,rfl,_⟩:=h; rfl
 ·obtain ⟨q,sf,p,u,ws,rfl,hW,hl,hR⟩:=h
  exact Ac (AG (Ae.ev (Dq (Ab (A8 T.xw (Ab (As (Aa 0) hW (cv T.di.cls T.dw.cls sf) (nv T.dr T.ej sf) (Jy sf p u ws)) Af) (Gf (Or.inr rfl))) (Ab (As (Aa 0) hW (cv T.di.cls T.dw.cls sf) (nv T.dt T.ek sf) (MU sf p u ws)) Af))) hR))
theorem Wj (Fn:Av K "weigh" "Weigher.weigh" KS f fd)  (jg:Ak P w K mg base 1 "charge" (Au FH)) (je:Al P w K mg base CK5 6 "say" (BG CK1 CK5 CK3 CK2)) (jf:Al P w K mg base CK3 6 "say" (BG CK1 CK5 CK3 CK2)) (gz:Ak P w K mg base 3 "times" (Ny CK5 CK3)) (kl:Ak P w K mg base 2 "times_asleep" (JN CK5 CK3)):AF P w K mg base AL 7 f fd ["self","said","so"] (AJ K (JL CK5 CK3)):=by
 refine Bf (k:=6) Fn Op (λds O R h=>?_) (λcdv A outer s H E ds O R hr h=>?_)
 ·obtain ⟨_,_,_,_,_,_,_,_,rfl,_⟩:=h; rfl
 ·obtain ⟨jj,n,sf,p,u,so,said,ws,rfl,hW,hp,hn,hwo,hl,hs,hso,hR⟩:=h
  have hf:=hp.f
  have hs1:=hs.1
  have h24:=hs.2.1
  have h0:B8 ws:=λw hw=>(hwo.w w hw).1
  have hon:=Ed (ws:=ws) hs (by have:=hf.s1; omega) h0
  have hd:=EJ hon hso
  refine Ac (AW 3 (Ae.ev (AD jg (hr.mono wE) (Ab (Ev.evp (CP (mv je jf sf) (hr.mono wE) (Aa 0) hW (Fw sf p u ws wD wD) (Ab (Aa 1) Af) ⟨jj,p.m,p.sc,ws,said,rfl,.inr (.inl ⟨sf,p,u,hW,rfl,rfl⟩),⟨hp.m1,hp.m2⟩,hs,hl,h0,rfl,rfl⟩)) (Ab (Aa 2) Af)) ⟨some (AK said ws),so,rfl,rfl⟩) ?_) Op.nd)
  have hdd:BM (some (AK said ws)) so=ab (AK said ws-so):=rfl
  rw [hdd]
  generalize ab (AK said ws-so)=dd at hd hR
  have hzl:(ws.zip said).length<=63:=by rw [List.length_zip]; omega
  have hi:∀ q∈ws.zip said,IntMulOk q.1 (tF p.t p.b p.sc dd so q.2):=λq hq=>by
   have h1:=hwo.w _ (List.of_mem_zip hq).1
   have h2:=HJ hf hd.2 hso (hs.2.2 _ (List.of_mem_zip hq).2)
   exact Ec h1.1 h1.2 h2.1 h2.2 wF
  have hin:∀ q∈ws.zip said,q.2=none\/Cn p.sc q.2=true:=λq hq=>hs.2.2 _ (List.of_mem_zip hq).2
  refine Ac (B0 (Ck T.xt (Ab (Cy (λq:Int×Option Int=>.int (q.1*tF p.t p.b p.sc dd so q.2)) ["kept","what"] ["self","own","so"] [0,3,2] (Hc (GZ (As (Aa 0) hW (cv T.di.cls T.dw.cls sf) (nv T.dr T.ej sf) (Jy sf p u ws)) (Aa 1) wB wB T.xx)) (by rw [sizeLine_eq]; omega) (by exact λq hq s H fp=>⟨[some _,some _],rfl,(Eu (CJ (AZ 0 (show List.Nodup (["kept","what","self","own","so"]:List Str) by decide +kernel)) (CJ (AZ 1 (show List.Nodup (["kept","what","self","own","so"]:List Str) by decide +kernel)) Et))),⟨_,rfl,(Ai (Aa 0) (Ev.evp (B1 gz (hr.mono wE) (Ab (Aa 2) (Ab (Aa 3) (Ab (Aa 1) (Ab (Aa 4) Af)))) ⟨_,_,_,_,_,_,q.2,_,rfl,hW,hp,hd,hso,hin q hq,rfl,rfl⟩)) (BH (hi q hq)))⟩⟩)) Af) (CD (by first | exact Or.inr rfl | exact Or.inl (Or.inl rfl) | exact Or.inl (Or.inr (Or.inl rfl)) | exact Or.inl (Or.inr (Or.inr ⟨_,rfl,by first | assumption | rfl⟩))))) (Aa 0) hW (cv T.di.cls T.dw.cls sf) (nv T.dr T.ej sf) (MT ..) ?_)
  have e1:((ws.zip said).map λq:Int×Option Int=>D.int (q.1*tF p.t p.b p.sc dd so q.2))=(BT p.t p.b p.sc dd so said ws).map D.int:=by
   unfold BT
   rw [List.map_map]
   rfl
  rw [e1,RH]
  have h1:=FA (own:=dd) hf hd.2
  have hW2:(O.set jj (some (MO.ins (CM CK5 CK3 sf) (Cj sf p (BT p.t p.b p.sc dd so said ws) u))))[jj]?=some (some (.ins (CM CK5 CK3 sf) (Cj sf p (BT p.t p.b p.sc dd so said ws) u))):=Cb hW
  refine Ac (B0 (Ai (As (Aa 0) hW2 (cv T.di.cls T.dw.cls sf) (nv T.dt T.ek sf) (MU sf p u _)) (Ev.evp (B1 kl (hr.mono wE) (Ab (Aa 0) (Ab (Aa 3) Af)) ⟨jj,sf,p,u,dd,_,rfl,hW2,hp,hd,rfl,rfl⟩)) (BH (Ec hwo.u0 hwo.u1 h1.1 h1.2 wF))) (Aa 0) hW2 (cv T.di.cls T.dw.cls sf) (nv T.dt T.ek sf) (MT ..) ?_)
  rw [List.set_set,RG]
  exact Aq hR
theorem Wv (Fn:Av K "deal" "Shifter.deal" K1 f fd)  : AF P w K mg base AL 1 f fd ["self"] (AJ K (N0 CK3)):=by
 refine Bf (k:=0) Fn J5 (λds O R h=>?_) (λcdv A outer s H E ds O R hr h=>?_)
 ·obtain ⟨_,_,_,_,rfl,_⟩:=h; rfl
 ·obtain ⟨jj,p,u,ws,rfl,hW,hp,hl,hR⟩:=h
  have hk:=PH hp
  have p1:=hp.h1; have p2:=hp.h2; have p3:=hp.h3; have m1:=hp.m1; have m2:=hp.m2
  refine Ac (AW 1 (Ae.ev (Ai (As (Aa 0) hW T.dw.cls T.em (Jl p u ws)) (A8 T.xw (Ab (As (Aa 0) hW T.dw.cls T.ej (Jk p u ws)) Af) (Gf (Or.inr rfl))) (BH (BC.ok (Or.inl ⟨by omega,by omega⟩)))) ?_) J5.nd)
  refine Ac (AW 2 (Ae.ev (Ai (As (Aa 0) hW T.dw.cls T.dz (Gq p u ws)) (Ai (As (Aa 0) hW T.dw.cls T.eu (Jn p u ws)) (As (Aa 0) hW T.dw.cls T.em (Jl p u ws)) Dm) (BH (BC.ok (Or.inl ⟨by omega,by omega⟩)))) ?_) J5.nd)
  refine Ac (B0 (Ck T.xt (Ab (Cy (λw:Int=>.int (w*(p.m*(p.pa-p.sh))+p.sh*ws.sum)) ["one"] ["kept","dealt"] [2,1] (Cq (As (Aa 0) hW T.dw.cls T.ej (Jk p u ws)) wB) (by rw [sizeLine_eq]; omega) (by exact λq hq s H fp=>⟨[some _],rfl,(AZ 0 (show List.Nodup (["one","kept","dealt"]:List Str) by decide +kernel)),⟨_,rfl,(Ai (Ai (Aa 0) (Aa 1) (BH (BC.ok (Or.inr ⟨by omega,by omega⟩)))) (Aa 2) Bl)⟩⟩)) Af) (CD (by first | exact Or.inr rfl | exact Or.inl (Or.inl rfl) | exact Or.inl (Or.inr (Or.inl rfl)) | exact Or.inl (Or.inr (Or.inr ⟨_,rfl,by first | assumption | rfl⟩))))) (Aa 0) hW T.dw.cls T.ej (by show 8<1000; decide) ?_)
  have e1:(ws.map λw:Int=>D.int (w*(p.m*(p.pa-p.sh))+p.sh*ws.sum))=(Df p ws).map D.int:=by
   unfold Df
   rw [List.map_map]
   rfl
  rw [e1,Nt]
  have hW2:(O.set jj (some (MO.ins CK3 (Bp p (Df p ws) u))))[jj]?=some (some (.ins CK3 (Bp p (Df p ws) u))):=Cb hW
  refine Ac (B0 (Ai (Ai (As (Aa 0) hW2 T.dw.cls T.ek (MH p u _)) (As (Aa 0) hW2 T.dw.cls T.dz (Gq p u _)) (BH (BC.ok (Or.inr ⟨by omega,by omega⟩)))) (As (Aa 0) hW2 T.dw.cls T.eu (Jn p u _)) (BH (BC.ok (Or.inr ⟨by omega,by omega⟩)))) (Aa 0) hW2 T.dw.cls T.ek (by show 8<1000; decide) ?_)
  rw [List.set_set,Nr]
  exact Aq hR
theorem Wm (Fn:Av K "hear" "Weigher.hear" KW f fd)  (jb:Ak P w K mg base 5 "check_turn" (Au ES)) (za:Al P w K mg base CK5 7 "weigh" (JL CK5 CK3)):AF P w K mg base AL 8 f fd ["self","said","so"] (AJ K (C8 CK5 CK3 false)):=by
 refine Bf (k:=7) Fn TB (λds O R h=>?_) (λcdv A outer s H E ds O R hr h=>?_)
 ·obtain ⟨_,_,_,_,_,_,_,rfl,_⟩:=h; rfl
 ·obtain ⟨jj,n,p,u,so,said,ws,rfl,hW,hp,hn,hwo,hl,hs,hso,hR⟩:=h
  have hW':O[jj]?=some (some (.ins CK5 (BD p.m p.sc p.t p.b ws u))):=hW
  refine Ac (Bb (Ae.ev (AD jb (hr.mono wE) (Ab (As (Aa 0) hW' T.di.cls T.dk (Jv ..)) (Ab (As (Aa 0) hW' T.di.cls T.dl (Ju ..)) (Ab (Aa 1) (Ab (Aa 2) Af)))) ⟨_,_,_,_,rfl,by assumption,by assumption,rfl⟩) ?_))
  exact Ac (Bb (CP za (hr.mono wE) (Aa 0) hW' (MS _ _ _ _ _ _ wD) (Ab (Aa 1) (Ab (Aa 2) Af)) ⟨jj,n,false,p,u,so,said,ws,rfl,hW,hp,hn,hwo,hl,hs,hso,Aq hR⟩))
theorem Wu (Fn:Av K "hear" "Shifter.hear" K0 f fd)  (jb:Ak P w K mg base 5 "check_turn" (Au ES)) (zb:Al P w K mg base CK3 7 "weigh" (JL CK5 CK3)) (zc:Al P w K mg base CK3 1 "deal" (N0 CK3)):AF P w K mg base AL 8 f fd ["self","said","so"] (AJ K (C8 CK5 CK3 true)):=by
 refine Bf (k:=7) Fn TF (λds O R h=>?_) (λcdv A outer s H E ds O R hr h=>?_)
 ·obtain ⟨_,_,_,_,_,_,_,rfl,_⟩:=h; rfl
 ·obtain ⟨jj,n,p,u,so,said,ws,rfl,hW0,hp0,hn,hwo,hl,hs,hso,hR⟩:=h
  have hW:Jd CK3 O jj p ws u:=hW0
  have hp:=hp0.so
  refine Ac (Bb (Ae.ev (AD jb (hr.mono wE) (Ab (As (Aa 0) hW T.dw.cls T.dz (Gq p u ws)) (Ab (As (Aa 0) hW T.dw.cls T.ef (Jm p u ws)) (Ab (Aa 1) (Ab (Aa 2) Af)))) ⟨_,_,_,_,rfl,by assumption,by assumption,rfl⟩) ?_))
  refine Ac (Bb (CP zb (hr.mono wE) (Aa 0) hW (Jo p u ws wD) (Ab (Aa 1) (Ab (Aa 2) Af)) ⟨jj,n,true,p,u,so,said,ws,rfl,hW0,hp0,hn,hwo,hl,hs,hso,?_⟩))
  have hW2:Jd CK3 (O.set jj (some (.ins CK3 (Bp p (BT p.t p.b p.sc (ab (AK said ws-so)) so said ws) (u*tS p.t p.b p.sc (ab (AK said ws-so))))))) jj p (BT p.t p.b p.sc (ab (AK said ws-so)) so said ws) (u*tS p.t p.b p.sc (ab (AK said ws-so))):=Cb hW
  have hs1:=hs.1
  have h24:=hs.2.1
  have hnl:=F2 (t:=p.t) (b:=p.b) (sc:=p.sc) (dd:=ab (AK said ws-so)) (so:=so) (show ws.length=said.length by omega)
  refine Ac (Bb (Dr zc (hr.mono wE) (Aa 0) hW2 (Jo p _ _ wD) ⟨jj,p,_,_,rfl,hW2,hp,by omega,?_⟩))
  rw [List.set_set]
  exact Aq hR
theorem Wn (Fn:Av K "anew" "Weigher.anew" KY f fd)  (ko:CI P w K mg base CK5 6 "Weigher" (Gx CK5 CK3)):AF P w K mg base AL 9 f fd ["self"] (AJ K (C9 CK5 CK3 false)):=by
 refine Bf (k:=8) Fn TC (λds O R h=>?_) (λcdv A outer s H E ds O R hr h=>?_)
 ·obtain ⟨_,_,_,_,rfl,_⟩:=h; rfl
 ·obtain ⟨jj,p,u,ws,rfl,hW,hp,hR⟩:=h
  have hW':O[jj]?=some (some (.ins CK5 (BD p.m p.sc p.t p.b ws u))):=hW
  refine Ac (AG (DD ko (hr.mono wE) (Ab (As (Aa 0) hW' T.di.cls T.dk (Jv ..)) (Ab (As (Aa 0) hW' T.di.cls T.dl (Ju ..)) (Ab (As (Aa 0) hW' T.di.cls T.dm (Jt ..)) (Ab (As (Aa 0) hW' T.di.cls T.dq (Jw ..)) Af)))) ⟨O.length,false,p,rfl,Br,hp,rfl,?_⟩))
  rw [CV]
  exact hR
theorem Ww (Fn:Av K "anew" "Shifter.anew" K2 f fd)  (kt:CI P w K mg base CK3 7 "Shifter" (JS CK3)):AF P w K mg base AL 9 f fd ["self"] (AJ K (C9 CK5 CK3 true)):=by
 refine Bf (k:=8) Fn TH (λds O R h=>?_) (λcdv A outer s H E ds O R hr h=>?_)
 ·obtain ⟨_,_,_,_,rfl,_⟩:=h; rfl
 ·obtain ⟨jj,p,u,ws,rfl,hW0,hp0,hR⟩:=h
  have hW:Jd CK3 O jj p ws u:=hW0
  have hp:=hp0.so
  refine Ac (AG (DD kt (hr.mono wE) (Ab (As (Aa 0) hW T.dw.cls T.dz (Gq p u ws)) (Ab (As (Aa 0) hW T.dw.cls T.ef (Jm p u ws)) (Ab (As (Aa 0) hW T.dw.cls T.eg (MI p u ws)) (Ab (As (Aa 0) hW T.dw.cls T.eh (MJ p u ws)) (Ab (As (Aa 0) hW T.dw.cls T.em (Jl p u ws)) (Ab (As (Aa 0) hW T.dw.cls T.eu (Jn p u ws)) Af)))))) ⟨O.length,p,rfl,Br,hp,rfl,?_⟩))
  rw [CV]
  exact hR
theorem WM (Fn:Hu K "__init__" "Follower.__init__" FU f fd [.none])  (zd:Ak P w K mg base 4 "push_of" (Au NG)) (jl:EL P w K mg base "Hand" 5 "__init__" (Ew (λC=>C=CK1\/C=CK5\/C=CK3\/C=CK2\/C=CK4\/C=CK0))):AF P w K mg base AL 6 f fd ["self","many","scale","push"] (AJ K (Gy CK0)):=by
 refine WN (k:=5) Fn T0 (λds O R h=>?_) (λcdv A outer s H E ds O R hr h=>?_)
 ·obtain ⟨_,_,_,_,rfl,_⟩:=h; rfl
 ·obtain ⟨q,m,s,po,rfl,hq,hm,hs,hp,hR⟩:=h
  refine Ac (Bb (G0 jl (hr.mono wE) (Ab (Aa 0) (Ab (Aa 1) (Ab (Aa 2) Af))) ⟨q,m,s,CK0,rfl,.inr (.inr (.inr (.inr (.inr rfl)))),hq,hm,hs,?_⟩))
  refine Ac (B0 (AD zd (hr.mono wE) (Ab (Aa 1) (Ab (Aa 3) Af)) ⟨m,po,rfl,hm,hp,rfl⟩) (Aa 0) (Cb hq) T.ft.cls T.fz (by show 2<1000; decide) ?_)
  rw [List.set_set,show BK m s=g2 m s from rfl,Uz]
  have q3:=Cb (y:=some (.ins CK0 (g3 m s (.tup ((FW m po).map D.int))))) hq
  refine Ac (B0 (As (Aa 0) q3 T.ft.cls T.fz (Ys _ _ _)) (Aa 0) q3 T.ft.cls T.lb (by show 3<1000; decide) ?_)
  rw [List.set_set,Uy]
  exact Aq hR
theorem WJ (Fn:Av K "say" "Follower.say" Lf f fd)  (jn:Ak P w K mg base 4 "check_said" (Au HM)) (kj:Ak P w K mg base 1 "awake_in" (Au JW)) (ze:Ak P w K mg base 1 "first_least" (Au NY)):AF P w K mg base AL 5 f fd ["self","said"] (AJ K (EQ CK0)):=by
 refine Bf (k:=4) Fn Ow (λds O R h=>?_) (λcdv A outer s H E ds O R hr h=>?_)
 ·obtain ⟨_,_,_,_,_,_,rfl,_⟩:=h; rfl
 ·obtain ⟨q,m,s,ps,sc,said,rfl,hq,hm,hs,hl,hR⟩:=h
  have hs1:=hs.1
  have h24:said.length<=24:=by have:=hs.2.1; omega
  have hal:=Mm said
  refine Ac (Bb (Ae.ev (AD jn (hr.mono wE) (Ab (As (Aa 0) hq T.ft.cls T.fv (IM m s ps sc)) (Ab (As (Aa 0) hq T.ft.cls T.fw (IK m s ps sc)) (Ab (Aa 1) Af))) ⟨_,_,_,rfl,by assumption,rfl⟩) ?_))
  refine Ac (AW 2 (Ae.ev (AD kj (hr.mono wE) (Ab (Aa 1) Af) ⟨_,rfl,by assumption,rfl⟩) ?_) Ow.nd)
  refine Ac (AT (AM (A8 T.xr (Ab (Aa 2) Af) (C4 (by first | exact Or.inr rfl | exact Or.inl (Or.inl rfl) | exact Or.inl (Or.inr (Or.inl rfl)) | exact Or.inl (Or.inr (Or.inr ⟨_,rfl,by first | assumption | rfl⟩))))) Ag A5) (λhk=>?_) (λhk=>Aq ?_))
  ·have hk:=of_decide_eq_true hk
   rw [List.length_map] at hk
   rw [T3 (List.length_eq_zero_iff.mp wF)] at hR
   exact Ac (AG (Ae.ev Ag hR))
  ·have hk:=of_decide_eq_false hk
   rw [List.length_map] at hk
   obtain ⟨k,_,hf⟩:=IJ sc (ax said) (QS said) (λz=>hk (by rw [z]; rfl))
   rw [Oz hf] at hR
   have hb:∀ k∈ax said,k<sc.length:=λk hk=>by have:=Gh hk; omega
   exact Ac (AG (Ae.ev (B7 (Aa 1) (AD ze (hr.mono wE) (Ab (As (Aa 0) hq T.ft.cls T.lb (L0 m s ps sc)) (Ab (Aa 2) Af)) ⟨sc,ax said,k,rfl,by omega,hb,hf,rfl⟩) (QV hf.1)) hR))
theorem WK (Fn:Av K "hear" "Follower.hear" Lg f fd)  (jb:Ak P w K mg base 5 "check_turn" (Au ES)) (jg:Ak P w K mg base 1 "charge" (Au FH)):AF P w K mg base AL 6 f fd ["self","said","so"] (AJ K (FG CK0)):=by
 refine Bf (k:=5) Fn TY (λds O R h=>?_) (λcdv A outer s H E ds O R hr h=>?_)
 ·obtain ⟨_,_,_,_,_,_,_,rfl,_⟩:=h; rfl
 ·obtain ⟨jj,m,s,so,ps,sc,said,rfl,hO,hm,hs,hso,hl,hR⟩:=h
  have hs1:=hs.1
  have hzl:(sc.zip said).length<=63:=by rw [List.length_zip]; omega
  refine Ac (Bb (Ae.ev (AD jb (hr.mono wE) (Ab (As (Aa 0) hO T.ft.cls T.fv (IM m s ps sc)) (Ab (As (Aa 0) hO T.ft.cls T.fw (IK m s ps sc)) (Ab (Aa 1) (Ab (Aa 2) Af)))) ⟨_,_,_,_,rfl,by assumption,by assumption,rfl⟩) ?_))
  refine Ac (B0 (Ck T.xt (Ab (Cy (λp:Int×Option Int=>.int (p.1+BM p.2 so)) ["score","what"] ["so"] [2] (Hc (GZ (As (Aa 0) hO T.ft.cls T.lb (L0 m s ps sc)) (Aa 1) wB wB T.xx)) (by rw [sizeLine_eq]; omega) (by exact λq hq s H fp=>⟨[some _,some _],rfl,(Eu (CJ (AZ 0 (show List.Nodup (["score","what","so"]:List Str) by decide +kernel)) (CJ (AZ 1 (show List.Nodup (["score","what","so"]:List Str) by decide +kernel)) Et))),⟨_,rfl,(Ai (Aa 0) (AD jg (hr.mono wE) (Ab (Aa 1) (Ab (Aa 2) Af)) ⟨_,_,rfl,rfl⟩) Bl)⟩⟩)) Af) (CD (by first | exact Or.inr rfl | exact Or.inl (Or.inl rfl) | exact Or.inl (Or.inr (Or.inl rfl)) | exact Or.inl (Or.inr (Or.inr ⟨_,rfl,by first | assumption | rfl⟩))))) (Aa 0) hO T.ft.cls T.lb (by show 4<1000; decide) ?_)
  have e1:((sc.zip said).map λp:Int×Option Int=>D.int (p.1+BM p.2 so))=(CO said so sc).map D.int:=by
   unfold CO
   rw [List.map_map]
   rfl
  rw [e1,Yu]
  exact Aq hR
theorem WL (Fn:Av K "anew" "Follower.anew" Lh f fd)  (ku:CI P w K mg base CK0 6 "Follower" (Gy CK0)):AF P w K mg base AL 8 f fd ["self"] (AJ K (FK CK0)):=by
 refine Bf (k:=7) Fn TZ (λds O R h=>?_) (λcdv A outer s H E ds O R hr h=>?_)
 ·obtain ⟨_,_,_,_,_,rfl,_⟩:=h; rfl
 ·obtain ⟨q,m,s,ps,sc,rfl,hq,hm,hs,hp,hR⟩:=h
  refine Ac (AG (DD ku (hr.mono wE) (Ab (As (Aa 0) hq T.ft.cls T.fv (IM m s ps sc)) (Ab (As (Aa 0) hq T.ft.cls T.fw (IK m s ps sc)) (Ab (As (Aa 0) hq T.ft.cls T.fz (Qe m s ps sc)) Af))) ⟨O.length,m,s,some ps,rfl,Br,hm,hs,hp,rfl,?_⟩))
  rw [CV]
  exact hR
theorem Wh (Fn:Av K "are_alike" "are_alike" KR f fd) (hm:mg "are_alike" = some (.ref f)) (hb:Binds K fd ["hands"] []):Ak P w K mg base 1 "are_alike" (N4 ⟨CK1,CK5,CK3,CK2,CK4,CK0⟩):=by
 refine A1 (k:=0) Fn Tw hm hb (λds O R h=>?_) (λcdv A outer s H E ds O R hr h=>?_)
 ·obtain ⟨_,_,_,_,rfl,_⟩:=h; rfl
 ·obtain ⟨j,m,s,pv,rfl,hP,hl,hR⟩:=h
  have hz:pv.length<=sizeLine:=by rw [sizeLine_eq]; omega
  refine Ac (AT (AU.cast (k':=false) (BB.t (Dc (CQ (Cz (A8 T.ba (Ab (Aa 0) (Ab (DB T.xt) Af)) (Gg rfl)))) (λhbb=>(Dp (AM (A8 T.xr (Ab (Aa 0) Af) (C4 (by first | exact Or.inr rfl | exact Or.inl (Or.inl rfl) | exact Or.inl (Or.inr (Or.inl rfl)) | exact Or.inl (Or.inr (Or.inr ⟨_,rfl,by first | assumption | rfl⟩))))) Ag A5))))) (by show (false||decide _)=false; rw [List.length_map,decide_eq_false wF]; rfl)) (λhk=>by cases hk) (λ_=>Aq ?_))
  have ea:(pv.map λ_=>true).all id=true:=by rw [List.all_map]; exact List.all_eq_true.mpr λ_ _=>rfl
  refine Ac (AT (AU.cast (k':=false) (CQ (Cz (A8 T.bf (Ab (Cy (λ_:Nat×Hn=>.bl true) ["hand"] [] [] (Cq (Aa 0) wB) hz (by exact λq hq s H fp=>⟨[some _],rfl,(AZ 0 (show List.Nodup (["hand"]:List Str) by decide +kernel)),⟨_,rfl,(Qj (C:=⟨CK1,CK5,CK3,CK2,CK4,CK0⟩)  T.ba (Aa 0) (hP q hq).1 T.bz T.di T.dw T.fg T.de T.dh T.du T.ff T.fq T.ft T.lc T.ld T.lp)⟩⟩)) Af) (Mj (bs:=pv.map λ_=>true) (Or.inl (Or.inl (by rw [List.map_map]; rfl))))))) (by rw [ea]; rfl)) (λhk=>by cases hk) (λ_=>Aq ?_))
  obtain ⟨x0,h0⟩:∃ x,pv[0]?=some x:=⟨_,List.getElem?_eq_getElem wF⟩
  have hx0:=hP x0 (List.mem_of_getElem? h0)
  have hat:BO (pv.map λx=>D.ptr x.1) 0=some (.ptr x0.1):=Fl (j:=0) (by rw [List.getElem?_map,h0]; rfl)
  obtain ⟨n0,ok0⟩:=hx0.2.1
  refine Ac (AG (Ae.ev (A8 T.bf (Ab (Cy (λ_:Nat×Hn=>.bl (decide (((m:Nat):Int)=(m:Nat))&&decide (s=s))) ["hand"] ["hands"] [0] (Cq (Aa 0) wB) hz (by exact λq hq s H fp=>⟨[some _],rfl,(AZ 0 (show List.Nodup (["hand","hands"]:List Str) by decide +kernel)),⟨_,rfl,(DE (C3 (Ga (C:=⟨CK1,CK5,CK3,CK2,CK4,CK0⟩) T.bz.cls T.di.cls T.dw.cls T.fg.cls T.df T.dk T.dz T.fi T.ft.cls T.fv T.ld.cls T.lg (Aa 0) (hP q hq).1 (hP q hq).2.1.choose_spec) (Ga (C:=⟨CK1,CK5,CK3,CK2,CK4,CK0⟩) T.bz.cls T.di.cls T.dw.cls T.fg.cls T.df T.dk T.dz T.fi T.ft.cls T.fv T.ld.cls T.lg (B7 (Aa 1) Ag (hat)) hx0.1 ok0) A5) (λhbb=>(DC (C3 (Ff (C:=⟨CK1,CK5,CK3,CK2,CK4,CK0⟩) T.bz.cls T.di.cls T.dw.cls T.fg.cls T.dg T.dl T.ef T.fj T.ft.cls T.fw T.ld.cls T.lh (Aa 0) (hP q hq).1 (hP q hq).2.1.choose_spec) (Ff (C:=⟨CK1,CK5,CK3,CK2,CK4,CK0⟩) T.bz.cls T.di.cls T.dw.cls T.fg.cls T.dg T.dl T.ef T.fj T.ft.cls T.fw T.ld.cls T.lh (B7 (Aa 1) Ag (hat)) hx0.1 ok0) A5))))⟩⟩)) Af) (Mj (bs:=pv.map λ_=>true) (Or.inl (Or.inl (by rw [List.map_map,decide_eq_true rfl,decide_eq_true rfl]; rfl))))) ?_))
  rw [ea]
  exact hR
theorem V0 (Fn:Av K "is_head" "is_head" KA f fd) (hm:mg "is_head" = some (.ref f)) (hb:Binds K fd ["hands","head"] []):Ak P w K mg base 1 "is_head" (NP ⟨CK1,CK5,CK3,CK2,CK4,CK0⟩):=by
 refine A1 (k:=0) Fn Te hm hb (λds O R h=>?_) (λcdv A outer s H E ds O R hr h=>?_)
 ·obtain ⟨_,_,_,_,_,_,rfl,_⟩:=h; rfl
 ·obtain ⟨j,m,s,pv,hp,hd,rfl,hP,hD,hl,hR⟩:=h
  obtain ⟨x0,h0⟩:∃ x,pv[0]?=some x:=⟨_,List.getElem?_eq_getElem wF⟩
  have hx0:=hP x0 (List.mem_of_getElem? h0)
  have hat:BO (pv.map λx=>D.ptr x.1) 0=some (.ptr x0.1):=Fl (j:=0) (by rw [List.getElem?_map,h0]; rfl)
  obtain ⟨n0,ok0⟩:=hx0.2.1
  have hd0:=hD (hp,hd) (List.mem_singleton.mpr rfl)
  obtain ⟨n1,ok1⟩:=hd0.2.1
  refine Ac (AG (Ae.ev (DE (Qj (C:=⟨CK1,CK5,CK3,CK2,CK4,CK0⟩)  T.ba (Aa 1) hd0.1 T.bz T.di T.dw T.fg T.de T.dh T.du T.ff T.fq T.ft T.lc T.ld T.lp) (λhbb=>(DE (C3 (Ga (C:=⟨CK1,CK5,CK3,CK2,CK4,CK0⟩) T.bz.cls T.di.cls T.dw.cls T.fg.cls T.df T.dk T.dz T.fi T.ft.cls T.fv T.ld.cls T.lg (Aa 1) hd0.1 ok1) (A8 T.xr (Ab (Aa 0) Af) (C4 (by first | exact Or.inr rfl | exact Or.inl (Or.inl rfl) | exact Or.inl (Or.inr (Or.inl rfl)) | exact Or.inl (Or.inr (Or.inr ⟨_,rfl,by first | assumption | rfl⟩))))) A5) (λhbb=>(DC (C3 (Ff (C:=⟨CK1,CK5,CK3,CK2,CK4,CK0⟩) T.bz.cls T.di.cls T.dw.cls T.fg.cls T.dg T.dl T.ef T.fj T.ft.cls T.fw T.ld.cls T.lh (Aa 1) hd0.1 ok1) (Ff (C:=⟨CK1,CK5,CK3,CK2,CK4,CK0⟩) T.bz.cls T.di.cls T.dw.cls T.fg.cls T.dg T.dl T.ef T.fj T.ft.cls T.fw T.ld.cls T.lh (B7 (Aa 0) Ag (hat)) hx0.1 ok0) A5)))))) ?_))
  rw [List.length_map,decide_eq_true rfl,decide_eq_true rfl]
  exact hR
theorem V6 (Fn:Av K "check_tier" "check_tier" KH f fd) (hm:mg "check_tier" = some (.ref f)) (hb:Binds K fd ["hands","head"] []) (zg:Ak P w K mg base 1 "are_alike" (N4 ⟨CK1,CK5,CK3,CK2,CK4,CK0⟩)) (zh:Ak P w K mg base 1 "is_head" (NP ⟨CK1,CK5,CK3,CK2,CK4,CK0⟩)):Ak P w K mg base 2 "check_tier" (Nx ⟨CK1,CK5,CK3,CK2,CK4,CK0⟩):=by
 refine A1 (k:=1) Fn Tl hm hb (λds O R h=>?_) (λcdv A outer s H E ds O R hr h=>?_)
 ·obtain ⟨_,_,_,_,_,_,rfl,_⟩:=h; rfl
 ·obtain ⟨j,m,s,pv,hp,hd,rfl,hP,hD,hm,hs,hl,hR⟩:=h
  exact Ac (AT (AU.cast (k':=false) (BB.t (Dc (CQ (Cz (Ev.evp (B1 zg (hr.mono wE) (Ab (Aa 0) Af) ⟨j,m,s,pv,rfl,hP,hl,rfl,rfl⟩)))) (λhbb=>(Dp (CQ (Cz (Ev.evp (B1 zh (hr.mono wE) (Ab (Aa 0) (Ab (Aa 1) Af)) ⟨j,m,s,pv,hp,hd,rfl,hP,hD,hl,rfl,rfl⟩)))))))) rfl) (λhk=>by cases hk) (λ_=>Aq (Aq hR)))
theorem Wt (Fn:Av K "__init__" "Tier.__init__" Ie f fd):AF P w K mg base AL 10 f fd ["self","hands","head"] (AJ K (D5 ⟨CK1,CK5,CK3,CK2,CK4,CK0⟩ 0)):=Bf (k:=9) Fn Ou (λds O R h=>(NQ h).elim) (λcdv A outer s H E ds O R hr h=>(NQ h).elim)
theorem Pc {j:Nat} (Fn:Av K "__init__" "Tier.__init__" Ie f fd)  (gd:Ak P w K mg base 2 "check_tier" (Nx ⟨CK1,CK5,CK3,CK2,CK4,CK0⟩)) (jl:EL P w K mg base "Hand" 5 "__init__" (Ew (λC=>C=CK1\/C=CK5\/C=CK3\/C=CK2\/C=CK4\/C=CK0))) (ju:Al P w K mg base CK1 7 "anew" (FJ CK1)) (jw:Al P w K mg base CK5 9 "anew" (C9 CK5 CK3 false)) (jx:Al P w K mg base CK3 9 "anew" (C9 CK5 CK3 true)) (jy:Al P w K mg base CK2 8 "anew" (FI CK2)) (jz:Al P w K mg base CK0 8 "anew" (FK CK0)) (kv:Al P w K mg base CK4 (11+8*j+1) "anew" (DK ⟨CK1,CK5,CK3,CK2,CK4,CK0⟩ j)):AF P w K mg base AL (17+8*j+1) f fd ["self","hands","head"] (AJ K (D5 ⟨CK1,CK5,CK3,CK2,CK4,CK0⟩ (j+1))):=by
 refine Bf (k:=17+8*j) Fn Ou (λds O R h=>?_) (λcdv A outer s H E ds O R hr h=>?_)
 ·obtain ⟨_,_,_,_,_,_,_,rfl,_⟩:=h; rfl
 ·obtain ⟨q,m,s,pv,hp,hd,O0,rfl,rfl,rfl,hP,hD,hm,hs,hl,hR⟩:=h
  have hz:pv.length<=sizeLine:=by rw [sizeLine_eq]; omega
  have hmI:(1:Int)<=(m:Nat)/\((m:Nat):Int)<=24:=⟨by omega,by omega⟩
  refine Ac (Bb (Ae.ev (Ev.evp (B1 gd (hr.mono wF) (Ab (Aa 1) (Ab (Aa 2) Af)) ⟨j+1,m,s,pv,hp,hd,rfl,hP.app,hD.app,hm,hs,hl,rfl,rfl⟩)) ?_))
  obtain ⟨x0,h0⟩:∃ x,pv[0]?=some x:=⟨_,List.getElem?_eq_getElem wF⟩
  have hx0:=hP.app (Y:=[some (MO.ins CK4 [])]) x0 (List.mem_of_getElem? h0)
  have hat:BO (pv.map λx=>D.ptr x.1) 0=some (.ptr x0.1):=Fl (j:=0) (by rw [List.getElem?_map,h0]; rfl)
  obtain ⟨n0,ok0⟩:=hx0.2.1
  refine Ac (Bb (G0 jl (hr.mono wF) (Ab (Aa 0) (Ab (Ga (C:=⟨CK1,CK5,CK3,CK2,CK4,CK0⟩) T.bz.cls T.di.cls T.dw.cls T.fg.cls T.df T.dk T.dz T.fi T.ft.cls T.fv T.ld.cls T.lg (B7 (Aa 1) Ag (hat)) hx0.1 ok0) (Ab (Ff (C:=⟨CK1,CK5,CK3,CK2,CK4,CK0⟩) T.bz.cls T.di.cls T.dw.cls T.fg.cls T.dg T.dl T.ef T.fj T.ft.cls T.fw T.ld.cls T.lh (B7 (Aa 1) Ag (hat)) hx0.1 ok0) Af))) ⟨O0.length,(m:Nat),s,CK4,rfl,.inr (.inr (.inr (.inr (.inl rfl)))),Br,hmI,hs,?_⟩))
  rw [CV]
  have sub:∀ Z,Cf ⟨CK1,CK5,CK3,CK2,CK4,CK0⟩ (O0++[some (MO.ins CK4 (BK (m:Nat) s))]++Z) m s (j+1) pv:=λZ=>hP.app.app
  obtain ⟨zs,hzs⟩:∃ zs:List Hn,zs=Cl (pv.map λx=>x.2) m:=⟨_,rfl⟩
  have zl:zs.length=pv.length:=by rw [hzs,F5,List.length_map]
  have zat:∀ (i:Nat) (x:Nat×Hn),pv[i]?=some x->zs[i]?=some (AI x.2 m):=λi x hx=>by rw [hzs,Ms,List.getElem?_map,List.getElem?_map,hx]; rfl
  refine Ac (MN (q:=O0.length) (C:=CK4) (fs:=BK (m:Nat) s) (YN T.xt (Hb (YK (λi=>.ptr (O0.length+1+AA (zs.take i))) (λi=>O0++[some (MO.ins CK4 (BK (m:Nat) s))]++Bq ⟨CK1,CK5,CK3,CK2,CK4,CK0⟩ (zs.take i) (O0.length+1) m s) (by rw [List.take_zero]; simp only [Bq,List.append_nil]) ["hand"] [] [] (Cq (Aa 1) wB) hz ?turn (BZ.as Af ⟨_,CD (Or.inl (Or.inl rfl)),(Aa 0),Iy,?_⟩)))) T.ld.cls T.lj (by show 2<1000; decide))
  case turn=>
   intro i x hx s2 H2 fp
   have hi:=(List.getElem?_eq_some_iff.mp hx).1
   have hxx:=sub (Bq ⟨CK1,CK5,CK3,CK2,CK4,CK0⟩ (zs.take i) (O0.length+1) m s) x (List.mem_of_getElem? hx)
   obtain ⟨n1,ok1⟩:=hxx.2.1
   have el:(O0++[some (MO.ins CK4 (BK (m:Nat) s))]++Bq ⟨CK1,CK5,CK3,CK2,CK4,CK0⟩ (zs.take i) (O0.length+1) m s).length=O0.length+1+AA (zs.take i):=by rw [List.length_append,List.length_append,F4]; rfl
   refine ⟨[some (.ptr x.1)],rfl,AZ 0 (show List.Nodup (["hand"]:List Str) by decide +kernel),IQ (C:=⟨CK1,CK5,CK3,CK2,CK4,CK0⟩) ju jw jx jy (hr.mono wF) (hr.mono wF) (hr.mono wF) jz (hr.mono wF) kv (hr.mono wF) (Aa 0) hxx.1 ok1 (Nat.le_of_lt_succ hxx.2.2) hm hs ⟨?_,?_⟩⟩
   ·show D.ptr _=D.ptr _
    rw [el]
   ·show _=O0++_++Bq ⟨CK1,CK5,CK3,CK2,CK4,CK0⟩ (zs.take (i+1)) (O0.length+1) m s
    rw [Xu ⟨CK1,CK5,CK3,CK2,CK4,CK0⟩ (zat i x hx),el,<- List.append_assoc]
  rw [LD,Uw,<- zl,List.take_of_length_le (Nat.le_refl _)]
  rw [show ((List.range zs.length).map λi=>D.ptr (O0.length+1+AA (zs.take i)))=(BR zs (O0.length+1)).map D.ptr by rw [Pd,List.map_map]; rfl]
  generalize hZ:Bq ⟨CK1,CK5,CK3,CK2,CK4,CK0⟩ zs (O0.length+1) m s=Z
  have hZl:Z.length=AA zs:=by rw [<- hZ,F4]
  have hd0:=hD (hp,hd) (List.mem_singleton.mpr rfl)
  obtain ⟨n2,ok2⟩:=hd0.2.1
  have hq2:∀ (y:Option MO) (Y:Ad),Ay ⟨CK1,CK5,CK3,CK2,CK4,CK0⟩ (O0++[y]++Y) hd hp pv.length s:=λy Y=>hd0.1.ap.ap
  refine Ac (MN (q:=O0.length) (C:=CK4) (fs:=Gs (m:Nat) s (.tup ((BR zs (O0.length+1)).map D.ptr))) (IQ (C:=⟨CK1,CK5,CK3,CK2,CK4,CK0⟩) ju jw jx jy (hr.mono wF) (hr.mono wF) (hr.mono wF) jz (hr.mono wF) kv (hr.mono wF) (Aa 2) (hq2 _ _) ok2 (Nat.le_of_lt_succ hd0.2.2) hl hs ⟨(Aa 0),?_,?_⟩) T.ld.cls T.ll (by show 3<1000; decide))
  ·exact I0 Iy
  rw [List.append_assoc (O0++_) Z,LD,Uv,show (O0++[some (MO.ins CK4 (Gs (m:Nat) s (.tup ((BR zs (O0.length+1)).map D.ptr))))]++Z).length=O0.length+1+AA zs by rw [List.length_append,List.length_append,hZl]; rfl]
  refine Ac (B0 (Ai (Dq (Ab Ag Af)) (A8 T.xr (Ab (Aa 1) Af) (C4 (by first | exact Or.inr rfl | exact Or.inl (Or.inl rfl) | exact Or.inl (Or.inr (Or.inl rfl)) | exact Or.inl (Or.inr (Or.inr ⟨_,rfl,by first | assumption | rfl⟩))))) (F0 (by rw [List.length_map]; omega) (by rw [List.length_map]; omega) (by simp) (by rw [sizeLine_eq,List.length_map,Int.toNat_natCast]; show 1*_<=_; omega))) (Aa 0) Iy T.ld.cls T.lm (by show 4<1000; decide) ?_)
  rw [LD,List.length_map,Int.toNat_natCast,Jp,UB]
  refine Aq ?_
  have e:GR ⟨CK1,CK5,CK3,CK2,CK4,CK0⟩ (pv.map (·.2)) hd O0.length m s=[some (MO.ins CK4 (BQ (m:Nat) s (BR zs (O0.length+1)) (O0.length+1+AA zs) (List.replicate pv.length 0)))]++(Z++Bm ⟨CK1,CK5,CK3,CK2,CK4,CK0⟩ (AI hd pv.length) (O0.length+1+AA zs) pv.length s):=by
   unfold GR
   simp only [AI,Bm]
   rw [<- hzs,zl,List.length_map,hZ]
   rfl
  rw [e,<- List.append_assoc] at hR
  exact hR
theorem Wr (Fn:Av K "ask" "Tier.ask" HZ f fd):AF P w K mg base AL 7 f fd ["self","said"] (AJ K (Ey ⟨CK1,CK5,CK3,CK2,CK4,CK0⟩ 0)):=Bf (k:=6) Fn Os (λds O R h=>(N2 h).elim) (λcdv A outer s H E ds O R hr h=>(N2 h).elim)
theorem Pa {j:Nat} (Fn:Av K "ask" "Tier.ask" HZ f fd)  (jh:Al P w K mg base CK1 6 "say" (BG CK1 CK5 CK3 CK2)) (je:Al P w K mg base CK5 6 "say" (BG CK1 CK5 CK3 CK2)) (jf:Al P w K mg base CK3 6 "say" (BG CK1 CK5 CK3 CK2)) (ji:Al P w K mg base CK2 6 "say" (BG CK1 CK5 CK3 CK2)) (jk:Al P w K mg base CK0 5 "say" (EQ CK0)) (kf:Al P w K mg base CK4 (8+8*j+1) "say" (Dz ⟨CK1,CK5,CK3,CK2,CK4,CK0⟩ j)):AF P w K mg base AL (14+8*j+1) f fd ["self","said"] (AJ K (Ey ⟨CK1,CK5,CK3,CK2,CK4,CK0⟩ (j+1))):=by
 refine Bf (k:=14+8*j) Fn Os (λds O R h=>?_) (λcdv A outer s H E ds O R hr h=>?_)
 ·obtain ⟨_,_,_,_,_,_,_,_,rfl,_⟩:=h; rfl
 ·obtain ⟨q0,n,m,s,hs,hd,ch,said,rfl,hT,hk,hj,hm,h0,hsd,hR⟩:=h
  have hl:=hk.to.2.2.1
  have hz:(List.range hs.length).length<=sizeLine:=by rw [sizeLine_eq,List.length_range]; omega
  have hv:∀ i∈List.range hs.length,Ay ⟨CK1,CK5,CK3,CK2,CK4,CK0⟩ O (hs.getD i (.p .h)) (q0+1+AA (hs.take i)) m s/\AS n (hs.getD i (.p .h)) m s/\AX (hs.getD i (.p .h))<=j:=λi hi=>by
   have hi:=List.mem_range.mp hi
   have e:hs[i]?=some (hs.getD i (.p .h)):=by rw [List.getD_eq_getElem?_getD,List.getElem?_eq_getElem hi]; rfl
   exact ⟨(Hr _ _).mp hT.to.2.1 i _ e,(Hq _).mp hk.to.1 _ (List.mem_of_getElem? e),(Gc hj).1 _ (List.mem_of_getElem? e)⟩
  refine Ac (AG (Ae.ev (Ck T.xt (Ab (Cy (λi:Nat=>.int (Bv (hs.getD i (.p .h)) m said)) ["hand"] ["said"] [1] (Cq (As (Aa 0) hT.to.1 T.ld.cls T.lj (JD _ _ _ _ _ _)) wB) hz (by exact λq hq s H fp=>⟨[some _],rfl,(AZ 0 (show List.Nodup (["hand","said"]:List Str) by decide +kernel)),⟨_,rfl,(IN (C:=⟨CK1,CK5,CK3,CK2,CK4,CK0⟩) jh je jf ji (hr.mono wF) jk (hr.mono wF) kf (hr.mono wF) (Aa 0) (hv q hq).1 (hv q hq).2.1 (hv q hq).2.2 hm h0 hsd (Ab (Aa 1) Af))⟩⟩)) Af) (CD (by first | exact Or.inr rfl | exact Or.inl (Or.inl rfl) | exact Or.inl (Or.inr (Or.inl rfl)) | exact Or.inl (Or.inr (Or.inr ⟨_,rfl,by first | assumption | rfl⟩))))) ?_))
  have e:((List.range hs.length).map λi:Nat=>D.int (Bv (hs.getD i (.p .h)) m said))=(B5 hs m said).map D.int:=by
   rw [OA,List.map_map]
   refine Eq.trans ?_ (congrArg (List.map (D.int ∘ λx=>Bv x m said)) (ON hs (.p .h)))
   rw [List.map_map]
   rfl
  rw [e]
  exact hR
theorem Wp (Fn:Av K "say" "Tier.say" HX f fd):AF P w K mg base AL 9 f fd ["self","said"] (AJ K (Dz ⟨CK1,CK5,CK3,CK2,CK4,CK0⟩ 0)):=Bf (k:=8) Fn Oq (λds O R h=>(ND h).elim) (λcdv A outer s H E ds O R hr h=>(ND h).elim)
theorem O8 {j:Nat} (Fn:Av K "say" "Tier.say" HX f fd)  (jn:Ak P w K mg base 4 "check_said" (Au HM)) (zi:Al P w K mg base CK4 (14+8*j+1) "ask" (Ey ⟨CK1,CK5,CK3,CK2,CK4,CK0⟩ (j+1))) (jh:Al P w K mg base CK1 6 "say" (BG CK1 CK5 CK3 CK2)) (je:Al P w K mg base CK5 6 "say" (BG CK1 CK5 CK3 CK2)) (jf:Al P w K mg base CK3 6 "say" (BG CK1 CK5 CK3 CK2)) (ji:Al P w K mg base CK2 6 "say" (BG CK1 CK5 CK3 CK2)) (jk:Al P w K mg base CK0 5 "say" (EQ CK0)) (kf:Al P w K mg base CK4 (8+8*j+1) "say" (Dz ⟨CK1,CK5,CK3,CK2,CK4,CK0⟩ j)):AF P w K mg base AL (16+8*j+1) f fd ["self","said"] (AJ K (Dz ⟨CK1,CK5,CK3,CK2,CK4,CK0⟩ (j+1))):=by
 refine Bf (k:=16+8*j) Fn Oq (λds O R h=>?_) (λcdv A outer s H E ds O R hr h=>?_)
 ·obtain ⟨_,_,_,_,_,_,_,_,rfl,_⟩:=h; rfl
 ·obtain ⟨q,n,m,s,hs,hd,ch,said,rfl,hT,hk,hj,hm,h0,hsd,hR⟩:=h
  refine Ac (Bb (Ae.ev (AD jn (hr.mono wF) (Ab (As (Aa 0) hT.to.1 T.ld.cls T.lg (JB _ _ _ _ _)) (Ab (As (Aa 0) hT.to.1 T.ld.cls T.lh (JA _ _ _ _ _)) (Ab (Aa 1) Af))) ⟨_,_,_,rfl,by assumption,rfl⟩) ?_))
  have hl:=hk.to.2.2.1
  have hak:=GI hs m s said hk.to.1 hsd h0 hl.2
  refine Ac (AG (Ae.ev (IN (C:=⟨CK1,CK5,CK3,CK2,CK4,CK0⟩) jh je jf ji (hr.mono wF) jk (hr.mono wF) kf (hr.mono wF) (As (Aa 0) hT.to.1 T.ld.cls T.ll (JC _ _ _ _ _)) hT.to.2.2 hk.to.2.1 (Gc hj).2 hl h0 hak (Ab (Ae.cast (Ev.evp (CP zi (hr.mono wF) (Aa 0) hT.to.1 (Gr _ _ _ _ _ wD) (Ab (Aa 1) Af) ⟨q,n,m,s,hs,hd,ch,said,rfl,hT,hk,hj,hm,h0,hsd,rfl,rfl⟩)) (congrArg D.tup (QY _).symm)) Af)) ?_))
  rw [show Bv hd hs.length (DX (B5 hs m said))=Bv (.t hs hd ch) m said by simp only [Bv]]
  exact hR
theorem Wq (Fn:Av K "hear" "Tier.hear" HY f fd):AF P w K mg base AL 10 f fd ["self","said","so"] (AJ K (DJ ⟨CK1,CK5,CK3,CK2,CK4,CK0⟩ 0)):=Bf (k:=9) Fn HW (λds O R h=>(NT h).elim) (λcdv A outer s H E ds O R hr h=>(NT h).elim)
theorem O9 {j:Nat} (Fn:Av K "hear" "Tier.hear" HY f fd)  (jb:Ak P w K mg base 5 "check_turn" (Au ES)) (jg:Ak P w K mg base 1 "charge" (Au FH)) (zi:Al P w K mg base CK4 (14+8*j+1) "ask" (Ey ⟨CK1,CK5,CK3,CK2,CK4,CK0⟩ (j+1))) (jo:Al P w K mg base CK1 6 "hear" (FF CK1)) (jp:Al P w K mg base CK5 8 "hear" (C8 CK5 CK3 false)) (jq:Al P w K mg base CK3 8 "hear" (C8 CK5 CK3 true)) (jr:Al P w K mg base CK2 6 "hear" (FE CK2)) (jt:Al P w K mg base CK0 6 "hear" (FG CK0)) (kg:Al P w K mg base CK4 (9+8*j+1) "hear" (DJ ⟨CK1,CK5,CK3,CK2,CK4,CK0⟩ j)):AF P w K mg base AL (17+8*j+1) f fd ["self","said","so"] (AJ K (DJ ⟨CK1,CK5,CK3,CK2,CK4,CK0⟩ (j+1))):=by
 refine Bf (k:=17+8*j) Fn HW (λds O R h=>?_) (λcdv A outer s H E ds O R hr h=>?_)
 ·obtain ⟨_,_,_,_,_,_,_,_,_,rfl,_⟩:=h; rfl
 ·obtain ⟨q0,n,m,s,so,hs,hd,ch,said,rfl,hT,hk,hj,hn,hm,hsd,hso,hR⟩:=h
  have h0:0<=s:=by omega
  have hl:=hk.to.2.2.1
  have hak:=GI hs m s said hk.to.1 hsd h0 hl.2
  refine Ac (Bb (Ae.ev (AD jb (hr.mono wF) (Ab (As (Aa 0) hT.to.1 T.ld.cls T.lg (JB _ _ _ _ _)) (Ab (As (Aa 0) hT.to.1 T.ld.cls T.lh (JA _ _ _ _ _)) (Ab (Aa 1) (Ab (Aa 2) Af)))) ⟨_,_,_,_,rfl,by assumption,by assumption,rfl⟩) ?_))
  refine Ac (AW 3 (Ae.ev (Ev.evp (CP zi (hr.mono wF) (Aa 0) hT.to.1 (Gr _ _ _ _ _ wD) (Ab (Aa 1) Af) ⟨q0,n,m,s,hs,hd,ch,said,rfl,hT,hk,hj,hm,h0,hsd,rfl,rfl⟩)) ?_) HW.nd)
  have esz:AO (.t hs hd ch)=1+AA hs+AO hd:=by simp only [AO]
  rw [esz] at hR
  refine Ac (Bb (G8 (C:=⟨CK1,CK5,CK3,CK2,CK4,CK0⟩) jo jp jq jr (hr.mono wF) (hr.mono wF) (hr.mono wF) jt (hr.mono wF) kg (hr.mono wF) (As (Aa 0) hT.to.1 T.ld.cls T.ll (JC _ _ _ _ _)) hT.to.2.2 hk.to.2.1 (Gc hj).2 hn hl hak hso (Ab (Ae.cast (Aa 3) (congrArg D.tup (QY _).symm)) (Ab (Aa 2) Af)) λO1 c1 i2=>?_))
  have b1:Dv q0 (1+AA hs+AO hd) O O1:=(Dv.rf _ _ _).in c1 wF wF
  have hps:=GD hd
  have i1:O1[q0]?=some (some (.ins CK4 (BQ (m:Nat) s (BR hs (q0+1)) (q0+1+AA hs) ch))):=by rw [c1.o q0 wF]; exact hT.to.1
  have i3:∀ k v,hs[k]?=some v->Ay ⟨CK1,CK5,CK3,CK2,CK4,CK0⟩ O1 v (q0+1+AA (hs.take k)) m s:=λk v hv=>((Hr _ _).mp hT.to.2.1 k v hv).own λa h1 h2=>c1.o a (by have:=Oe hs (k+1); rw [HQ hv] at this; omega)
  have hasl:(B5 hs m said).length=hs.length:=IB ..
  refine Ac (Dw (Cq (As (Aa 0) i1 T.ld.cls T.lj (JD _ _ _ _ _ _)) wB) (λi ρ O'=>(∃ v:Option D,ρ=[some (.ptr q0),some (.tup (said.map od)),some (.int so),some (.tup ((B5 hs m said).map D.int)),v])/\Dv q0 (1+AA hs+AO hd) O O'/\O'[q0]?=some (some (.ins CK4 (BQ (m:Nat) s (BR hs (q0+1)) (q0+1+AA hs) ch)))/\Ay ⟨CK1,CK5,CK3,CK2,CK4,CK0⟩ O' (A2 hd hs.length (DX (B5 hs m said)) so) (q0+1+AA hs) hs.length s/\∀ k v,hs[k]?=some v->Ay ⟨CK1,CK5,CK3,CK2,CK4,CK0⟩ O' (if k<i then A2 v m said so else v) (q0+1+AA (hs.take k)) m s) ⟨⟨_,rfl⟩,b1,i1,i2,λk v hv=>by rw [if_neg (Nat.not_lt_zero _)]; exact i3 k v hv⟩ ?_ ?_)
  ·clear i1 i2 i3 b1 c1
   rintro i z ρ O' hz ⟨⟨v4,rfl⟩,bk,j1,j2,j3⟩
   rw [List.getElem?_map] at hz
   obtain ⟨i',hi',rfl⟩:=Option.map_eq_some_iff.mp hz
   have hil:i<hs.length:=by have:=(List.getElem?_eq_some_iff.mp hi').1; rw [List.length_range] at this; exact this
   rw [List.getElem?_range hil] at hi'
   cases hi'
   obtain ⟨v,hv⟩:∃ v,hs[i]?=some v:=⟨_,List.getElem?_eq_getElem hil⟩
   have jv:=j3 i v hv
   rw [if_neg (Nat.lt_irrefl _)] at jv
   have sv:=Oe hs (i+1)
   rw [HQ hv] at sv
   refine ⟨_,AZ 4 HW.nd,?_⟩
   refine Ac (Bb (G8 (C:=⟨CK1,CK5,CK3,CK2,CK4,CK0⟩) jo jp jq jr (hr.mono wF) (hr.mono wF) (hr.mono wF) jt (hr.mono wF) kg (hr.mono wF) (Aa 4) jv ((Hq _).mp hk.to.1 v (List.mem_of_getElem? hv)) ((Gc hj).1 v (List.mem_of_getElem? hv)) hn hm hsd hso (Ab (Aa 1) (Ab (Aa 2) Af)) λO2 c2 d2=>?_))
   refine Aq ⟨⟨_,rfl⟩,bk.in c2 wF wF,by rw [c2.o q0 wF]; exact j1,j2.own λa h1 h2=>c2.o a wF,λk w hw=>?_⟩
   by_cases hki:k=i
   ·subst hki
    rw [hv] at hw
    cases hw
    rw [if_pos (Nat.lt_succ_self _)]
    exact d2
   ·have e:(if k<i+1 then A2 w m said so else w)=if k<i then A2 w m said so else w:=by
     by_cases h1:k<i
     ·rw [if_pos h1,if_pos wF]
     ·rw [if_neg h1,if_neg wF]
    rw [e]
    have ew:AO (if k<i then A2 w m said so else w)=AO w:=by split; exact ET ..; rfl
    refine (j3 k w hw).own λa h1 h2=>c2.o a ?_
    rw [ew] at h2
    by_cases h3:k<i
    ·have:=Oc hs (show k+1<=i by omega)
     rw [HQ hw] at this
     omega
    ·have:=Oc hs (show i+1<=k by omega)
     rw [HQ hv] at this
     omega
  ·clear i1 i2 i3 b1 c1
   rintro ρ O' ⟨⟨v4,rfl⟩,bk,j1,j2,j3⟩
   rw [List.length_map,List.length_range] at j3
   have hzl:(ch.zip (B5 hs m said)).length<=63:=by rw [List.length_zip,hasl]; omega
   refine Ac (B0 (Ck T.xt (Ab (Cy (λx:Int×Int=>.int (x.1+ab (x.2-so))) ["charged","saying"] ["so"] [2] (Hc (GZ (As (Aa 0) j1 T.ld.cls T.lm (RZ _ _ _ _ _)) (Aa 3) wB wB T.xx)) (by rw [sizeLine_eq]; omega) (by exact λq hq s H fp=>⟨[some _,some _],rfl,(Eu (CJ (AZ 0 (show List.Nodup (["charged","saying","so"]:List Str) by decide +kernel)) (CJ (AZ 1 (show List.Nodup (["charged","saying","so"]:List Str) by decide +kernel)) Et))),⟨_,rfl,(Ai (Aa 0) (AD jg (hr.mono wF) (Ab (Aa 1) (Ab (Aa 2) Af)) ⟨some q.2,so,rfl,rfl⟩) Bl)⟩⟩)) Af) (CD (by first | exact Or.inr rfl | exact Or.inl (Or.inl rfl) | exact Or.inl (Or.inr (Or.inl rfl)) | exact Or.inl (Or.inr (Or.inr ⟨_,rfl,by first | assumption | rfl⟩))))) (Aa 0) j1 T.ld.cls T.lm (by show 5<1000; decide) ?_)
   have e1:((ch.zip (B5 hs m said)).map λx:Int×Int=>D.int (x.1+ab (x.2-so)))=((ch.zip (B5 hs m said)).map λx=>x.1+ab (x.2-so)).map D.int:=by
    rw [List.map_map]
    rfl
   rw [e1,RW]
   have own:∀ (x:Hn) (p r:Nat) (Y:Option MO),q0<p->Ay ⟨CK1,CK5,CK3,CK2,CK4,CK0⟩ O' x p r s->Ay ⟨CK1,CK5,CK3,CK2,CK4,CK0⟩ (O'.set q0 Y) x p r s:=λx p r Y hp h=>h.own λa h1 h2=>List.getElem?_set_ne wF
   refine Aq (hR _ ⟨(List.length_set ..).trans bk.l,λa ha=>by rw [List.getElem?_set_ne wF]; exact bk.o a ha⟩ ?_)
   rw [show A2 (.t hs hd ch) m said so=.t (Ce hs m said so) (A2 hd hs.length (DX (B5 hs m said)) so) ((ch.zip (B5 hs m said)).map λx=>x.1+ab (x.2-so)) by simp only [A2]]
   have eo:∀ p,BR (Ce hs m said so) p=BR hs p:=λp=>Pf _ _ p (by rw [GX,List.map_map]; exact List.map_congr_left λx _=>ET x m said so)
   refine Ay.ti ⟨?_,(Hr _ _).mpr λi x hx=>?_,?_⟩
   ·rw [eo,GE]; exact Cb j1
   ·rw [GX,List.getElem?_map] at hx
    obtain ⟨w,hw,rfl⟩:=Option.map_eq_some_iff.mp hx
    have hi:=(List.getElem?_eq_some_iff.mp hw).1
    have:=j3 i w hw
    rw [if_pos hi] at this
    rw [GX,<- List.map_take,<- GX,GE]
    exact own _ _ _ _ wF this
   ·rw [GE,IC]; exact own _ _ _ _ wF j2
theorem Ws (Fn:Av K "anew" "Tier.anew" H0 f fd):AF P w K mg base AL 12 f fd ["self"] (AJ K (DK ⟨CK1,CK5,CK3,CK2,CK4,CK0⟩ 0)):=Bf (k:=11) Fn Ot (λds O R h=>(N3 h).elim) (λcdv A outer s H E ds O R hr h=>(N3 h).elim)
theorem Pb {j:Nat} (Fn:Av K "anew" "Tier.anew" H0 f fd)  (gc:CI P w K mg base CK4 (17+8*j+1) "Tier" (D5 ⟨CK1,CK5,CK3,CK2,CK4,CK0⟩ (j+1))):AF P w K mg base AL (19+8*j+1) f fd ["self"] (AJ K (DK ⟨CK1,CK5,CK3,CK2,CK4,CK0⟩ (j+1))):=by
 refine Bf (k:=19+8*j) Fn Ot (λds O R h=>?_) (λcdv A outer s H E ds O R hr h=>?_)
 ·obtain ⟨_,_,_,_,_,_,_,rfl,_⟩:=h; rfl
 ·obtain ⟨q,n,m,s,hs,hd,ch,rfl,hT,hk,hj,hm,hs1,hR⟩:=h
  have hl:=hk.to.2.2.1
  have hpl:((List.range hs.length).map λi=>(q+1+AA (hs.take i),hs.getD i (Hn.p .h))).length=hs.length:=by rw [List.length_map,List.length_range]
  have hp2:((List.range hs.length).map λi=>(q+1+AA (hs.take i),hs.getD i (Hn.p .h))).map (·.2)=hs:=by rw [List.map_map]; exact ON hs (.p .h)
  have hp1:((List.range hs.length).map λi=>(q+1+AA (hs.take i),hs.getD i (Hn.p .h))).map (λx=>D.ptr x.1)=(List.range hs.length).map λi=>D.ptr (q+1+AA (hs.take i)):=by rw [List.map_map]; rfl
  have hPv:Cf ⟨CK1,CK5,CK3,CK2,CK4,CK0⟩ O m s (j+1) ((List.range hs.length).map λi=>(q+1+AA (hs.take i),hs.getD i (Hn.p .h))):=λx hx=>by
   obtain ⟨i,hi,rfl⟩:=List.mem_map.mp hx
   have hi:=List.mem_range.mp hi
   have e:hs[i]?=some (hs.getD i (.p .h)):=by rw [List.getD_eq_getElem?_getD,List.getElem?_eq_getElem hi]; rfl
   exact ⟨(Hr _ _).mp hT.to.2.1 i _ e,⟨n,(Hq _).mp hk.to.1 _ (List.mem_of_getElem? e)⟩,Nat.lt_succ_of_le ((Gc hj).1 _ (List.mem_of_getElem? e))⟩
  generalize ((List.range hs.length).map λi=>(q+1+AA (hs.take i),hs.getD i (Hn.p .h)))=pv at hpl hp2 hp1 hPv
  refine Ac (AG (DD gc (hr.mono wF) (Ab (As (Aa 0) hT.to.1 T.ld.cls T.lj (JD _ _ _ _ _ _)) (Ab (As (Aa 0) hT.to.1 T.ld.cls T.ll (JC _ _ _ _ _)) Af)) ⟨O.length,m,s,pv,q+1+AA hs,hd,O,by rw [hp1],rfl,rfl,hPv,λx hx=>?_,hm,hs1,by rw [hpl]; exact hl,rfl,?_⟩))
  ·rw [List.mem_singleton.mp hx,hpl]; exact ⟨hT.to.2.2,⟨n,hk.to.2.1⟩,Nat.lt_succ_of_le (Gc hj).2⟩
  ·rw [hp2]; exact hR
theorem WI (Fn:Av K "scores" "Follower.scores" Le f fd)  : AF P w K mg base AL 1 f fd ["self"] (AJ K (NB CK0)):=by
 refine Bf (k:=0) Fn TX (λds O R h=>?_) (λcdv A outer s H E ds O R hr h=>?_)
 ·obtain ⟨_,_,_,_,_,rfl,_⟩:=h; rfl
 ·obtain ⟨q,m,s,ps,sc,rfl,hq,hR⟩:=h
  exact Ac (AG (Ae.ev (As (Aa 0) hq T.ft.cls T.lb (L0 m s ps sc)) hR))
theorem VV (Fn:Av K "_law_cell_at" "_law_cell_at" Kv f fd) (hm:mg "_law_cell_at" = some (.ref f)) (hb:Binds K fd ["_law_script","_law_k"] []):Ak P w K mg base 1 "_law_cell_at" (Au JV):=by
 refine A1 (k:=0) Fn S7 hm hb (λds O R h=>?_) (λcdv A outer s H E ds O R hr h=>?_)
 ·obtain ⟨_,⟨_,_,rfl,_⟩,_⟩:=h; rfl
 ·obtain ⟨d,⟨ns,k,rfl,hk0,rfl⟩,hR⟩:=h
  refine Ac (AT (AM (Aa 1) (A8 T.xr (Ab (Aa 0) Af) (C4 (by first | exact Or.inr rfl | exact Or.inl (Or.inl rfl) | exact Or.inl (Or.inr (Or.inl rfl)) | exact Or.inl (Or.inr (Or.inr ⟨_,rfl,by first | assumption | rfl⟩))))) Ge) (λhk=>?_) (λhk=>?_))
  ·have hk:=of_decide_eq_true hk
   rw [List.length_map] at hk
   have hi:k.toNat<ns.length:=by omega
   have hz:BO (ns.map D.int) k=some (.int ns[k.toNat]):=QW hk0 (List.getElem?_eq_getElem hi)
   refine Ac (AG (Ae.ev (Fg (Aa 0) (by first | exact Or.inl rfl | exact Or.inr (Or.inl rfl) | exact Or.inr (Or.inr ⟨_,rfl,by first | assumption | rfl⟩)) (Aa 1) hz) ?_))
   unfold Dh at hR
   rw [List.getElem?_eq_getElem hi] at hR
   exact hR
  ·have hk:=of_decide_eq_false hk
   rw [List.length_map] at hk
   refine Aq ?_
   refine Ac (AG (Ae.ev Ag ?_))
   unfold Dh at hR
   rw [List.getElem?_eq_none wF] at hR
   exact hR
theorem VR (Fn:Av K "_law_next" "_law_next" Kr f fd) (hm:mg "_law_next" = some (.ref f)) (hb:Binds K fd ["_law_x"] []):Ak P w K mg base 1 "_law_next" (Au ER):=by
 refine A1 (k:=0) Fn S5 hm hb (λds O R h=>?_) (λcdv A outer s H E ds O R hr h=>?_)
 ·obtain ⟨_,⟨_,rfl,_⟩,_⟩:=h; rfl
 ·obtain ⟨d,⟨x,rfl,hx,rfl⟩,hR⟩:=h
  have m1:IntMulOk x x:=Ec (m:=40) (n:=40) hx.1 wF hx.1 wF
  have m2:IntMulOk 48271 x:=Ec (m:=20) (n:=40) wE wE hx.1 wF
  exact Ac (AG (Ae.ev (Ai (Ai (Ai (Ai (Aa 0) (Aa 0) (BH m1)) (Ai Ag (Aa 0) (BH m2)) Bl) Ag Bl) Ag (Bh wC)) hR))
theorem VN (Fn:Av K "_law_seed" "_law_seed" Km f fd) (hm:mg "_law_seed" = some (.ref f)) (hb:Binds K fd ["_law_cell","_law_k"] []) (ja:Ak P w K mg base 1 "_law_next" (Au ER)):Ak P w K mg base 2 "_law_seed" (Au JO):=by
 refine A1 (k:=1) Fn S3 hm hb (λds O R h=>?_) (λcdv A outer s H E ds O R hr h=>?_)
 ·obtain ⟨_,⟨_,_,rfl,_⟩,_⟩:=h; rfl
 ·obtain ⟨d,⟨c,k,rfl,hk,rfl⟩,hR⟩:=h
  have m1:IntMulOk 69621 k:=Ec (m:=20) (n:=40) wE wE hk.1 wF
  have m2:IntMulOk (69621*k) k:=Ec (m:=40) (n:=40) wF wF hk.1 wF
  have h1:0<=(c%2147483647+69621*k*k+5)%2147483647/\(c%2147483647+69621*k*k+5)%2147483647<3000000000:=by omega
  have h2:0<=BS ((c%2147483647+69621*k*k+5)%2147483647)/\BS ((c%2147483647+69621*k*k+5)%2147483647)<3000000000:=by
   have:=Fa ((c%2147483647+69621*k*k+5)%2147483647)
   unfold Lo at this
   omega
  exact Ac (AG (Ae.ev (AD ja (hr.mono wE) (Ab (AD ja (hr.mono wE) (Ab (Ai (Ai (Ai (Ai (Aa 0) Ag (Bh wC)) (Ai (Ai Ag (Aa 1) (BH m1)) (Aa 1) (BH m2)) Bl) Ag Bl) Ag (Bh wC)) Af) ⟨_,rfl,h1,rfl⟩) Af) ⟨_,rfl,h2,rfl⟩) hR))
theorem VP (Fn:Av K "_law_said" "_law_said" Ko f fd) (hm:mg "_law_said" = some (.ref f)) (hb:Binds K fd ["_law_x","_law_many","_law_scale_here","_law_sleepy"] []) (ja:Ak P w K mg base 1 "_law_next" (Au ER)):Ak P w K mg base 2 "_law_said" (Au NE):=by
 refine A1 (k:=1) Fn EX hm hb (λds O R h=>?_) (λcdv A outer s H E ds O R hr h=>?_)
 ·obtain ⟨_,⟨_,_,_,_,rfl,_⟩,_⟩:=h; rfl
 ·obtain ⟨d,⟨x,m,s,sl,rfl,hx,hm,hs,rfl⟩,hR⟩:=h
  refine Jq ?_
  refine Ac (AW 4 (G6 Af ?_) EX.nd)
  refine Ac (Dw (Ek (Aa 1) T.xz wC wC) (λi ρ O'=>∃ (L:List (Option Int)) (y:Int) (u v:Option D),ρ=[some (.int y),some (.int (m:Nat)),some (.int s),some (.bl sl),some (.ptr O.length),u,v]/\O'=O++[some (.lst (L.map od))]/\L.length=i/\Lo y/\CN s sl m 0 x=L++CN s sl (m-i) i y) ⟨[],x,_,_,rfl,rfl,rfl,hx,rfl⟩ ?_ ?_)
  ·rintro i z ρ O' hz ⟨L,y,u,v,rfl,rfl,hL,hy,hrun⟩
   obtain ⟨hi,rfl⟩:=GP hz
   have hi:i<m:=by omega
   refine ⟨_,AZ 5 EX.nd,?_⟩
   have hy':0<=y+(0+((i:Nat):Int))/\y+(0+((i:Nat):Int))<3000000000:=by have:=hy.1; have:=hy.2; omega
   refine Ac (AW 0 (Ae.ev (AD ja (hr.mono wE) (Ab (Ai (Aa 0) (Aa 5) Bl) Af) ⟨_,rfl,hy',rfl⟩) ?_) EX.nd)
   rw [show m-i=(m-(i+1))+1 by omega] at hrun
   have hrun:CN s sl m 0 x=L++(Es s sl (BS (y+(i:Int)))::CN s sl (m-(i+1)) (i+1) (BS (y+(i:Int)))):=hrun
   rw [show y+(0+((i:Nat):Int))=y+((i:Nat):Int) by omega]
   have hlo:=Fa (y+((i:Nat):Int))
   generalize BS (y+((i:Nat):Int))=n at hrun hlo
   refine Ac (AW 6 (Ae.ev (Ai (Ai (Aa 0) Ag (B6 ⟨wC,wC⟩)) (Ai (Aa 2) Ag Bl) (Bh wF)) ?_) EX.nd)
   refine HC (λρ' O2=>ρ'=[some (.int n),some (.int (m:Nat)),some (.int s),some (.bl sl),some (.ptr O.length),some (.int (0+(i:Nat))),some (.int (if n/4%3=0 then (if n/12%2=0 then 0 else s) else n/12%(s+1)))]/\O2=O++[some (.lst (L.map od))]) (AT (AM (Ai (Ai (Aa 0) Ag (B6 ⟨wC,wC⟩)) Ag (Bh wC)) Ag A5) (λhk=>?_) (λhk=>?_)) ?_
   ·have hk:=of_decide_eq_true hk
    refine Ac (AW 6 (Ae.ev (Fg (L4 (Ab Ag (Ab (Aa 2) Af))) (by first | exact Or.inl rfl | exact Or.inr (Or.inl rfl) | exact Or.inr (Or.inr ⟨_,rfl,by first | assumption | rfl⟩)) (Ai (Ai (Aa 0) Ag (B6 ⟨wC,wC⟩)) Ag (Bh wC)) (M7 wF)) ?_) EX.nd)
    exact Aq ⟨by rw [if_pos hk]; rfl,rfl⟩
   ·have hk:=of_decide_eq_false hk
    exact Aq ⟨by rw [if_neg hk]; rfl,rfl⟩
   rintro _ _ ⟨rfl,rfl⟩
   have hw:Es s sl n=if (sl&&decide (n%4=0))=true then none else some (if n/4%3=0 then (if n/12%2=0 then 0 else s) else n/12%(s+1)):=rfl
   generalize (if n/4%3=0 then (if n/12%2=0 then 0 else s) else n/12%(s+1))=z at hw
   refine HC (λρ' O2=>ρ'=[some (.int n),some (.int (m:Nat)),some (.int s),some (.bl sl),some (.ptr O.length),some (.int (0+(i:Nat))),some (od (Es s sl n))]/\O2=O++[some (.lst (L.map od))]) (AT (BB.t (Ei (Cz (Aa 3)) (λhbb=>(EF (AM (Ai (Aa 0) Ag (Bh wC)) Ag A5))))) (λhk=>?_) (λhk=>?_)) ?_
   ·refine Ac (AW 6 (Ae.ev Dd ?_) EX.nd)
    exact Aq ⟨by rw [hw,if_pos hk]; rfl,rfl⟩
   ·exact Aq ⟨by rw [hw,if_neg (by rw [hk]; exact Bool.false_ne_true)]; rfl,rfl⟩
   rintro _ _ ⟨rfl,rfl⟩
   refine Ac (MQ (Aa 4) Br (Aa 6) (by rw [sizeLine_eq,List.length_map]; omega) ?_)
   rw [CV]
   exact Aq ⟨L++[Es s sl n],_,_,_,rfl,by rw [List.map_append]; rfl,by rw [List.length_append,hL]; rfl,hlo,by rw [hrun,List.append_assoc]; rfl⟩
  ·rintro ρ O' ⟨L,y,u,v,rfl,rfl,hL,hy,hrun⟩
   rw [DN,Int.toNat_natCast,Nat.sub_self] at hrun
   have e:CN s sl m 0 x=L:=by rw [hrun]; exact List.append_nil _
   rw [e] at hR
   have q0:(O++[some (MO.lst (L.map od))])[O.length]?=some (some (.lst (L.map od))):=Br
   refine Ac (AG (Ae.ev (Ck T.xt (Ab (Aa 4) Af) (CD (by first | exact Or.inr rfl | exact Or.inl (Or.inl rfl) | exact Or.inl (Or.inr (Or.inl rfl)) | exact Or.inl (Or.inr (Or.inr ⟨_,rfl,by first | assumption | rfl⟩))))) ?_))
   exact ⟨⟨_,rfl⟩,LA Pi _,hR⟩
theorem VI (Fn:Av K "_law_turn" "_law_turn" Ki f fd) (hm:mg "_law_turn" = some (.ref f)) (hb:Binds K fd ["_law_x","_law_many","_law_scale_here","_law_sleepy"] []) (zj:Ak P w K mg base 2 "_law_said" (Au NE)) (ja:Ak P w K mg base 1 "_law_next" (Au ER)):Ak P w K mg base 3 "_law_turn" (Au Nv):=by
 refine A1 (k:=2) Fn FS hm hb (λds O R h=>?_) (λcdv A outer s H E ds O R hr h=>?_)
 ·obtain ⟨_,⟨_,_,_,_,rfl,_⟩,_⟩:=h; rfl
 ·obtain ⟨d,⟨x,m,s,sl,rfl,hx,hm,hs,rfl⟩,hR⟩:=h
  refine Ac (AW 4 (Ae.ev (AD zj (hr.mono wE) (Ab (Aa 0) (Ab (Aa 1) (Ab (Aa 2) (Ab (Aa 3) Af)))) ⟨_,_,_,_,rfl,by assumption,by assumption,by assumption,rfl⟩) ?_) FS.nd)
  have hx7:0<=x+7/\x+7<3000000000:=by have:=hx.1; have:=hx.2; omega
  refine Ac (AW 0 (Ae.ev (AD ja (hr.mono wE) (Ab (Ai (Aa 0) Ag Bl) Af) ⟨_,rfl,hx7,rfl⟩) ?_) FS.nd)
  unfold HG at hR
  have hrl:=Lj s sl m 0 x
  generalize CN s sl m 0 x=said at hR hrl
  generalize BS (x+7)=y at hR
  refine Ac (AW 5 (Ae.ev (Ai (Ai (Aa 0) Ag (B6 ⟨wC,wC⟩)) (Ai (Aa 2) Ag Bl) (Bh wF)) ?_) FS.nd)
  refine Ac (MM 6 (λw:Option Int=>if (!Cv (od w))=true then some (od w) else none) ["_law_what"] [] [] (Cq (Aa 4) wB) (by rw [sizeLine_eq]; omega) (by exact λq hq s H fp=>⟨[some _],rfl,(AZ 0 (show List.Nodup (["_law_what"]:List Str) by decide +kernel)),⟨_,(AM (Aa 0) Dd IY),λhbb=>⟨_,if_pos hbb,(Aa 0)⟩,λhbb=>if_neg (λhcc=>Bool.false_ne_true (hbb.symm.trans hcc))⟩⟩) ?_ FS.nd)
  rw [JX]
  have hsl:=SH said
  generalize hsom:FL said=som at hR hsl
  unfold GA at hR
  refine HC (λρ' O'=>ρ'=[some (.int y),some (.int (m:Nat)),some (.int s),some (.bl sl),some (.tup (said.map od)),some (.int (if (decide (y%4<2)&&!decide (som=[]))=true then som.getD (y/8%(som.length:Nat)).toNat 0 else y/8%(s+1))),some (.lst (som.map D.int))]/\O'=O) (AT (BB.t (Ei (AM (Ai (Aa 0) Ag (Bh wC)) Ag Ge) (λhbb=>(EF (AM (Aa 6) (L4 Af) (QF hr (by first | exact Or.inr ⟨_,_,rfl,by first | assumption | rfl,rfl⟩ | exact Or.inl rfl) (by first | exact Or.inr ⟨_,_,rfl,by first | assumption | rfl,rfl⟩ | exact Or.inl rfl) (by first | rfl | exact Lx _ | exact Lw (λ_ _=>rfl) | assumption) (by first | rfl | exact Lx _ | exact Lw (λ_ _=>rfl) | assumption) (by first | exact Nat.le_trans (Nat.min_le_right _ _) wE | exact Nat.le_trans (Nat.min_le_left _ _) wE | exact Nat.le_trans (Nat.min_le_left _ _) (Nat.le_trans (Nat.succ_le_succ (Qq _)) wE)))))))) (λhk=>?_) (λhk=>?_)) ?_
  ·rw [Qn] at hk
   have hk2:=hk
   rw [Bool.and_eq_true,Bool.not_eq_true',decide_eq_false_iff_not] at hk2
   have h5:(0:Int)<((som.map D.int).length:Nat):=by rw [List.length_map]; have:=List.length_pos_iff.mpr hk2.2; omega
   have hz:BO (som.map D.int) (y/8%((som.map D.int).length:Nat))=some (.int (som.getD (y/8%(som.length:Nat)).toNat 0)):=by
    rw [List.length_map]
    have hx:=N5 y hk2.2
    refine QW hx.1 ?_
    rw [List.getElem?_eq_getElem hx.2,List.getD_eq_getElem?_getD,List.getElem?_eq_getElem hx.2]
    rfl
   refine Ac (AW 5 (Ae.ev (Fg (Aa 6) (by first | exact Or.inl rfl | exact Or.inr (Or.inl rfl) | exact Or.inr (Or.inr ⟨_,rfl,by first | assumption | rfl⟩)) (Ai (Ai (Aa 0) Ag (B6 ⟨wC,wC⟩)) (A8 T.xr (Ab (Aa 6) Af) (C4 (by first | exact Or.inr rfl | exact Or.inl (Or.inl rfl) | exact Or.inl (Or.inr (Or.inl rfl)) | exact Or.inl (Or.inr (Or.inr ⟨_,rfl,by first | assumption | rfl⟩))))) (Bh h5)) hz) ?_) FS.nd)
   exact Aq ⟨by rw [if_pos hk]; rfl,rfl⟩
  ·rw [Qn] at hk
   exact Aq ⟨by rw [if_neg (by rw [hk]; exact Bool.false_ne_true)]; rfl,rfl⟩
  rintro _ _ ⟨rfl,rfl⟩
  exact Ac (AG (Ae.ev (Dq (Ab (Aa 4) (Ab (Aa 5) Af))) hR))
theorem VM (Fn:Av K "_law_size" "_law_size" Kl f fd) (hm:mg "_law_size" = some (.ref f)) (hb:Binds K fd ["_law_cell"] []):Ak P w K mg base 1 "_law_size" (FV Ij OF):=by
 refine A1 (k:=0) Fn J2 hm hb (λds O R h=>?_) (λcdv A outer s H E ds O R hr h=>?_)
 ·obtain ⟨⟨_,rfl⟩,_⟩:=h; rfl
 ·obtain ⟨⟨c,rfl⟩,hR⟩:=h
  refine Ac (AW 1 (Ae.ev (Ai Ag (Ai (Aa 0) Ag (Bh wC)) Bl) ?_) J2.nd)
  by_cases hk:c/7%8=3
  ·refine Ac (AT (AU.cast (k':=true) (AM (Ai (Ai (Aa 0) Ag (B6 ⟨wC,wC⟩)) Ag (Bh wC)) Ag A5) (decide_eq_true hk)) (λ_=>?_) (λhk=>by cases hk))
   refine Ac (AW 1 (Ae.ev (Ai Ag (Ai (Ai (Aa 0) Ag (B6 ⟨wC,wC⟩)) Ag (Bh wC)) Bl) ?_) J2.nd)
   exact Aq (Ac (AG (Ae.ev (Aa 1) (hR _ ⟨(8+c/56%17).toNat,by congr 1; omega,by omega,by omega⟩))))
  ·refine Ac (AT (AU.cast (k':=false) (AM (Ai (Ai (Aa 0) Ag (B6 ⟨wC,wC⟩)) Ag (Bh wC)) Ag A5) (decide_eq_false hk)) (λhk=>by cases hk) (λ_=>Aq ?_))
   exact Ac (AG (Ae.ev (Aa 1) (hR _ ⟨(2+c%6).toNat,by congr 1; omega,by omega,by omega⟩)))
theorem VO (Fn:Av K "_law_scale" "_law_scale" Kn f fd) (hm:mg "_law_scale" = some (.ref f)) (hb:Binds K fd ["_law_cell"] []):Ak P w K mg base 1 "_law_scale" (FV Ij OG):=by
 refine A1 (k:=0) Fn S4 hm hb (λds O R h=>?_) (λcdv A outer s H E ds O R hr h=>?_)
 ·obtain ⟨⟨_,rfl⟩,_⟩:=h; rfl
 ·obtain ⟨⟨c,rfl⟩,hR⟩:=h
  refine Ac (AG (Ae.ev (Fg (L4 (Ab Ag (Ab (Ai Ag (Ai (Ai (Aa 0) Ag (B6 ⟨wC,wC⟩)) Ag (Bh wC)) Bl) Af))) (by first | exact Or.inl rfl | exact Or.inr (Or.inl rfl) | exact Or.inr (Or.inr ⟨_,rfl,by first | assumption | rfl⟩)) (Ai (Aa 0) Ag (Bh wC)) (M7 wF)) (hR _ ⟨_,rfl,?_⟩)))
  split <;> omega
theorem VQ (Fn:Av K "_law_plain" "_law_plain" Kq f fd) (hm:mg "_law_plain" = some (.ref f)) (hb:Binds K fd ["_law_sort","_law_many","_law_scale_here","_law_x"] []) (ja:Ak P w K mg base 1 "_law_next" (Au ER)) (km:CI P w K mg base CK1 5 "Hand" (Ew (λC=>C=CK1\/C=CK5\/C=CK3\/C=CK2\/C=CK4\/C=CK0))) (ko:CI P w K mg base CK5 6 "Weigher" (Gx CK5 CK3)) (kt:CI P w K mg base CK3 7 "Shifter" (JS CK3)) (kn:CI P w K mg base CK2 6 "Rounder" (JT CK2)) (ku:CI P w K mg base CK0 6 "Follower" (Gy CK0)):Ak P w K mg base 13 "_law_plain" (HL ⟨CK1,CK5,CK3,CK2,CK4,CK0⟩):=by
 refine A1 (k:=12) Fn J3 hm hb (λds O R h=>?_) (λcdv A outer s H E ds O R hr h=>?_)
 ·obtain ⟨_,_,_,_,rfl,_⟩:=h; rfl
 ·obtain ⟨m,so,s,x,rfl,hso,hx,hm,hs,hR⟩:=h
  have hmI:(1:Int)<=(m:Nat)/\((m:Nat):Int)<=24:=⟨by omega,by omega⟩
  refine Ac (AW 4 (Ae.ev (Ai Ag (Ai (Aa 3) Ag (Bh wC)) Bl) ?_) J3.nd)
  have hb:2<=2+x%99/\2+x%99<=100:=by omega
  generalize 2+x%99=b at hb
  have ht0:=Int.emod_nonneg (x/99) (show b≠0 by omega)
  have ht1:=Int.emod_lt_of_pos (x/99) (show 0<b by omega)
  have hf:CL s (x/99%b) b:=⟨hs.1,hs.2,ht0,ht1,by omega⟩
  by_cases h0:so=0
  ·refine Ac (AT (AU.cast (k':=true) (AM (Aa 0) Ag A5) (decide_eq_true h0)) (λ_=>?_) (λhk=>by cases hk))
   refine Ac (AG (DD km (hr.mono wE) (Ab (Aa 1) (Ab (Aa 2) Af)) ⟨O.length,(m:Nat),s,CK1,rfl,.inl rfl,Br,hmI,hs,rfl,?_⟩))
   rw [CV]
   exact hR .h trivial (LL (.inl h0))
  refine Ac (AT (AU.cast (k':=false) (AM (Aa 0) Ag A5) (decide_eq_false h0)) (λhk=>by cases hk) (λ_=>Aq ?_))
  by_cases h1:so=1
  ·refine Ac (AT (AU.cast (k':=true) (AM (Aa 0) Ag A5) (decide_eq_true h1)) (λ_=>?_) (λhk=>by cases hk))
   have hV:C5 false ⟨(m:Nat),s,x/99%b,b,1,7⟩:=⟨hf,hmI.1,hmI.2,λz=>by cases z⟩
   refine Ac (AG (DD ko (hr.mono wE) (Ab (Aa 1) (Ab (Aa 2) (Ab (Ai (Ai (Aa 3) Ag (B6 ⟨wC,wC⟩)) (Aa 4) (Bh wF)) (Ab (Aa 4) Af)))) ⟨O.length,false,⟨(m:Nat),s,x/99%b,b,1,7⟩,rfl,Br,hV,rfl,?_⟩))
   rw [CV]
   exact hR (.v false ⟨(m:Nat),s,x/99%b,b,1,7⟩ (List.replicate m 1) 1) ⟨hV,rfl,rfl,Jx m,List.length_replicate⟩ ⟨λ_=>⟨_,_,_,rfl⟩,λe=>by omega,λe=>by omega,λe=>by omega⟩
  refine Ac (AT (AU.cast (k':=false) (AM (Aa 0) Ag A5) (decide_eq_false h1)) (λhk=>by cases hk) (λ_=>Aq ?_))
  by_cases h2:so=2
  ·refine Ac (AT (AU.cast (k':=true) (AM (Aa 0) Ag A5) (decide_eq_true h2)) (λ_=>?_) (λhk=>by cases hk))
   have hps:Eo (m:Nat) ((List.range m).map λk:Nat=>BS (x+(0+(k:Int)))%6):=⟨by rw [List.length_map,List.length_range],λp hp=>by
    obtain ⟨k,_,rfl⟩:=List.mem_map.mp hp
    have:(6:Int)<=10 ^ (60:Int).toNat-1:=by decide +kernel
    omega⟩
   have hx1:=hx.1; have hx2:=hx.2
   refine Ac (AG (DD ku (hr.mono wE) (Ab (Aa 1) (Ab (Aa 2) (Ab (Ae.cast (Ck T.xt (Ab (Cy (λk:Nat=>.int (BS (x+(0+(k:Int)))%6)) ["_law_k"] ["_law_x"] [3] (Ek (Aa 1) T.xz wC wC) (by rw [sizeLine_eq,List.length_range,Int.toNat_natCast]; omega) (by exact λq hq s H fp=>⟨[some _],rfl,(AZ 0 (show List.Nodup (["_law_k","_law_x"]:List Str) by decide +kernel)),⟨_,rfl,(Ai (AD ja (hr.mono wE) (Ab (Ai (Aa 1) (Aa 0) Bl) Af) ⟨_,rfl,by have:=List.mem_range.mp hq; omega,rfl⟩) Ag (Bh wC))⟩⟩)) Af) (CD (by first | exact Or.inr rfl | exact Or.inl (Or.inl rfl) | exact Or.inl (Or.inr (Or.inl rfl)) | exact Or.inl (Or.inr (Or.inr ⟨_,rfl,by first | assumption | rfl⟩))))) (show D.tup _=Lr (some ((List.range m).map λk:Nat=>BS (x+(0+(k:Int)))%6)) by rw [Int.toNat_natCast]; show _=D.tup _; rw [List.map_map]; rfl)) Af))) ⟨O.length,(m:Nat),s,some _,rfl,Br,hmI,hs,hps,rfl,?_⟩))
   rw [CV]
   exact hR (.f _ _) ⟨hps,by show ((List.range m).map _).length=m; rw [List.length_map,List.length_range]⟩ ⟨λe=>by omega,λ_=>⟨_,_,rfl⟩,λe=>by omega,λe=>by omega⟩
  refine Ac (AT (AU.cast (k':=false) (AM (Aa 0) Ag A5) (decide_eq_false h2)) (λhk=>by cases hk) (λ_=>Aq ?_))
  by_cases h3:so=3
  ·refine Ac (AT (AU.cast (k':=true) (AM (Aa 0) Ag A5) (decide_eq_true h3)) (λ_=>?_) (λhk=>by cases hk))
   refine Ac (AG (DD kn (hr.mono wE) (Ab (Aa 1) (Ab (Aa 2) Af)) ⟨O.length,(m:Nat),s,rfl,Br,hmI,hs,rfl,?_⟩))
   rw [CV]
   exact hR (.r (List.replicate m true) 0) List.length_replicate ⟨λe=>by omega,λe=>by omega,λ_=>⟨_,_,rfl⟩,λe=>by omega⟩
  refine Ac (AT (AU.cast (k':=false) (AM (Aa 0) Ag A5) (decide_eq_false h3)) (λhk=>by cases hk) (λ_=>Aq ?_))
  refine Ac (AW 5 (Ae.ev (Ai Ag (Ai (Ai (Aa 3) Ag (B6 ⟨wC,wC⟩)) Ag (Bh wC)) Bl) ?_) J3.nd)
  have hpa:2<=2+x/7%99/\2+x/7%99<=100:=by omega
  generalize 2+x/7%99=pa at hpa
  have q0:=Int.emod_nonneg (x/3) (show pa-1≠0 by omega)
  have q1:=Int.emod_lt_of_pos (x/3) (show 0<pa-1 by omega)
  have hV:C5 true ⟨(m:Nat),s,x/99%b,b,1+x/3%(pa-1),pa⟩:=⟨hf,hmI.1,hmI.2,λ_=>⟨by show 1<=1+_; omega,by show 1+_<pa; omega,hpa.2⟩⟩
  refine Ac (AG (DD kt (hr.mono wE) (Ab (Aa 1) (Ab (Aa 2) (Ab (Ai (Ai (Aa 3) Ag (B6 ⟨wC,wC⟩)) (Aa 4) (Bh wF)) (Ab (Aa 4) (Ab (Ai Ag (Ai (Ai (Aa 3) Ag (B6 ⟨wC,wC⟩)) (Ai (Aa 5) Ag Dm) (Bh wF)) Bl) (Ab (Aa 5) Af)))))) ⟨O.length,⟨(m:Nat),s,x/99%b,b,1+x/3%(pa-1),pa⟩,rfl,Br,hV.so,rfl,?_⟩))
  rw [CV]
  exact hR (.v true ⟨(m:Nat),s,x/99%b,b,1+x/3%(pa-1),pa⟩ (List.replicate m 1) 1) ⟨hV,rfl,rfl,Jx m,List.length_replicate⟩ ⟨λe=>by omega,λe=>by omega,λe=>by omega,λ_=>⟨_,_,_,rfl⟩⟩
theorem VL (Fn:Av K "_law_tier" "_law_tier" Kk f fd) (hm:mg "_law_tier" = some (.ref f)) (hb:Binds K fd ["_law_many","_law_scale_here","_law_x","_law_deep"] []) (ja:Ak P w K mg base 1 "_law_next" (Au ER)) (ka:Ak P w K mg base 13 "_law_plain" (HL ⟨CK1,CK5,CK3,CK2,CK4,CK0⟩)) (gc:CI P w K mg base CK4 26 "Tier" (D5 ⟨CK1,CK5,CK3,CK2,CK4,CK0⟩ 2)):Ak P w K mg base 31 "_law_tier" (Gu ⟨CK1,CK5,CK3,CK2,CK4,CK0⟩ 0):=by
 refine A1 (k:=30) Fn GH hm hb (λds O R h=>?_) (λcdv A outer s H E ds O R hr h=>?_)
 ·obtain ⟨_,_,_,rfl,_⟩:=h; rfl
 ·obtain ⟨m,s,x,rfl,hx,hm,hs,hR⟩:=h
  refine Ac (AW 4 (G6 Af ?_) GH.nd)
  obtain ⟨n,hn,hn1,hn2⟩:∃ n:Nat,2+x%2=(n:Nat)/\2<=n/\n<=3:=⟨(2+x%2).toNat,by omega,by omega,by omega⟩
  refine Ac (Dw (Ek (Ai Ag (Ai (Aa 2) Ag (Bh wC)) Bl) T.xz wF wF) (λi ρ O'=>∃ (pv:List (Nat×Hn)) (y:Int) (v5:Option D),ρ=[some (.int (m:Nat)),some (.int s),some (.int y),some (.int (0:Nat)),some (.ptr O.length),v5]/\(∃ Y,O'=O++some (MO.lst (pv.map Bk))::Y)/\Cf ⟨CK1,CK5,CK3,CK2,CK4,CK0⟩ O' m s (0+1) pv/\(∀ z∈pv,O.length<z.1)/\pv.length=i/\Lo y) ⟨[],x,_,rfl,⟨[],rfl⟩,(λz hz=>absurd hz List.not_mem_nil),(λz hz=>absurd hz List.not_mem_nil),rfl,hx⟩ ?_ ?_)
  ·rintro i z ρ O' hz ⟨pv,y,v5,rfl,⟨Y,rfl⟩,hP,hF,hpl,hy⟩
   obtain ⟨hi,rfl⟩:=GP hz
   have hi:i<n:=by omega
   refine ⟨_,AZ 5 GH.nd,?_⟩
   have hy':0<=y+(0+((i:Nat):Int))/\y+(0+((i:Nat):Int))<3000000000:=by have:=hy.1; have:=hy.2; omega
   refine Ac (AW 2 (Ae.ev (AD ja (hr.mono wE) (Ab (Ai (Aa 2) (Aa 5) Bl) Af) ⟨_,rfl,hy',rfl⟩) ?_) GH.nd)
   have hlo:=Fa (y+(0+((i:Nat):Int)))
   generalize BS (y+(0+((i:Nat):Int)))=w at hlo
   have hLq:(O++some (MO.lst (pv.map Bk))::Y)[O.length]?=some (some (MO.lst (pv.map Bk))):=Br
   -- one more is taken in
   have fin:∀ (O2:Ad) (q:Nat) (h:Hn),(∃ Z,O2=O++some (MO.lst (pv.map Bk))::Y++Z)->Ay ⟨CK1,CK5,CK3,CK2,CK4,CK0⟩ O2 h q m s->(∃ n,AS n h m s)->AX h<0+1->O.length<q->∃ (pv2:List (Nat×Hn)) (y:Int) (v5:Option D),[some (D.int (m:Nat)),some (.int s),some (.int w),some (.int (0:Nat)),some (.ptr O.length),some (.int (0+((i:Nat):Int)))]=[some (.int (m:Nat)),some (.int s),some (.int y),some (.int (0:Nat)),some (.ptr O.length),v5]/\(∃ Y2,O2.set O.length (some (.lst (pv.map Bk++[.ptr q])))=O++some (MO.lst (pv2.map Bk))::Y2)/\Cf ⟨CK1,CK5,CK3,CK2,CK4,CK0⟩ (O2.set O.length (some (.lst (pv.map Bk++[.ptr q])))) m s (0+1) pv2/\(∀ z∈pv2,O.length<z.1)/\pv2.length=i+1/\Lo y:=λO2 q h ⟨Z,hZ⟩ hh hk hd hq=>by
    refine ⟨pv++[(q,h)],w,_,rfl,⟨Y++Z,?_⟩,λz hz=>?_,λz hz=>?_,by rw [List.length_append,hpl]; rfl,hlo⟩
    ·rw [hZ,List.append_assoc,List.cons_append,CV,List.map_append]; rfl
    ·rcases List.mem_append.mp hz with hz | hz
     ·refine ⟨?_,(hP z hz).2⟩
      have:=(hP z hz).1.ap (Y:=Z)
      rw [<- hZ] at this
      exact this.own λj h1 _=>List.getElem?_set_ne (by have:=hF z hz; omega)
     ·rw [List.mem_singleton.mp hz]
      exact ⟨hh.own λj h1 _=>List.getElem?_set_ne wF,hk,hd⟩
    ·rcases List.mem_append.mp hz with hz | hz
     ·exact hF z hz
     ·rw [List.mem_singleton.mp hz]; exact hq
   ·refine Ac (AT (AU.cast (k':=false) (BB.t (Ei (AM (Aa 3) Ag EI) (λhbb=>(EF (AM (Aa 5) Ag A5))))) rfl) (λhk=>by cases hk) (λ_=>?_))
    refine Ac (Jr (Aa 4) (B1 ka (hr.mono wE) (Ab (Ai (Aa 2) Ag (Bh wC)) (Ab (Aa 0) (Ab (Aa 1) (Ab (Ai (Aa 2) Ag (B6 ⟨wC,wC⟩)) Af)))) ⟨m,_,s,_,rfl,by omega,⟨by have:=hlo.1; omega,by have:=hlo.1; have:=hlo.2; omega⟩,hm,hs,λv hv _=>⟨I0 Br,?_⟩⟩) Br (by rw [sizeLine_eq,List.length_map]; omega))
    have hnew:Ay ⟨CK1,CK5,CK3,CK2,CK4,CK0⟩ (O++some (MO.lst (pv.map Bk))::Y++[some (Cs.o ⟨CK1,CK5,CK3,CK2,CK4,CK0⟩ (m:Nat) s v)]) (.p v) (O++some (MO.lst (pv.map Bk))::Y).length m s:=Ay.pi Br
    exact Aq (Aq (fin _ _ _ ⟨_,rfl⟩ hnew ⟨0,by simpa only [AS] using hv⟩ (by simp only [AX]; omega) (by rw [List.length_append]; show _<_+(_+1); omega)))
  ·rintro ρ O' ⟨pv,y,v5,rfl,⟨Y,rfl⟩,hP,hF,hpl,hy⟩
   rw [DN] at hpl
   have hpl:pv.length=n:=by omega
   have h3y:0<=y/\y<3000000000:=by have:=hy.1; have:=hy.2; omega
   refine Ac (AW 2 (Ae.ev (AD ja (hr.mono wE) (Ab (Aa 2) Af) ⟨_,rfl,h3y,rfl⟩) ?_) GH.nd)
   have hlo:=Fa y
   generalize BS y=w at hlo
   have hLq:(O++some (MO.lst (pv.map Bk))::Y)[O.length]?=some (some (MO.lst (pv.map Bk))):=Br
   refine Ac (AG (Qi gc (hr.mono wE) (Hb (Ae.ev (Ck T.xt (Ab (Aa 4) Af) (CD (Or.inl (Or.inr (Or.inr ⟨_,rfl,hLq⟩))))) (Hb (B1 ka (hr.mono wE) (Ab (Ai (Aa 2) Ag (Bh wC)) (Ab (A8 T.xr (Ab (Aa 4) Af) (C4 (by first | exact Or.inr rfl | exact Or.inl (Or.inl rfl) | exact Or.inl (Or.inr (Or.inl rfl)) | exact Or.inl (Or.inr (Or.inr ⟨_,rfl,by first | assumption | rfl⟩))))) (Ab (Aa 1) (Ab (Ai (Aa 2) Ag (B6 ⟨wC,wC⟩)) Af)))) ⟨pv.length,_,s,_,by rw [List.length_map],by omega,⟨by have:=hlo.1; omega,by have:=hlo.1; have:=hlo.2; omega⟩,by omega,hs,λv hv _=>BZ.as Af ?_⟩))))))
   have hh:Ay ⟨CK1,CK5,CK3,CK2,CK4,CK0⟩ (O++some (MO.lst (pv.map Bk))::Y++[some (Cs.o ⟨CK1,CK5,CK3,CK2,CK4,CK0⟩ (pv.length:Nat) s v)]) (.p v) (O++some (MO.lst (pv.map Bk))::Y).length pv.length s:=Ay.pi Br
   have hP2:=hP.app (Y:=[some (Cs.o ⟨CK1,CK5,CK3,CK2,CK4,CK0⟩ (pv.length:Nat) s v)])
   have u2:∃ Z,O++some (MO.lst (pv.map Bk))::Y++[some (Cs.o ⟨CK1,CK5,CK3,CK2,CK4,CK0⟩ (pv.length:Nat) s v)]=O++Z:=⟨_,List.append_assoc ..⟩
   generalize O++some (MO.lst (pv.map Bk))::Y++[some (Cs.o ⟨CK1,CK5,CK3,CK2,CK4,CK0⟩ (pv.length:Nat) s v)]=O3 at hh hP2 u2 ⊢
   generalize (O++some (MO.lst (pv.map Bk))::Y).length=hq at hh ⊢
   refine ⟨O3.length,m,s,pv,hq,.p v,O3,rfl,rfl,rfl,hP2.up wE,λz hz=>?_,hm,hs,by omega,rfl,?_⟩
   ·rw [List.mem_singleton.mp hz]; exact ⟨hh,⟨0,by simpa only [AS] using hv⟩,by simp only [AX]; decide⟩
   have hn:=M9 hP2 hv wF
   have ha:=F6 ⟨CK1,CK5,CK3,CK2,CK4,CK0⟩ (AI (.t (pv.map (·.2)) (.p v) []) m) O3 [] m s
   rw [List.append_nil] at ha
   exact hR _ _ _ (MY u2) (by obtain ⟨Z,rfl⟩:=u2; rw [List.length_append]; omega) ha hn.1 hn.2
theorem VJ (Fn:Av K "_law_tier" "_law_tier" Kj f fd) (hm:mg "_law_tier" = some (.ref f)) (hb:Binds K fd ["_law_many","_law_scale_here","_law_x","_law_deep"] []) (ja:Ak P w K mg base 1 "_law_next" (Au ER)) (ka:Ak P w K mg base 13 "_law_plain" (HL ⟨CK1,CK5,CK3,CK2,CK4,CK0⟩)) (gc:CI P w K mg base CK4 26 "Tier" (D5 ⟨CK1,CK5,CK3,CK2,CK4,CK0⟩ 2)) (kx:Ak P w K mg base 31 "_law_tier" (Gu ⟨CK1,CK5,CK3,CK2,CK4,CK0⟩ 0)):Ak P w K mg base 35 "_law_tier" (Gu ⟨CK1,CK5,CK3,CK2,CK4,CK0⟩ 1):=by
 refine A1 (k:=34) Fn GG hm hb (λds O R h=>?_) (λcdv A outer s H E ds O R hr h=>?_)
 ·obtain ⟨_,_,_,rfl,_⟩:=h; rfl
 ·obtain ⟨m,s,x,rfl,hx,hm,hs,hR⟩:=h
  refine Ac (AW 4 (G6 Af ?_) GG.nd)
  obtain ⟨n,hn,hn1,hn2⟩:∃ n:Nat,2+x%2=(n:Nat)/\2<=n/\n<=3:=⟨(2+x%2).toNat,by omega,by omega,by omega⟩
  refine Ac (Dw (Ek (Ai Ag (Ai (Aa 2) Ag (Bh wC)) Bl) T.xz wF wF) (λi ρ O'=>∃ (pv:List (Nat×Hn)) (y:Int) (v5:Option D),ρ=[some (.int (m:Nat)),some (.int s),some (.int y),some (.int (1:Nat)),some (.ptr O.length),v5]/\(∃ Y,O'=O++some (MO.lst (pv.map Bk))::Y)/\Cf ⟨CK1,CK5,CK3,CK2,CK4,CK0⟩ O' m s (1+1) pv/\(∀ z∈pv,O.length<z.1)/\pv.length=i/\Lo y) ⟨[],x,_,rfl,⟨[],rfl⟩,(λz hz=>absurd hz List.not_mem_nil),(λz hz=>absurd hz List.not_mem_nil),rfl,hx⟩ ?_ ?_)
  ·rintro i z ρ O' hz ⟨pv,y,v5,rfl,⟨Y,rfl⟩,hP,hF,hpl,hy⟩
   obtain ⟨hi,rfl⟩:=GP hz
   have hi:i<n:=by omega
   refine ⟨_,AZ 5 GG.nd,?_⟩
   have hy':0<=y+(0+((i:Nat):Int))/\y+(0+((i:Nat):Int))<3000000000:=by have:=hy.1; have:=hy.2; omega
   refine Ac (AW 2 (Ae.ev (AD ja (hr.mono wE) (Ab (Ai (Aa 2) (Aa 5) Bl) Af) ⟨_,rfl,hy',rfl⟩) ?_) GG.nd)
   have hlo:=Fa (y+(0+((i:Nat):Int)))
   generalize BS (y+(0+((i:Nat):Int)))=w at hlo
   have hLq:(O++some (MO.lst (pv.map Bk))::Y)[O.length]?=some (some (MO.lst (pv.map Bk))):=Br
   -- one more is taken in
   have fin:∀ (O2:Ad) (q:Nat) (h:Hn),(∃ Z,O2=O++some (MO.lst (pv.map Bk))::Y++Z)->Ay ⟨CK1,CK5,CK3,CK2,CK4,CK0⟩ O2 h q m s->(∃ n,AS n h m s)->AX h<1+1->O.length<q->∃ (pv2:List (Nat×Hn)) (y:Int) (v5:Option D),[some (D.int (m:Nat)),some (.int s),some (.int w),some (.int (1:Nat)),some (.ptr O.length),some (.int (0+((i:Nat):Int)))]=[some (.int (m:Nat)),some (.int s),some (.int y),some (.int (1:Nat)),some (.ptr O.length),v5]/\(∃ Y2,O2.set O.length (some (.lst (pv.map Bk++[.ptr q])))=O++some (MO.lst (pv2.map Bk))::Y2)/\Cf ⟨CK1,CK5,CK3,CK2,CK4,CK0⟩ (O2.set O.length (some (.lst (pv.map Bk++[.ptr q])))) m s (1+1) pv2/\(∀ z∈pv2,O.length<z.1)/\pv2.length=i+1/\Lo y:=λO2 q h ⟨Z,hZ⟩ hh hk hd hq=>by
    refine ⟨pv++[(q,h)],w,_,rfl,⟨Y++Z,?_⟩,λz hz=>?_,λz hz=>?_,by rw [List.length_append,hpl]; rfl,hlo⟩
    ·rw [hZ,List.append_assoc,List.cons_append,CV,List.map_append]; rfl
    ·rcases List.mem_append.mp hz with hz | hz
     ·refine ⟨?_,(hP z hz).2⟩
      have:=(hP z hz).1.ap (Y:=Z)
      rw [<- hZ] at this
      exact this.own λj h1 _=>List.getElem?_set_ne (by have:=hF z hz; omega)
     ·rw [List.mem_singleton.mp hz]
      exact ⟨hh.own λj h1 _=>List.getElem?_set_ne wF,hk,hd⟩
    ·rcases List.mem_append.mp hz with hz | hz
     ·exact hF z hz
     ·rw [List.mem_singleton.mp hz]; exact hq
   by_cases hi0:i=0
   ·subst hi0
    refine Ac (AT (AU.cast (k':=true) (BB.t (Ei (AM (Aa 3) Ag EI) (λhbb=>(EF (AM (Aa 5) Ag A5))))) rfl) (λ_=>?_) (λhk=>by cases hk))
    refine Ac (Jr (Aa 4) (B1 kx (hr.mono wE) (Ab (Aa 0) (Ab (Aa 1) (Ab (Aa 2) (Ab (Ai (Aa 3) Ag Dm) Af)))) ⟨m,s,w,rfl,hlo,hm,hs,λO2 q y u2 hq2 hy hy0 hyd=>⟨by obtain ⟨Z,rfl⟩:=u2; exact I0 Br,?_⟩⟩) Br (by rw [sizeLine_eq,List.length_map]; omega))
    exact Aq (Aq (fin O2 q y u2 hy ⟨0,hy0⟩ wF (by rw [List.length_append] at hq2; have:(some (MO.lst (pv.map Bk))::Y).length=Y.length+1:=rfl; omega)))
   ·refine Ac (AT (AU.cast (k':=false) (BB.t (Ei (AM (Aa 3) Ag EI) (λhbb=>(EF (AM (Aa 5) Ag A5))))) (by rw [decide_eq_false (show ¬ (0+((i:Nat):Int))=0 by omega),Bool.and_false])) (λhk=>by cases hk) (λ_=>?_))
    refine Ac (Jr (Aa 4) (B1 ka (hr.mono wE) (Ab (Ai (Aa 2) Ag (Bh wC)) (Ab (Aa 0) (Ab (Aa 1) (Ab (Ai (Aa 2) Ag (B6 ⟨wC,wC⟩)) Af)))) ⟨m,_,s,_,rfl,by omega,⟨by have:=hlo.1; omega,by have:=hlo.1; have:=hlo.2; omega⟩,hm,hs,λv hv _=>⟨I0 Br,?_⟩⟩) Br (by rw [sizeLine_eq,List.length_map]; omega))
    have hnew:Ay ⟨CK1,CK5,CK3,CK2,CK4,CK0⟩ (O++some (MO.lst (pv.map Bk))::Y++[some (Cs.o ⟨CK1,CK5,CK3,CK2,CK4,CK0⟩ (m:Nat) s v)]) (.p v) (O++some (MO.lst (pv.map Bk))::Y).length m s:=Ay.pi Br
    exact Aq (Aq (fin _ _ _ ⟨_,rfl⟩ hnew ⟨0,by simpa only [AS] using hv⟩ (by simp only [AX]; omega) (by rw [List.length_append]; show _<_+(_+1); omega)))
  ·rintro ρ O' ⟨pv,y,v5,rfl,⟨Y,rfl⟩,hP,hF,hpl,hy⟩
   rw [DN] at hpl
   have hpl:pv.length=n:=by omega
   have h3y:0<=y/\y<3000000000:=by have:=hy.1; have:=hy.2; omega
   refine Ac (AW 2 (Ae.ev (AD ja (hr.mono wE) (Ab (Aa 2) Af) ⟨_,rfl,h3y,rfl⟩) ?_) GG.nd)
   have hlo:=Fa y
   generalize BS y=w at hlo
   have hLq:(O++some (MO.lst (pv.map Bk))::Y)[O.length]?=some (some (MO.lst (pv.map Bk))):=Br
   refine Ac (AG (Qi gc (hr.mono wE) (Hb (Ae.ev (Ck T.xt (Ab (Aa 4) Af) (CD (Or.inl (Or.inr (Or.inr ⟨_,rfl,hLq⟩))))) (Hb (B1 ka (hr.mono wE) (Ab (Ai (Aa 2) Ag (Bh wC)) (Ab (A8 T.xr (Ab (Aa 4) Af) (C4 (by first | exact Or.inr rfl | exact Or.inl (Or.inl rfl) | exact Or.inl (Or.inr (Or.inl rfl)) | exact Or.inl (Or.inr (Or.inr ⟨_,rfl,by first | assumption | rfl⟩))))) (Ab (Aa 1) (Ab (Ai (Aa 2) Ag (B6 ⟨wC,wC⟩)) Af)))) ⟨pv.length,_,s,_,by rw [List.length_map],by omega,⟨by have:=hlo.1; omega,by have:=hlo.1; have:=hlo.2; omega⟩,by omega,hs,λv hv _=>BZ.as Af ?_⟩))))))
   have hh:Ay ⟨CK1,CK5,CK3,CK2,CK4,CK0⟩ (O++some (MO.lst (pv.map Bk))::Y++[some (Cs.o ⟨CK1,CK5,CK3,CK2,CK4,CK0⟩ (pv.length:Nat) s v)]) (.p v) (O++some (MO.lst (pv.map Bk))::Y).length pv.length s:=Ay.pi Br
   have hP2:=hP.app (Y:=[some (Cs.o ⟨CK1,CK5,CK3,CK2,CK4,CK0⟩ (pv.length:Nat) s v)])
   have u2:∃ Z,O++some (MO.lst (pv.map Bk))::Y++[some (Cs.o ⟨CK1,CK5,CK3,CK2,CK4,CK0⟩ (pv.length:Nat) s v)]=O++Z:=⟨_,List.append_assoc ..⟩
   generalize O++some (MO.lst (pv.map Bk))::Y++[some (Cs.o ⟨CK1,CK5,CK3,CK2,CK4,CK0⟩ (pv.length:Nat) s v)]=O3 at hh hP2 u2 ⊢
   generalize (O++some (MO.lst (pv.map Bk))::Y).length=hq at hh ⊢
   refine ⟨O3.length,m,s,pv,hq,.p v,O3,rfl,rfl,rfl,hP2.up wE,λz hz=>?_,hm,hs,by omega,rfl,?_⟩
   ·rw [List.mem_singleton.mp hz]; exact ⟨hh,⟨0,by simpa only [AS] using hv⟩,by simp only [AX]; decide⟩
   have hn:=M9 hP2 hv wF
   have ha:=F6 ⟨CK1,CK5,CK3,CK2,CK4,CK0⟩ (AI (.t (pv.map (·.2)) (.p v) []) m) O3 [] m s
   rw [List.append_nil] at ha
   exact hR _ _ _ (MY u2) (by obtain ⟨Z,rfl⟩:=u2; rw [List.length_append]; omega) ha hn.1 hn.2
theorem VT (Fn:Av K "_law_hand" "_law_hand" Kt f fd) (hm:mg "_law_hand" = some (.ref f)) (hb:Binds K fd ["_law_script","_law_many","_law_scale_here"] []) (kb:Ak P w K mg base 1 "_law_cell_at" (Au JV)) (ky:Ak P w K mg base 2 "_law_seed" (Au JO)) (ka:Ak P w K mg base 13 "_law_plain" (HL ⟨CK1,CK5,CK3,CK2,CK4,CK0⟩)) (kx:Ak P w K mg base 31 "_law_tier" (Gu ⟨CK1,CK5,CK3,CK2,CK4,CK0⟩ 0)) (zk:Ak P w K mg base 35 "_law_tier" (Gu ⟨CK1,CK5,CK3,CK2,CK4,CK0⟩ 1)):Ak P w K mg base 37 "_law_hand" (NV ⟨CK1,CK5,CK3,CK2,CK4,CK0⟩):=by
 refine A1 (k:=36) Fn J4 hm hb (λds O R h=>?_) (λcdv A outer s H E ds O R hr h=>?_)
 ·obtain ⟨_,_,_,rfl,_⟩:=h; rfl
 ·obtain ⟨ns,m,s,rfl,hl,hm,hs,hR⟩:=h
  refine Ac (AW 3 (Ae.ev (Ai (AD kb (hr.mono wE) (Ab (Aa 0) (Ab Ag Af)) ⟨_,_,rfl,by first | decide | omega,rfl⟩) Ag (Bh wC)) ?_) J4.nd)
  have hso:0<=Dh ns 2%7/\Dh ns 2%7<=6:=by omega
  generalize Dh ns 2%7=so at hso hR ⊢
  refine Ac (AW 4 (Ae.ev (AD ky (hr.mono wE) (Ab (AD kb (hr.mono wE) (Ab (Aa 0) (Ab Ag Af)) ⟨_,_,rfl,by first | decide | omega,rfl⟩) (Ab Ag Af)) ⟨_,_,rfl,by first | assumption | omega,rfl⟩) ?_) J4.nd)
  have hx:Lo (FO (Dh ns 3) 3):=Og _ _
  generalize FO (Dh ns 3) 3=x at hx
  by_cases h5:so<5
  ·refine Ac (AT (AU.cast (k':=true) (AM (Aa 3) Ag Ge) (decide_eq_true h5)) (λ_=>?_) (λhk=>by cases hk))
   exact Ac (AG (B1 ka (hr.mono wE) (Ab (Aa 3) (Ab (Aa 1) (Ab (Aa 2) (Ab (Aa 4) Af)))) ⟨m,so,s,x,rfl,by omega,hx,hm,hs,λv hv hk=>hR _ _ (.p v) ⟨_,rfl⟩ (Nat.le_refl _) (Ay.pi Br) (by simpa only [AS] using hv) (by simp only [AX]; omega) hk⟩))
  refine Ac (AT (AU.cast (k':=false) (AM (Aa 3) Ag Ge) (decide_eq_false h5)) (λhk=>by cases hk) (λ_=>Aq ?_))
  by_cases h6:so=5
  ·subst h6
   exact Ac (AG (B1 kx (hr.mono wE) (Ab (Aa 1) (Ab (Aa 2) (Ab (Aa 4) (Ab (Ai (Aa 3) Ag Dm) Af)))) ⟨m,s,x,rfl,hx,hm,hs,λO' q y u hq hy hk hd=>hR O' q y u hq hy hk wF (LL (.inr wE))⟩))
  ·have h6:so=6:=by omega
   subst h6
   exact Ac (AG (B1 zk (hr.mono wE) (Ab (Aa 1) (Ab (Aa 2) (Ab (Aa 4) (Ab (Ai (Aa 3) Ag Dm) Af)))) ⟨m,s,x,rfl,hx,hm,hs,λO' q y u hq hy hk hd=>hR O' q y u hq hy hk hd (LL (.inr wE))⟩))
theorem VB (Fn:Av K "parted" "parted" Kc f fd) (hm:mg "parted" = some (.ref f)) (hb:Binds K fd ["many","scale"] []):Ak P w K mg base 1 "parted" (Au NI):=by
 refine A1 (k:=0) Fn S1 hm hb (λds O R h=>?_) (λcdv A outer s H E ds O R hr h=>?_)
 ·obtain ⟨_,⟨_,_,rfl,_⟩,_⟩:=h; rfl
 ·obtain ⟨d,⟨m,s,rfl,hm,rfl⟩,hR⟩:=h
  refine Ac (AG (Ae.ev (Ck T.xt (Ab (Cy (λj:Nat=>if decide ((0+(j:Int))%2=0)=true then D.int 0 else D.int s) ["adviser"] ["scale"] [1] (Ek (Aa 0) T.xz wF wF) (by rw [List.length_range,sizeLine_eq]; omega) (by exact λq hq s H fp=>⟨[some _],rfl,(AZ 0 (show List.Nodup (["adviser","scale"]:List Str) by decide +kernel)),⟨_,rfl,(L5 (AM (Ai (Aa 0) Ag (Bh wC)) Ag A5) (λhbb=>Ag) (λhbb=>(Aa 1)))⟩⟩)) Af) (CD (by first | exact Or.inr rfl | exact Or.inl (Or.inl rfl) | exact Or.inl (Or.inr (Or.inl rfl)) | exact Or.inl (Or.inr (Or.inr ⟨_,rfl,by first | assumption | rfl⟩))))) ?_))
  have e:((List.range ((m:Nat):Int).toNat).map λj:Nat=>if decide ((0+(j:Int))%2=0)=true then D.int 0 else D.int s)=(sd m s).map od:=by
   rw [Int.toNat_natCast]
   unfold sd
   rw [List.map_map]
   refine List.map_congr_left λj _=>?_
   show (if decide ((0+(j:Int))%2=0)=true then D.int 0 else D.int s)=od (some (if j%2=0 then 0 else s))
   by_cases h:j%2=0
   ·rw [if_pos (decide_eq_true wF),if_pos h]; rfl
   ·rw [if_neg (by rw [decide_eq_true_eq]; omega),if_neg h]; rfl
  rw [e]
  exact hR
theorem Vv (Fn:Av K "trap" "trap" J6 f fd) (hm:mg "trap" = some (.ref f)) (hb:Binds K fd ["hand","many_turns"] []) (zm:Ak P w K mg base 1 "parted" (Au NI)) (ju:Al P w K mg base CK1 7 "anew" (FJ CK1)) (jh:Al P w K mg base CK1 6 "say" (BG CK1 CK5 CK3 CK2)) (jo:Al P w K mg base CK1 6 "hear" (FF CK1)) (jw:Al P w K mg base CK5 9 "anew" (C9 CK5 CK3 false)) (je:Al P w K mg base CK5 6 "say" (BG CK1 CK5 CK3 CK2)) (jp:Al P w K mg base CK5 8 "hear" (C8 CK5 CK3 false)) (jx:Al P w K mg base CK3 9 "anew" (C9 CK5 CK3 true)) (jf:Al P w K mg base CK3 6 "say" (BG CK1 CK5 CK3 CK2)) (jq:Al P w K mg base CK3 8 "hear" (C8 CK5 CK3 true)) (jy:Al P w K mg base CK2 8 "anew" (FI CK2)) (ji:Al P w K mg base CK2 6 "say" (BG CK1 CK5 CK3 CK2)) (jr:Al P w K mg base CK2 6 "hear" (FE CK2)) (kv:Al P w K mg base CK4 28 "anew" (DK ⟨CK1,CK5,CK3,CK2,CK4,CK0⟩ 2)) (kf:Al P w K mg base CK4 25 "say" (Dz ⟨CK1,CK5,CK3,CK2,CK4,CK0⟩ 2)) (kg:Al P w K mg base CK4 26 "hear" (DJ ⟨CK1,CK5,CK3,CK2,CK4,CK0⟩ 2)) (jz:Al P w K mg base CK0 8 "anew" (FK CK0)) (jk:Al P w K mg base CK0 5 "say" (EQ CK0)) (jt:Al P w K mg base CK0 6 "hear" (FG CK0)):Ak P w K mg base 29 "trap" (Nw ⟨CK1,CK5,CK3,CK2,CK4,CK0⟩ 2):=by
 refine A1 (k:=28) Fn FQ hm hb (λds O R h=>?_) (λcdv A outer s H E ds O R hr h=>?_)
 ·obtain ⟨_,_,_,_,_,_,rfl,_⟩:=h; rfl
 ·obtain ⟨q,k,m,n,s,x,rfl,hW,hok,hj,hm,hs,hn,hR⟩:=h
  have hm1:1<=m/\m<=24:=⟨by omega,hm.2⟩
  have h0:0<=s:=by omega
  refine Ac (AT (AU.cast (k':=false) (AM (Ga (C:=⟨CK1,CK5,CK3,CK2,CK4,CK0⟩) T.bz.cls T.di.cls T.dw.cls T.fg.cls T.df T.dk T.dz T.fi T.ft.cls T.fv T.ld.cls T.lg (Aa 0) hW hok) Ag A5) (decide_eq_false wF)) (λhk=>by cases hk) (λ_=>Aq ?_))
  refine Jq ?_
  have hgood:=LQ (AS.anew x m s hok) h0 hm.2
  have hsd:=GF (m:=m) h0 hm.2
  refine Ac (Fv (IQ (C:=⟨CK1,CK5,CK3,CK2,CK4,CK0⟩) ju jw jx jy (hr.mono wE) (hr.mono wE) (hr.mono wE) jz (hr.mono wE) kv (hr.mono wE) (Aa 0) hW hok hj hm1 hs ⟨_,AZ 2 FQ.nd,?_⟩))
  refine Ac (AW 3 (Ae.ev (AD zm (hr.mono wE) (Ab (Ga (C:=⟨CK1,CK5,CK3,CK2,CK4,CK0⟩) T.bz.cls T.di.cls T.dw.cls T.fg.cls T.df T.dk T.dz T.fi T.ft.cls T.fv T.ld.cls T.lg (Aa 0) hW.ap hok) (Ab (Ff (C:=⟨CK1,CK5,CK3,CK2,CK4,CK0⟩) T.bz.cls T.di.cls T.dw.cls T.fg.cls T.dg T.dl T.ef T.fj T.ft.cls T.fw T.ld.cls T.lh (Aa 0) hW.ap hok) Af)) ⟨m,s,rfl,hm.2,rfl⟩) ?_) FQ.nd)
  refine Ac (AW 4 (G6 Af ?_) FQ.nd)
  have k1:Kp O.length O (O++Bm ⟨CK1,CK5,CK3,CK2,CK4,CK0⟩ (AI x m) O.length m s++[some (MO.lst [])]):=by rw [List.append_assoc]; exact Kp.app _ (Nat.le_refl _)
  have a1:Ay ⟨CK1,CK5,CK3,CK2,CK4,CK0⟩ (O++Bm ⟨CK1,CK5,CK3,CK2,CK4,CK0⟩ (AI x m) O.length m s++[some (MO.lst [])]) (A6 m s 0 (AI x m)) O.length m s:=F6 ⟨CK1,CK5,CK3,CK2,CK4,CK0⟩ (AI x m) O _ m s
  have l1:(O++Bm ⟨CK1,CK5,CK3,CK2,CK4,CK0⟩ (AI x m) O.length m s).length=O.length+AO x:=by rw [List.length_append,GT,HS]
  have b1:(O++Bm ⟨CK1,CK5,CK3,CK2,CK4,CK0⟩ (AI x m) O.length m s++[some (MO.lst [])])[O.length+AO x]?=some (some (MO.lst ((BX m s 0 (AI x m)).map tD))):=by rw [<- l1]; exact Br
  rw [l1]
  generalize O++Bm ⟨CK1,CK5,CK3,CK2,CK4,CK0⟩ (AI x m) O.length m s++[some (MO.lst [])]=O1 at k1 a1 b1 ⊢
  have hsz:=λi=>(J0 m s (AI x m) i).trans (HS x m)
  have hdp:=λi=>(L9 m s (AI x m) i).trans (He x m)
  have hqn:=Ay.le _ _ _ _ hW
  refine Ac (Dw (Ek (Aa 1) T.xz wC wC) (λi ρ O'=>∃ v5 v6:Option D,ρ=[some (.ptr q),some (.int (n:Nat)),some (.ptr O.length),some (.tup ((sd m s).map od)),some (.ptr (O.length+AO x)),v5,v6]/\Kp O.length O O'/\Ay ⟨CK1,CK5,CK3,CK2,CK4,CK0⟩ O' (A6 m s i (AI x m)) O.length m s/\O'[O.length+AO x]?=some (some (MO.lst ((BX m s i (AI x m)).map tD)))) ⟨_,_,rfl,k1,a1,b1⟩ ?_ ?_)
  ·clear k1 a1 b1 l1
   rintro i z ρ O' hz ⟨v5,v6,rfl,kp,hA,hL⟩
   obtain ⟨hi,rfl⟩:=GP hz
   have hi:i<n:=by omega
   have hgi:=hgood i
   have hzi:=hsz i
   have hdi:=hdp i
   have htl:((BX m s i (AI x m)).map tD).length=i:=by rw [List.length_map,Fz]
   rw [RU,List.map_append]
   show ∃ ρ1,_/\Ch _ ρ1 _ _ { nx:=λρ O'=>∃ v5 v6:Option D,ρ=_/\Kp _ _ O'/\Ay ⟨CK1,CK5,CK3,CK2,CK4,CK0⟩ O' (A2 (A6 m s i (AI x m)) m (sd m s) (Be m s (A6 m s i (AI x m)))) _ _ _/\_,rt:=_,bk:=_,ct:=_ }
   have hW2:Ay ⟨CK1,CK5,CK3,CK2,CK4,CK0⟩ O' x q m s:=hW.own λj _ h2=>kp.o j wF
   generalize A6 m s i (AI x m)=w at hgi hzi hdi hA
   generalize (BX m s i (AI x m)).map tD=L at htl hL
   have eso:(if decide (Bv w m (sd m s)=0)=true then D.int s else D.int 0)=D.int (Be m s w):=by
    unfold Be
    by_cases h:Bv w m (sd m s)=0
    ·rw [if_pos (decide_eq_true h),if_pos h]
    ·rw [if_neg (by rw [decide_eq_true_eq]; exact h),if_neg h]
   refine ⟨_,AZ 5 FQ.nd,?_⟩
   refine Ac (AW 6 (Ae.ev (Ae.cast (L5 (AM (IN (C:=⟨CK1,CK5,CK3,CK2,CK4,CK0⟩) jh je jf ji (hr.mono wE) jk (hr.mono wE) kf (hr.mono wE) (Aa 2) hA hgi wF hm1 h0 hsd (Ab (Aa 3) Af)) Ag A5) (λ_=>Ff (C:=⟨CK1,CK5,CK3,CK2,CK4,CK0⟩) T.bz.cls T.di.cls T.dw.cls T.fg.cls T.dg T.dl T.ef T.fj T.ft.cls T.fw T.ld.cls T.lh (Aa 0) hW2 hok) (λ_=>Ag)) eso) ?_) FQ.nd)
   have hso:=Gz (m:=m) (y:=w) h0
   refine Ac (Bb (G8 (C:=⟨CK1,CK5,CK3,CK2,CK4,CK0⟩) jo jp jq jr (hr.mono wE) (hr.mono wE) (hr.mono wE) jt (hr.mono wE) kg (hr.mono wE) (Aa 2) hA hgi wF wF hm1 hsd hso (Ab (Aa 3) (Ab (Aa 6) Af)) λO3 c3 hA3=>?_))
   have hL3:O3[O.length+AO x]?=some (some (MO.lst L)):=by rw [c3.o _ (.inr wF)]; exact hL
   have hz3:=ET w m (sd m s) (Be m s w)
   refine Ac (MQ (Aa 4) hL3 (Dq (Ab (Aa 3) (Ab (Aa 6) Af))) (by rw [sizeLine_eq,htl]; omega) ?_)
   refine Aq ⟨_,_,rfl,(kp.tr (Kp.bl c3 (Nat.le_refl _))).tr ⟨by rw [List.length_set]; exact Nat.le_refl _,λj hj=>List.getElem?_set_ne wF⟩,hA3.own λj _ h2=>List.getElem?_set_ne wF,Cb hL3⟩
  ·rintro ρ O' ⟨v5,v6,rfl,kp,hA,hL⟩
   rw [DN,Int.toNat_natCast] at hL
   exact Ac (AG (Ae.ev (Ck T.xt (Ab (Aa 4) Af) (CD (Or.inl (Or.inr (Or.inr ⟨_,rfl,hL⟩))))) ⟨kp.up,LA Sm _,hR⟩))
theorem VS (Fn:Av K "_law_is_turn" "_law_is_turn" Ks f fd) (hm:mg "_law_is_turn" = some (.ref f)) (hb:Binds K fd ["_law_turn_here","_law_many","_law_scale_here"] []):Ak P w K mg base 1 "_law_is_turn" (Au NN):=by
 refine A1 (k:=0) Fn S6 hm hb (λds O R h=>?_) (λcdv A outer s H E ds O R hr h=>?_)
 ·obtain ⟨_,⟨_,_,_,rfl,_⟩,_⟩:=h; rfl
 ·obtain ⟨d,⟨m,s,so,rfl,hm,hso,rfl⟩,hR⟩:=h
  have e1:((List.range ((m:Nat):Int).toNat).map λk:Nat=>D.int ((0+(k:Int))%2*s))=((List.range m).map λk:Nat=>((k:Int)%2*s)).map D.int:=by
   rw [Int.toNat_natCast,List.map_map]
   exact List.map_congr_left λk _=>by rw [Int.zero_add]; rfl
  refine Ac (AT (AU.cast (k':=false) (BB.t (Dc (CQ (Cz (A8 T.ba (Ab (Aa 0) (Ab (DB T.xt) Af)) (Gg rfl)))) (λhbb=>(Dc (AM (A8 T.xr (Ab (Aa 0) Af) (C4 (by first | exact Or.inr rfl | exact Or.inl (Or.inl rfl) | exact Or.inl (Or.inr (Or.inl rfl)) | exact Or.inl (Or.inr (Or.inr ⟨_,rfl,by first | assumption | rfl⟩))))) Ag Gd) (λhbb=>(Dp (AM (B7 (Aa 0) Ag rfl) (Ck T.xt (Ab (Cy (λk:Nat=>.int ((0+(k:Int))%2*s)) ["_law_k"] ["_law_scale_here"] [2] (Ek (Aa 1) T.xz wC wC) (by rw [sizeLine_eq,List.length_range,Int.toNat_natCast]; omega) (by exact λq hq s H fp=>⟨[some _],rfl,(AZ 0 (show List.Nodup (["_law_k","_law_scale_here"]:List Str) by decide +kernel)),⟨_,rfl,(Ai (Ai (Aa 0) Ag (Bh wC)) (Aa 1) (BH (BC.ok (Or.inl ⟨by omega,by omega⟩))))⟩⟩)) Af) (CD (by first | exact Or.inr rfl | exact Or.inl (Or.inl rfl) | exact Or.inl (Or.inr (Or.inl rfl)) | exact Or.inl (Or.inr (Or.inr ⟨_,rfl,by first | assumption | rfl⟩))))) (QF hr (Or.inl rfl) (Or.inl rfl) (by rw [J1]; exact plT _) (by rw [e1]; exact plT _) (by rw [J1]; exact Nat.le_trans (Nat.min_le_left _ _) (Y8 _)))))))))) (by rw [e1,J1,YT]; rfl)) (λhk=>by cases hk) (λ_=>Aq ?_))
  have hin:decide (so∈[0,s])=true:=decide_eq_true (by rcases hso with h | h <;> rw [h] <;> simp)
  refine Ac (AG (Ae.ev (Ae.cast (d':=.bl true) (DE (C3 (B7 (Aa 0) Ag rfl) (Dq (Ab Ag (Ab (Aa 2) Af))) (Zt (ns:=[0,s]) (Or.inr rfl))) (λhbb=>(DC (L3 (A8 T.ba (Ab (B7 (Aa 0) Ag rfl) (Ab (DB T.bd) Af)) (Mh rfl)))))) (by rw [hin]; rfl)) hR))
theorem VU (Fn:Av K "_law_halvings" "_law_halvings" Ku f fd) (hm:mg "_law_halvings" = some (.ref f)) (hb:Binds K fd ["_law_many"] []):Ak P w K mg base 1 "_law_halvings" (Au NW):=by
 refine A1 (k:=0) Fn HV hm hb (λds O R h=>?_) (λcdv A outer s H E ds O R hr h=>?_)
 ·obtain ⟨_,⟨_,rfl,_⟩,_⟩:=h; rfl
 ·obtain ⟨d,⟨m,rfl,hm,rfl⟩,hR⟩:=h
  refine Ac (AW 1 (Ae.ev Ag ?_) HV.nd)
  refine Ac (ML (λρ O'=>∃ n e:Nat,ρ=[some (.int (n:Nat)),some (.int (e:Nat))]/\O'=O/\1<=n/\n<=24/\e+hv n=hv m) muH ⟨m,0,rfl,rfl,hm.1,hm.2,Nat.zero_add _⟩ ?_)
  rintro ρ O' ⟨n,e,rfl,rfl,hn1,hn2,he⟩
  refine ⟨_,(AM (Aa 0) Ag EI),λhk=>?_,λhk=>?_⟩
  ·have hk:=of_decide_eq_true hk
   refine Ac (AW 0 (Ae.ev (Ai (Aa 0) Ag (B6 ⟨wC,wC⟩)) ?_) HV.nd)
   refine Ac (AW 1 (Ae.ev (Ai (Aa 1) Ag Bl) ?_) HV.nd)
   have hst:=X4 n wF wF
   have e1:((n:Nat):Int)/2=((n/2:Nat):Int):=by omega
   have e2:((e:Nat):Int)+1=((e+1:Nat):Int):=by omega
   rw [e1,e2]
   refine Aq ⟨⟨n/2,e+1,rfl,rfl,by omega,by omega,by omega⟩,?_⟩
   show (((n/2:Nat):Int)).toNat<((n:Nat):Int).toNat
   omega
  ·have hk:=of_decide_eq_false hk
   have:=X5 n wF wF
   have e1:hv m=e:=by omega
   rw [e1] at hR
   exact Ac (AG (Ae.ev (Aa 1) hR))
theorem V1 (Fn:Av K "has_greatest" "has_greatest" KB f fd) (hm:mg "has_greatest" = some (.ref f)) (hb:Binds K fd ["top","bottom","own"] []):Ak P w K mg base 1 "has_greatest" (Au NU):=by
 refine A1 (k:=0) Fn Tf hm hb (λds O R h=>?_) (λcdv A outer s H E ds O R hr h=>?_)
 ·obtain ⟨_,⟨_,_,_,rfl,_⟩,_⟩:=h; rfl
 ·obtain ⟨d,⟨t,b,o,rfl,rfl⟩,hR⟩:=h
  exact Ac (AG (Ae.ev (DE (C3 (Aa 0) (Aa 1) Ge) (λhbb=>(DC (Qh (C3 (Aa 0) Ag EI) (λhbb=>(DC (C3 (Aa 2) Ag A5))))))) hR))
theorem VD (Fn:Av K "most_errors" "most_errors" Ke f fd) (hm:mg "most_errors" = some (.ref f)) (hb:Binds K fd ["many","top","bottom","own"] []) (jd:Ak P w K mg base 1 "power" (Au Gv)) (zn:Ak P w K mg base 1 "has_greatest" (Au NU)):Ak P w K mg base 2 "most_errors" (FV OP OH):=by
 refine A1 (k:=1) Fn EU hm hb (λds O R h=>?_) (λcdv A outer s H E ds O R hr h=>?_)
 ·obtain ⟨⟨_,_,_,_,rfl,_⟩,_⟩:=h; rfl
 ·obtain ⟨⟨m,t,b,o,rfl,ho,hk⟩,hR⟩:=h
  have m1:=hk.m1
  have m2:=hk.m2
  have t0:=hk.t0
  have tb:=hk.tb
  have b2:=hk.b2
  have o2:=hk.o2
  refine Ac (AT (CQ (Cz (AD zn (hr.mono wE) (Ab (Aa 1) (Ab (Aa 2) (Ab (Aa 3) Af))) ⟨_,_,_,rfl,rfl⟩))) (λhc=>?_) (λhc=>Aq ?_))
  ·have z:t=0/\0<o:=by
    simp only [Bool.not_eq_true',Bool.and_eq_false_iff,Bool.or_eq_false_iff,decide_eq_false_iff_not] at hc
    omega
   exact Ac (AG (Ae.ev Dd (hR _ ⟨m,t,b,o,rfl,.inl ⟨z.1,z.2,rfl⟩⟩)))
  have z:¬ (t=0/\0<o):=by
   simp only [Bool.not_eq_false',Bool.and_eq_true,Bool.or_eq_true,decide_eq_true_eq] at hc
   omega
  have hp:1<=t ^ o.toNat:=by
   by_cases h0:t=0
   ·have:o=0:=by omega
    subst this
    simp
   ·exact Int.pow_pos wF
  refine Ac (AW 4 (Ae.ev Ag ?_) EU.nd)
  refine Ac (AW 5 (Ae.ev (Ai (Ai (AD jd (hr.mono wE) (Ab (Aa 1) (Ab (Aa 3) Af)) ⟨_,_,rfl,⟨by omega,by omega⟩,⟨by omega,by omega⟩,rfl⟩) Ag (BH (by first | assumption | exact BC.ok (Or.inl ⟨by omega,by omega⟩) | exact BC.ok (Or.inr ⟨by omega,by omega⟩)))) (Aa 2) (BH (by first | assumption | exact BC.ok (Or.inl ⟨by omega,by omega⟩) | exact BC.ok (Or.inr ⟨by omega,by omega⟩)))) ?_) EU.nd)
  refine Ac (AW 6 (Ae.ev (Ai (Ai (Aa 0) (AD jd (hr.mono wE) (Ab (Aa 2) (Ab (Aa 3) Af)) ⟨_,_,rfl,⟨by omega,by omega⟩,⟨by omega,by omega⟩,rfl⟩) (BH (by first | assumption | exact BC.ok (Or.inl ⟨by omega,by omega⟩) | exact BC.ok (Or.inr ⟨by omega,by omega⟩)))) (Ai (Aa 2) (Aa 1) Bl) (BH (by first | assumption | exact BC.ok (Or.inl ⟨by omega,by omega⟩) | exact BC.ok (Or.inr ⟨by omega,by omega⟩)))) ?_) EU.nd)
  refine Ac (ML (λρ O'=>∃ e:Nat,ρ=[some (.int m),some (.int t),some (.int b),some (.int o),some (.int (e:Nat)),some (.int (t ^ o.toNat*(2*b) ^ (e+1))),some (.int (m*b ^ o.toNat*(b+t) ^ (e+1)))]/\O'=O/\Cu m t b o.toNat e) W0 ⟨0,?_,rfl,le0 hk⟩ ?_)
  ·rw [show t ^ o.toNat*2*b=t ^ o.toNat*(2*b) ^ (0+1) by rw [Int.pow_succ,Int.pow_zero,Int.one_mul,Int.mul_assoc],show m*b ^ o.toNat*(b+t)=m*b ^ o.toNat*(b+t) ^ (0+1) by rw [Int.pow_succ,Int.pow_zero,Int.one_mul]]
   rfl
  rintro ρ O' ⟨e,rfl,rfl,he⟩
  have hf:e<56000:=L1 hk hp he
  have sw:m*b ^ o.toNat*(b+t) ^ (e+1)=m*(b+t) ^ (e+1)*b ^ o.toNat:=by rw [Int.mul_assoc,Int.mul_comm (b ^ o.toNat),<- Int.mul_assoc]
  refine ⟨_,(AM (Aa 5) (Aa 6) EH),λhc=>?_,λhc=>?_⟩
  ·have hc:=of_decide_eq_true hc
   rw [sw] at hc
   refine Ac (AW 4 (Ae.ev (Ai (Aa 4) Ag Bl) ?_) EU.nd)
   refine Ac (AW 5 (Ae.ev (Ai (Ai (Aa 5) Ag (BH (by first | assumption | exact BC.ok (Or.inl ⟨by omega,by omega⟩) | exact BC.ok (Or.inr ⟨by omega,by omega⟩)))) (Aa 2) (BH (by first | assumption | exact BC.ok (Or.inl ⟨by omega,by omega⟩) | exact BC.ok (Or.inr ⟨by omega,by omega⟩)))) ?_) EU.nd)
   refine Ac (AW 6 (Ae.ev (Ai (Aa 6) (Ai (Aa 2) (Aa 1) Bl) (BH (by first | assumption | exact BC.ok (Or.inl ⟨by omega,by omega⟩) | exact BC.ok (Or.inr ⟨by omega,by omega⟩)))) ?_) EU.nd)
   refine Aq ⟨⟨e+1,?_,rfl,hc⟩,?_⟩
   ·rw [show t ^ o.toNat*(2*b) ^ (e+1)*2*b=t ^ o.toNat*(2*b) ^ (e+1+1) by rw [Int.pow_succ (2*b) (e+1),Int.mul_assoc,Int.mul_assoc],show m*b ^ o.toNat*(b+t) ^ (e+1)*(b+t)=m*b ^ o.toNat*(b+t) ^ (e+1+1) by rw [Int.pow_succ (b+t) (e+1),Int.mul_assoc,Int.mul_assoc]]
    rfl
   ·show 56001-((e:Int)+1).toNat<56001-(e:Int).toNat
    omega
  ·have hc:=of_decide_eq_false hc
   rw [sw] at hc
   exact Ac (AG (Ae.ev (Aa 4) (hR _ ⟨m,t,b,o,rfl,.inr ⟨z,e,hf,rfl,he,hc⟩⟩)))
theorem VC (Fn:Av K "most_following" "most_following" Kd f fd) (hm:mg "most_following" = some (.ref f)) (hb:Binds K fd ["push","least"] []):Ak P w K mg base 1 "most_following" (Au NJ):=by
 refine A1 (k:=0) Fn Ol hm hb (λds O R h=>?_) (λcdv A outer s H E ds O R hr h=>?_)
 ·obtain ⟨_,⟨_,_,rfl,_⟩,_⟩:=h; rfl
 ·obtain ⟨d,⟨ps,l,rfl,hl,rfl⟩,hR⟩:=h
  refine Ac (AW 2 (Ae.ev (A8 T.xw (Ab (L6 (λp:Int=>if decide (p<=l)=true then some (D.int (l-p+1)) else none) ["one"] ["least"] [1] (Cq (Aa 0) wB) (by rw [sizeLine_eq]; omega) (by exact λq hq s H fp=>⟨[some _],rfl,(AZ 0 (show List.Nodup (["one","least"]:List Str) by decide +kernel)),⟨_,(AM (Aa 0) (Aa 1) EH),λhbb=>⟨_,if_pos hbb,(Ai (Ai (Aa 1) (Aa 0) Dm) Ag Bl)⟩,λhbb=>if_neg (λhcc=>Bool.false_ne_true (hbb.symm.trans hcc))⟩⟩)) Af) (Gf (ns:=(ps.filter λp=>decide (p<=l)).map λp=>l-p+1) (Or.inl (Or.inl (congrArg D.lst (by rw [Qd (λp:Int=>decide (p<=l)) (λp=>D.int (l-p+1)),List.map_map]; rfl)))))) ?_) Ol.nd)
  rw [Zh]
  refine Ac (AG (Ae.ev (A8 T.bq (Ab (Ai (Aa 2) Ag Dm) (Ab Ag Af)) ZN) ?_))
  rw [Y7]
  exact hR
theorem VH (Fn:Av K "_law_within" "_law_within" Kh f fd) (hm:mg "_law_within" = some (.ref f)) (hb:Binds K fd ["_law_sort","_law_hand_here","_law_errors","_law_many","_law_scale_here","_law_count"] []) (zo:Ak P w K mg base 2 "most_errors" (FV OP OH)) (zp:Ak P w K mg base 1 "most_following" (Au NJ)) (zq:Ak P w K mg base 1 "_law_halvings" (Au NW)) (zr:Al P w K mg base CK5 1 "total" (JM CK5 CK3)) (zt:Al P w K mg base CK3 1 "total" (JM CK5 CK3)) (zu:Al P w K mg base CK0 1 "scores" (NB CK0)) (zv:Al P w K mg base CK2 1 "rounds" (NF CK2)):Ak P w K mg base 7 "_law_within" (Nu ⟨CK1,CK5,CK3,CK2,CK4,CK0⟩):=by
 refine A1 (k:=6) Fn FR hm hb (λds O R h=>?_) (λcdv A outer s H E ds O R hr h=>?_)
 ·obtain ⟨_,_,_,_,_,_,_,rfl,_⟩:=h; rfl
 ·obtain ⟨so,q,n,m,s,x,es,rfl,hx,hm,hn,hW,hR⟩:=h
  refine HC (λρ O'=>O'=O/\∃ v6 v7 v8 v9:Option D,ρ=[some (.int so),some (.ptr q),some (.lst (es.map D.int)),some (.int (m:Nat)),some (.int s),some (.int (n:Nat)),v6,v7,v8,v9,none]) ?_ ?_
  ·by_cases h14:so=1\/so=4
   ·obtain ⟨sf,p,ws,u,rfl,hsf,hsum,hwl,hf,h17⟩:=hW.w h14
    have hV:DZ CK5 CK3 O q sf p ws u:=hx.pl
    refine AT (AU.cast (k':=true) (BB.t (Dc (AM (Aa 0) Ag A5) (λhbb=>(Dp (AM (Aa 0) Ag A5))))) (by rcases h14 with h | h <;> rw [h] <;> rfl)) (λ_=>?_) (λhk=>by cases hk)
    refine Ac (MP (Ev.evp (Dr (mv zr zt sf) (hr.mono wE) (Aa 1) hV (Fw _ _ _ _ wD wD) ⟨q,sf,p,u,ws,rfl,hV,by omega,rfl,rfl⟩)) (Eu (CJ (AZ 6 FR.nd) (CJ (AZ 7 FR.nd) Et))) ?_)
    refine Ac (AT (AU.cast (k':=false) (AM (Aa 6) (Ai (Aa 7) (Aa 3) (BH (BC.ok (Or.inr ⟨by omega,by omega⟩)))) EI) (decide_eq_false wF)) (λhk=>by cases hk) (λ_=>Aq ?_))
    by_cases h1:so=1/\s=1
    ·have:=hsf h1.1
     subst this
     have hV2:O[q]?=some (some (.ins CK5 (BD p.m p.sc p.t p.b ws u))):=hV
     refine Ac (AT (AU.cast (k':=true) (BB.t (Ei (AM (Aa 0) Ag A5) (λhbb=>(EF (AM (Aa 4) Ag A5))))) (by rw [decide_eq_true h1.1,decide_eq_true h1.2]; rfl)) (λ_=>?_) (λhk=>by cases hk))
     have hE:=h17 h1.1 h1.2
     refine Ac (Dw (Cq (Aa 2) wB) (λi ρ O'=>O'=O/\∃ v8 v9:Option D,ρ=[some (.int so),some (.ptr q),some (.lst (es.map D.int)),some (.int (m:Nat)),some (.int s),some (.int (n:Nat)),some (.int ws.sum),some (.int u),v8,v9,none]) ⟨rfl,_,_,rfl⟩ ?_ ?_)
     ·rintro i z ρ O' hz ⟨rfl,v8,v9,rfl⟩
      rw [List.getElem?_map] at hz
      obtain ⟨e,he,rfl⟩:=Option.map_eq_some_iff.mp hz
      obtain ⟨c,rfl,hc,hle⟩:=hE e (List.mem_of_getElem? he)
      have hOk:Ho (m:Nat) p.t p.b c:=⟨by omega,by omega,hf.t0,hf.tb,by have:=hf.b2; omega,by omega⟩
      refine ⟨_,AZ 8 FR.nd,?_⟩
      refine Ac (Fv (B1 zo (hr.mono wE) (Ab (Aa 3) (Ab (As (Aa 1) hV2 T.di.cls T.dm (Jt _ _ _ _ _ _)) (Ab (As (Aa 1) hV2 T.di.cls T.dq (Jw _ _ _ _ _ _)) (Ab (Aa 8) Af)))) ⟨⟨(m:Nat),p.t,p.b,(c:Nat),rfl,by omega,by rw [Int.toNat_natCast]; exact hOk⟩,λd hd=>?_⟩))
      obtain ⟨m1,t1,b1,o1,hds,hcs⟩:=hd
      injection hds with q1 hds; injection hds with q2 hds; injection hds with q3 hds; injection hds with q4 _
      injection q1 with q1; injection q2 with q2; injection q3 with q3; injection q4 with q4
      subst q1; subst q2; subst q3; subst q4
      refine ⟨_,AZ 9 FR.nd,?_⟩
      rcases hcs with ⟨g1,g2,rfl⟩ | ⟨g1,e',g2,rfl,g3,g4⟩
      ·exact Ac (AT (AU.cast (k':=false) (BB.t (Ei (l:=false) (AM (Aa 9) Dd IY) (λhbb=>absurd hbb wE))) (Bool.and_false _)) (λhk=>by cases hk) (λ_=>Aq (Aq ⟨rfl,_,_,rfl⟩)))
      ·rw [Int.toNat_natCast] at g3 g4
       have hee:¬ ((e':Nat):Int)<(n:Nat):=λz=>by
        have hlt:e'<n:=by omega
        have hz:=PB (m:=(m:Nat)) (o:=c) hf.t0 hf.tb (e:=e'+1) (d:=n-(e'+1)) (by rw [show e'+1+(n-(e'+1))=n by omega]; exact hle)
        exact g4 hz
       exact Ac (AT (AU.cast (k':=false) (BB.t (Ei (AM (Aa 9) Dd IY) (λhbb=>(EF (AM (Aa 9) (Aa 5) Ge))))) (by rw [decide_eq_false hee]; rfl)) (λhk=>by cases hk) (λ_=>Aq (Aq ⟨rfl,_,_,rfl⟩)))
     ·rintro ρ O' ⟨rfl,v8,v9,rfl⟩
      exact Aq (Aq ⟨rfl,_,_,_,_,rfl⟩)
    ·refine Ac (AT (AU.cast (k':=false) (BB.t (Ei (AM (Aa 0) Ag A5) (λhbb=>(EF (AM (Aa 4) Ag A5))))) ?_) (λhk=>by cases hk) (λ_=>Aq (Aq ⟨rfl,_,_,_,_,rfl⟩)))
     by_cases h2:so=1
     ·rw [decide_eq_true h2,decide_eq_false (show ¬ s=1 from λh=>h1 ⟨h2,h⟩)]; rfl
     ·rw [decide_eq_false h2]; rfl
   ·exact AT (AU.cast (k':=false) (BB.t (Dc (AM (Aa 0) Ag A5) (λhbb=>(Dp (AM (Aa 0) Ag A5))))) (by rw [decide_eq_false (show ¬ so=1 from λh=>h14 (.inl h)),decide_eq_false (show ¬ so=4 from λh=>h14 (.inr h))]; rfl)) (λhk=>by cases hk) (λ_=>Aq ⟨rfl,_,_,_,_,rfl⟩)
  rintro ρ O' ⟨hO,v6,v7,v8,v9,rfl⟩
  subst hO
  by_cases h2:so=2
  ·obtain ⟨ps,scs,rfl,hpl,hsl,hdue⟩:=hW.f h2
   have hF:Hy CK0 O' q (m:Nat) s ps scs:=hx.pl
   have hne:scs≠[]:=λz=>by rw [z] at hsl; have:(0:Nat)=m:=hsl; omega
   have hd:=hdue (DR scs) (Xj hne) λy hy=>LG hy
   refine Ac (AT (AU.cast (k':=true) (AM (Aa 0) Ag A5) (decide_eq_true h2)) (λ_=>?_) (λhk=>by cases hk))
   exact Ac (AG (Ae.ev (Ae.cast (d':=.bl true) (C3 (Aa 5) (AD zp (hr.mono wE) (Ab (As (Aa 1) hF T.ft.cls T.fz (Qe _ _ _ _)) (Ab (A8 T.bo (Ab (Ev.evp (Dr zu (hr.mono wE) (Aa 1) hF (IL _ _ _ _ wD) ⟨q,(m:Nat),s,ps,scs,rfl,hF,rfl,rfl⟩)) Af) (QH (ns:=scs) (Or.inr rfl) hne)) Af)) ⟨ps,_,rfl,by omega,rfl⟩) EH) (congrArg D.bl (decide_eq_true hd))) hR))
  refine Ac (AT (AU.cast (k':=false) (AM (Aa 0) Ag A5) (decide_eq_false h2)) (λhk=>by cases hk) (λ_=>Aq ?_))
  by_cases h3:so=3
  ·obtain ⟨ins,ov,rfl,hb⟩:=hW.r h3
   have hF:Gj CK2 O' q (m:Nat) s ins ov:=hx.pl
   have hh:=X7 m wF
   refine Ac (AT (AU.cast (k':=true) (AM (Aa 0) Ag A5) (decide_eq_true h3)) (λ_=>?_) (λhk=>by cases hk))
   refine Ac (AW 10 (Ae.ev (AD zq (hr.mono wE) (Ab (Aa 3) Af) ⟨_,rfl,by assumption,rfl⟩) ?_) FR.nd)
   exact Ac (AG (Ae.ev (Ae.cast (d':=.bl true) (C3 (Aa 5) (Ai (Ai (Ai (Aa 10) Ag Bl) (Ev.evp (Dr zv (hr.mono wE) (Aa 1) hF (GK _ _ _ _ wD) ⟨q,(m:Nat),s,ov,ins,rfl,hF,rfl,rfl⟩)) (BH (BC.ok (Or.inl ⟨by omega,by omega⟩)))) (Aa 10) Bl) EH) (congrArg D.bl (decide_eq_true hb))) hR))
  refine Ac (AT (AU.cast (k':=false) (AM (Aa 0) Ag A5) (decide_eq_false h3)) (λhk=>by cases hk) (λ_=>Aq ?_))
  exact Ac (AG (Ae.ev IP hR))
theorem VG (Fn:Av K "law" "law" FT f fd)  (kb:Ak P w K mg base 1 "_law_cell_at" (Au JV)) (ky:Ak P w K mg base 2 "_law_seed" (Au JO)) (zw:Ak P w K mg base 1 "_law_size" (FV Ij OF)) (zx:Ak P w K mg base 1 "_law_scale" (FV Ij OG)) (zy:Ak P w K mg base 3 "_law_turn" (Au Nv)) (zz:Ak P w K mg base 37 "_law_hand" (NV ⟨CK1,CK5,CK3,CK2,CK4,CK0⟩)) (ya:Ak P w K mg base 29 "trap" (Nw ⟨CK1,CK5,CK3,CK2,CK4,CK0⟩ 2)) (yb:Ak P w K mg base 1 "_law_is_turn" (Au NN)) (yc:Ak P w K mg base 7 "_law_within" (Nu ⟨CK1,CK5,CK3,CK2,CK4,CK0⟩)) (jh:Al P w K mg base CK1 6 "say" (BG CK1 CK5 CK3 CK2)) (jo:Al P w K mg base CK1 6 "hear" (FF CK1)) (ju:Al P w K mg base CK1 7 "anew" (FJ CK1)) (je:Al P w K mg base CK5 6 "say" (BG CK1 CK5 CK3 CK2)) (jp:Al P w K mg base CK5 8 "hear" (C8 CK5 CK3 false)) (jw:Al P w K mg base CK5 9 "anew" (C9 CK5 CK3 false)) (jf:Al P w K mg base CK3 6 "say" (BG CK1 CK5 CK3 CK2)) (jq:Al P w K mg base CK3 8 "hear" (C8 CK5 CK3 true)) (jx:Al P w K mg base CK3 9 "anew" (C9 CK5 CK3 true)) (ji:Al P w K mg base CK2 6 "say" (BG CK1 CK5 CK3 CK2)) (jr:Al P w K mg base CK2 6 "hear" (FE CK2)) (jy:Al P w K mg base CK2 8 "anew" (FI CK2)) (kf:Al P w K mg base CK4 25 "say" (Dz ⟨CK1,CK5,CK3,CK2,CK4,CK0⟩ 2)) (kg:Al P w K mg base CK4 26 "hear" (DJ ⟨CK1,CK5,CK3,CK2,CK4,CK0⟩ 2)) (kv:Al P w K mg base CK4 28 "anew" (DK ⟨CK1,CK5,CK3,CK2,CK4,CK0⟩ 2)) (jk:Al P w K mg base CK0 5 "say" (EQ CK0)) (jt:Al P w K mg base CK0 6 "hear" (FG CK0)) (jz:Al P w K mg base CK0 8 "anew" (FK CK0)):AF P w K mg base AL 39 f fd ["_law_script"] (AJ K Gw):=by
 refine Bf (k:=38) Fn Da (λds O R h=>?_) (λcdv A outer s H E ds O R hr h=>?_)
 ·obtain ⟨_,rfl,_⟩:=h; rfl
 ·obtain ⟨ns,rfl,hl,hR⟩:=h
  refine Jq ?_
  refine Ac (Fv (B1 zw (hr.mono wE) (Ab (AD kb (hr.mono wE) (Ab (Aa 0) (Ab Ag Af)) ⟨_,_,rfl,by first | decide | omega,rfl⟩) Af) ⟨⟨_,rfl⟩,λd hd=>?_⟩))
  obtain ⟨m,rfl,hm1,hm2⟩:=hd
  have hm:1<=m/\m<=24:=⟨by omega,hm2⟩
  refine ⟨_,AZ 1 Da.nd,?_⟩
  refine Ac (Fv (B1 zx (hr.mono wE) (Ab (AD kb (hr.mono wE) (Ab (Aa 0) (Ab Ag Af)) ⟨_,_,rfl,by first | decide | omega,rfl⟩) Af) ⟨⟨_,rfl⟩,λd hd=>?_⟩))
  obtain ⟨s,rfl,hs1,hs2⟩:=hd
  have hs:1<=s/\s<=10:=⟨hs1,hs2⟩
  have h0:0<=s:=by omega
  refine ⟨_,AZ 2 Da.nd,?_⟩
  refine Ac (AW 3 (Ae.ev (Ai (Ai (AD kb (hr.mono wE) (Ab (Aa 0) (Ab Ag Af)) ⟨_,_,rfl,by first | decide | omega,rfl⟩) Ag (B6 ⟨wC,wC⟩)) Ag (Bh wC)) ?_) Da.nd)
  obtain ⟨n,hn,hn60⟩:∃ n:Nat,Dh ns 2/7%61=(n:Nat)/\n<=60:=⟨(Dh ns 2/7%61).toNat,by omega,by omega⟩
  rw [hn]
  refine Ac (Fv (B1 zz (hr.mono wE) (Ab (Aa 0) (Ab (Aa 1) (Ab (Aa 2) Af))) ⟨ns,m,s,rfl,hl,hm,hs,λO1 q x u1 hq0 hx hk hd hkind=>⟨_,AZ 4 Da.nd,?_⟩⟩))
  have kp1:Kp O.length O O1:=by
   obtain ⟨Y,rfl⟩:=u1
   exact Kp.app _ (Nat.le_refl _)
  have hcl:=Zg ns none (some 63)
  refine Ac (Dw (Y5 Ag (A8 T.xr (Ab (YC (Aa 0) (by first | exact Or.inl rfl | exact Or.inr (Or.inl rfl) | exact Or.inr (Or.inr ⟨_,rfl,by first | assumption | rfl⟩)) YY (YX Ag)) Af) (C4 (by first | exact Or.inr rfl | exact Or.inl (Or.inl rfl) | exact Or.inl (Or.inr (Or.inl rfl)) | exact Or.inl (Or.inr (Or.inr ⟨_,rfl,by first | assumption | rfl⟩))))) T.xz (by first | omega | (rw [List.length_map]; omega)) (by first | omega | (rw [List.length_map]; omega)) (by first | omega | (rw [List.length_map]; omega)) (by first | omega | (rw [List.length_map]; omega))) (λi ρ O'=>∃ (v5 v6 v7:Option D) (y:Hn) (N:Nat),ρ=[some (.scr (ns.map D.int)),some (.int (m:Nat)),some (.int s),some (.int (n:Nat)),some (.ptr q),v5,v6,v7,none,none,none,none,none]/\Kp O.length O O'/\N<=i/\Ay ⟨CK1,CK5,CK3,CK2,CK4,CK0⟩ O' y q m s/\AS N y m s/\AX y<=2/\AI y m=AI x m/\Er (Dh ns 2%7) y/\AO y=AO x) ⟨_,_,_,x,0,rfl,kp1,Nat.le_refl _,hx,hk,hd,rfl,hkind,rfl⟩ ?_ ?_)
  ·rintro i z ρ O' hz ⟨v5,v6,v7,y,N,rfl,kp,hN,hy,hk,hd,han,hkd,hsz⟩
   obtain ⟨hi,rfl⟩:=GP hz
   rw [List.length_map] at hi
   have hi2:4+i<ns.length:=by omega
   refine ⟨_,AZ 5 Da.nd,?_⟩
   refine Ac (AT (AM (Ai (Ai (AD kb (hr.mono wE) (Ab (Aa 0) (Ab Ag Af)) ⟨_,_,rfl,by first | decide | omega,rfl⟩) Ag (B6 ⟨wC,wC⟩)) Ag (Bh wC)) Ag EI) (λ_=>?_) (λ_=>Aq (Aq ⟨_,_,_,y,N,rfl,kp,by omega,hy,hk,hd,han,hkd,hsz⟩)))
   obtain ⟨c,hc⟩:∃ c:Int,BO (ns.map D.int) (4+((i:Nat):Int))=some (.int c):=⟨ns[4+i],by rw [show (4:Int)+((i:Nat):Int)=((4+i:Nat):Int) by omega]; exact Fl (by rw [List.getElem?_map,List.getElem?_eq_getElem hi2]; rfl)⟩
   have hlo:=Og c (4+((i:Nat):Int))
   refine Ac (MP (AD zy (hr.mono wE) (Ab (AD ky (hr.mono wE) (Ab (Fg (Aa 0) (by first | exact Or.inl rfl | exact Or.inr (Or.inl rfl) | exact Or.inr (Or.inr ⟨_,rfl,by first | assumption | rfl⟩)) (Aa 5) hc) (Ab (Aa 5) Af)) ⟨_,_,rfl,by omega,rfl⟩) (Ab (Aa 1) (Ab (Aa 2) (Ab IP Af)))) ⟨_,m,s,true,rfl,hlo,hm2,hs1,rfl⟩) (Eu (CJ (AZ 6 Da.nd) (CJ (AZ 7 Da.nd) Et))) ?_)
   have hto:=RP (m:=m) (sl:=true) hs1 (FO c (4+((i:Nat):Int)))
   generalize HG m s true (FO c (4+((i:Nat):Int)))=tn at hto
   refine Ac (Bb (G8 (C:=⟨CK1,CK5,CK3,CK2,CK4,CK0⟩) jo jp jq jr (hr.mono wE) (hr.mono wE) (hr.mono wE) jt (hr.mono wE) kg (hr.mono wE) (Aa 4) hy hk hd wF hm (hto.said hm2) hto.2.2 (Ab (Aa 6) (Ab (Aa 7) Af)) λO3 c3 d3=>?_))
   exact Aq (Aq ⟨_,_,_,_,N+1,rfl,kp.tr (Kp.bl c3 hq0),by omega,d3,AS.hear _ _ _ _ _ hk (hto.said hm2) hto.2.2,by rw [IV]; exact hd,by rw [Mr]; exact han,hkd.hear,by rw [ET]; exact hsz⟩)
  clear kp1 hx hk hd
  rintro ρ O2 ⟨v5,v6,v7,y,N,rfl,kp,hN,hy,hk,hd,han,hkd,hsz⟩
  rw [DN,List.length_map] at hN
  have hok0:=AS.anew y m s hk
  rw [han] at hok0
  have hkx:Er (Dh ns 2%7) x:=hkind
  have hWi:=Ry hkx hok0 hm hs1 hn60
  have hdx:AX (AI x m)<=2:=by rw [<- han,He]; exact hd
  refine Ac (AW 8 (Ae.ev (Ae.cast (d':=.tup ((BX m s n (AI x m)).map tD)) (Ev.evp (B1 ya (hr.mono wE) (Ab (Aa 4) (Ab (Aa 3) Af)) ⟨q,N,m,n,s,y,rfl,hy,hk,hd,⟨by omega,hm2⟩,hs,hn60,rfl,rfl⟩)) (by rw [han])) ?_) Da.nd)
  have hgood:=LQ hok0 h0 hm2
  refine Ac (AT (AU.cast (k':=false) (BB.t (Dc (CQ (Cz (A8 T.ba (Ab (Aa 8) (Ab (DB T.xt) Af)) (Gg rfl)))) (λhbb=>(Dp (AM (A8 T.xr (Ab (Aa 8) Af) (C4 (by first | exact Or.inr rfl | exact Or.inl (Or.inl rfl) | exact Or.inl (Or.inr (Or.inl rfl)) | exact Or.inl (Or.inr (Or.inr ⟨_,rfl,by first | assumption | rfl⟩))))) (Aa 3) Gd))))) (by rw [List.length_map,Fz,decide_eq_true rfl]; rfl)) (λhk=>by cases hk) (λ_=>Aq ?_))
  refine Ac (Fv (IQ (C:=⟨CK1,CK5,CK3,CK2,CK4,CK0⟩) ju jw jx jy (hr.mono wE) (hr.mono wE) (hr.mono wE) jz (hr.mono wE) kv (hr.mono wE) (Aa 4) hy hk hd hm hs ⟨_,AZ 9 Da.nd,?_⟩))
  rw [han]
  have hlo2:=kp.l
  refine Ac (AW 10 (G6 (Ab Ag (Ab Ag Af)) ?_) Da.nd)
  have k3:Kp O.length O (O2++Bm ⟨CK1,CK5,CK3,CK2,CK4,CK0⟩ (AI x m) O2.length m s++[some (MO.lst [D.int 0,.int 0])]):=kp.tr (by rw [List.append_assoc]; exact Kp.app _ hlo2)
  have a3:Ay ⟨CK1,CK5,CK3,CK2,CK4,CK0⟩ (O2++Bm ⟨CK1,CK5,CK3,CK2,CK4,CK0⟩ (AI x m) O2.length m s++[some (MO.lst [D.int 0,.int 0])]) (A6 m s 0 (AI x m)) O2.length m s:=F6 ⟨CK1,CK5,CK3,CK2,CK4,CK0⟩ (AI x m) O2 _ m s
  have l3:(O2++Bm ⟨CK1,CK5,CK3,CK2,CK4,CK0⟩ (AI x m) O2.length m s).length=O2.length+AO (AI x m):=by rw [List.length_append,GT]
  have b3:(O2++Bm ⟨CK1,CK5,CK3,CK2,CK4,CK0⟩ (AI x m) O2.length m s++[some (MO.lst [D.int 0,.int 0])])[O2.length+AO (AI x m)]?=some (some (MO.lst [.int (Cd m s (AI x m) false 0),.int (Cd m s (AI x m) true 0)])):=by rw [<- l3]; exact Br
  rw [l3]
  generalize O2++Bm ⟨CK1,CK5,CK3,CK2,CK4,CK0⟩ (AI x m) O2.length m s++[some (MO.lst [D.int 0,.int 0])]=O3 at k3 a3 b3 ⊢
  generalize AI x m=y0 at *
  clear hkx hkind han hy hk hd hsz
  have hsd:=GF (m:=m) h0 hm2
  refine Ac (Dw (Cq (Aa 8) wB) (λi ρ O'=>∃ v11:Option D,ρ=[some (.scr (ns.map D.int)),some (.int (m:Nat)),some (.int s),some (.int (n:Nat)),some (.ptr q),v5,v6,v7,some (.tup ((BX m s n y0).map tD)),some (.ptr O2.length),some (.ptr (O2.length+AO y0)),v11,none]/\Kp O.length O O'/\Ay ⟨CK1,CK5,CK3,CK2,CK4,CK0⟩ O' (A6 m s i y0) O2.length m s/\O'[O2.length+AO y0]?=some (some (MO.lst [.int (Cd m s y0 false i),.int (Cd m s y0 true i)]))) ⟨_,rfl,k3,a3,b3⟩ ?_ ?_)
  ·clear k3 a3 b3 l3
   rintro i z ρ O' hz ⟨v11,rfl,kp,hA,hL⟩
   rw [List.getElem?_map] at hz
   obtain ⟨tn,hq2,rfl⟩:=Option.map_eq_some_iff.mp hz
   have hi:=(List.getElem?_eq_some_iff.mp hq2).1
   rw [Fz] at hi
   rw [Jz hi] at hq2
   cases hq2
   have hgi:=hgood i
   have hzi:=J0 m s y0 i
   have hdi:=L9 m s y0 i
   rw [GW,GW]
   show ∃ ρ1,_/\Ch _ ρ1 _ _ { nx:=λρ O'=>∃ v11:Option D,ρ=_/\Kp _ _ O'/\Ay ⟨CK1,CK5,CK3,CK2,CK4,CK0⟩ O' (A2 (A6 m s i y0) m (sd m s) (Be m s (A6 m s i y0))) _ _ _/\_,rt:=_,bk:=_,ct:=_ }
   generalize A6 m s i y0=w at hgi hzi hdi hA
   have hso:=Gz (m:=m) (y:=w) h0
   have hor:=N6 m s w
   have hne:=HN (m:=m) (y:=w) hs1
   generalize Be m s w=so at hso hor hne
   generalize Cd m s y0 false i=ha at hL
   generalize Cd m s y0 true i=hb at hL
   refine ⟨_,AZ 11 Da.nd,?_⟩
   refine Ac (AT (AU.cast (k':=false) (BB.t (Dc (CQ (Cz (AD yb (hr.mono wE) (Ab (Aa 11) (Ab (Aa 1) (Ab (Aa 2) Af))) ⟨m,s,so,rfl,hm2,hor,rfl⟩))) (λhbb=>(Dp (AM (IN (C:=⟨CK1,CK5,CK3,CK2,CK4,CK0⟩) jh je jf ji (hr.mono wE) jk (hr.mono wE) kf (hr.mono wE) (Aa 9) hA hgi wF hm h0 hsd (Ab (B7 (Aa 11) Ag rfl) Af)) (B7 (Aa 11) Ag rfl) A5))))) (by rw [decide_eq_false hne]; rfl)) (λhk=>by cases hk) (λ_=>Aq ?_))
   have hix:DS [D.int ha,D.int hb].length (if decide (so=0)=true then 1 else 0)=some (if decide (so=0)=true then 1 else 0):=by split <;> rfl
   have hat:BO [D.int ha,D.int hb] (if decide (so=0)=true then 1 else 0)=some (.int (if decide (so=0)=true then hb else ha)):=by split <;> rfl
   refine Ac (Rr (Ai (Fg (Aa 10) (by first | exact Or.inl rfl | exact Or.inr (Or.inl rfl) | exact Or.inr (Or.inr ⟨_,rfl,by first | assumption | rfl⟩)) (Ck T.bc (Ab (C3 (B7 (Aa 11) Ag rfl) Ag A5) Af) QJ) hat) Ag Bl) (Aa 10) hL (Ck T.bc (Ab (C3 (B7 (Aa 11) Ag rfl) Ag A5) Af) QJ) hix ?_)
   have hset:[D.int ha,D.int hb].set (if decide (so=0)=true then 1 else 0) (.int ((if decide (so=0)=true then hb else ha)+1))=[.int (ha+if decide (so=0)=false then 1 else 0),.int (hb+if decide (so=0)=true then 1 else 0)]:=by
    cases decide (so=0) <;> simp
   rw [hset]
   generalize hLs:[D.int (ha+if decide (so=0)=false then 1 else 0),.int (hb+if decide (so=0)=true then 1 else 0)]=L2
   have hL3:(O'.set (O2.length+AO y0) (some (.lst L2)))[O2.length+AO y0]?=some (some (.lst L2)):=Cb hL
   have hA3:Ay ⟨CK1,CK5,CK3,CK2,CK4,CK0⟩ (O'.set (O2.length+AO y0) (some (.lst L2))) w O2.length m s:=hA.own λj _ h2=>List.getElem?_set_ne wF
   have kp3:Kp O.length O (O'.set (O2.length+AO y0) (some (.lst L2))):=kp.tr ⟨by rw [List.length_set]; exact Nat.le_refl _,λj hj=>List.getElem?_set_ne wF⟩
   refine Ac (Bb (G8 (C:=⟨CK1,CK5,CK3,CK2,CK4,CK0⟩) jo jp jq jr (hr.mono wE) (hr.mono wE) (hr.mono wE) jt (hr.mono wE) kg (hr.mono wE) (Aa 9) hA3 hgi wF wF hm hsd hso (Ab (B7 (Aa 11) Ag rfl) (Ab (B7 (Aa 11) Ag rfl) Af)) λO4 c4 d4=>?_))
   exact Aq ⟨_,rfl,kp3.tr (Kp.bl c4 hlo2),d4,by rw [c4.o _ (.inr wF)]; exact hL3⟩
  clear k3 a3 b3
  rintro ρ O4 ⟨v11,rfl,kp4,hA,hL⟩
  rw [List.length_map,Fz] at hA hL
  have hsum:=PX m s y0 n
  have hp1:=LS m s y0 false n
  have hp2:=LS m s y0 true n
  have hes:(List.range m).map (λj=>Cd m s y0 (decide (j%2=1)) n)=(List.range m).map λj=>if j%2=1 then Cd m s y0 true n else Cd m s y0 false n:=List.map_congr_left λj _=>by
   by_cases h:j%2=1
   ·rw [decide_eq_true h,if_pos h]
   ·rw [decide_eq_false h,if_neg h]
  rw [hes] at hWi
  generalize Cd m s y0 false n=ha at *
  generalize Cd m s y0 true n=hb at *
  have hmin1:DR [ha,hb]<=ha:=LG (by simp)
  have hmin2:DR [ha,hb]<=hb:=LG (by simp)
  have hL0:O4[O2.length+AO y0]?=some (some (.lst ([ha,hb].map D.int))):=hL
  refine Ac (AT (AU.cast (k':=false) (BB.t (Dc (AM (A8 T.bo (Ab (Aa 10) Af) (QH (ns:=[ha,hb]) (Or.inl (Or.inr (Or.inr ⟨_,rfl,hL0⟩))) (by simp))) (Ai (Aa 3) Ag (B6 ⟨wC,wC⟩)) EI) (λhbb=>(Dp (AM (A8 T.xw (Ab (Aa 10) Af) (Gf (ns:=[ha,hb]) (Or.inl (Or.inr (Or.inr ⟨_,rfl,hL0⟩))))) (Aa 3) Gd))))) (by rw [Sx,decide_eq_false (show ¬ DR [ha,hb]>(n:Nat)/2 by omega),decide_eq_true (show ha+hb=(n:Nat) by omega)]; rfl)) (λhk=>by cases hk) (λ_=>Aq ?_))
  have hat:∀ k:Nat,BO [D.int ha,D.int hb] ((0+(k:Int))%2)=some (.int (if k%2=1 then hb else ha)):=λk=>by
   by_cases h:k%2=1
   ·rw [if_pos h,show (0+(k:Int))%2=1 by omega]; rfl
   ·rw [if_neg h,show (0+(k:Int))%2=0 by omega]; rfl
  refine Ac (Rp 12 (λk:Nat=>.int (if k%2=1 then hb else ha)) ["_law_k"] ["_law_halves"] [10] (Ek (Aa 1) T.xz wC wC) (by rw [sizeLine_eq,List.length_range,Int.toNat_natCast]; omega) (by exact λq hq s H fp=>⟨[some _],rfl,(AZ 0 (show List.Nodup (["_law_k","_law_halves"]:List Str) by decide +kernel)),⟨_,rfl,(Fg (Aa 1) (by first | exact Or.inl rfl | exact Or.inr (Or.inl rfl) | exact Or.inr (Or.inr ⟨_,rfl,by first | assumption | rfl⟩)) (Ai (Aa 0) Ag (Bh wC)) (hat q))⟩⟩) ?_ Da.nd)
  have ees:((List.range ((m:Nat):Int).toNat).map λk:Nat=>D.int (if k%2=1 then hb else ha))=((List.range m).map λj=>if j%2=1 then hb else ha).map D.int:=by rw [Int.toNat_natCast,List.map_map]; rfl
  rw [ees]
  exact Ac (AG (Ae.ev (Ev.evp (B1 yc (hr.mono wE) (Ab (Ai (AD kb (hr.mono wE) (Ab (Aa 0) (Ab Ag Af)) ⟨_,_,rfl,by first | decide | omega,rfl⟩) Ag (Bh wC)) (Ab (Aa 9) (Ab (Aa 12) (Ab (Aa 1) (Ab (Aa 2) (Ab (Aa 3) Af)))))) ⟨_,O2.length,n,m,s,A6 m s n y0,_,rfl,hA,hm,hn60,hWi,rfl,rfl⟩)) ⟨kp4.up,rfl,hR⟩))
end
theorem Xp {α:Type} {us:List α} (h:us.length=1):∃ x0,us=[x0]:=by
 match us,h with
 | [x0],_=>exact ⟨_,rfl⟩
theorem Xo {α:Type} {us:List α} (h:us.length=2):∃ x0 x1,us=[x0,x1]:=by
 match us,h with
 | [x0,x1],_=>exact ⟨_,_,rfl⟩
theorem Py {α:Type} {us:List α} (h:us.length=3):∃ x0 x1 x2,us=[x0,x1,x2]:=by
 match us,h with
 | [x0,x1,x2],_=>exact ⟨_,_,_,rfl⟩
theorem Px {α:Type} {us:List α} (h:us.length=4):∃ x0 x1 x2 x3,us=[x0,x1,x2,x3]:=by
 match us,h with
 | [x0,x1,x2,x3],_=>exact ⟨_,_,_,_,rfl⟩
theorem Pw {α:Type} {us:List α} (h:us.length=5):∃ x0 x1 x2 x3 x4,us=[x0,x1,x2,x3,x4]:=by
 match us,h with
 | [x0,x1,x2,x3,x4],_=>exact ⟨_,_,_,_,_,rfl⟩
theorem Xn {α:Type} {us:List α} (h:us.length=6):∃ x0 x1 x2 x3 x4 x5,us=[x0,x1,x2,x3,x4,x5]:=by
 match us,h with
 | [x0,x1,x2,x3,x4,x5],_=>exact ⟨_,_,_,_,_,_,rfl⟩
theorem Xm {α:Type} {us:List α} (h:us.length=7):∃ x0 x1 x2 x3 x4 x5 x6,us=[x0,x1,x2,x3,x4,x5,x6]:=by
 match us,h with
 | [x0,x1,x2,x3,x4,x5,x6],_=>exact ⟨_,_,_,_,_,_,_,rfl⟩
def FD (K:PySem.W.Frag) (x:Str) (st:Stmt) (f:Addr):Prop:=PySem.W.nsIn K mainGlobals x=some (some (.ref f))/\∃ fd,Av K x x st f fd
def FM (K:PySem.W.Frag) (C:Addr) (x q:Str) (st:Stmt) (f:Addr):Prop:=PySem.W.findIn K (.ref C) x=some (some (.ref f))/\PySem.W.isFn K (.ref f)=true/\∃ fd,Av K x q st f fd
section
variable {K:PySem.W.Frag} {C:Addr} {x q:Str} {st:Stmt} {f:Addr} {oc:Value} {od an:Option Addr} {osl:Array (Option Value)} {kV doc pm cdv ct:Value}
theorem fd_mk (a:PySem.W.nsIn K mainGlobals x=some (some (.ref f))) (l:K.lookup f=some ⟨oc,od,.func (PySem.W.fnOf x x (De st) (CC st) (An st) .none kV doc pm an cdv ct),osl⟩) (c:PySem.W.codeIn K cdv x=true) (k:PySem.W.keepIn K (.ref f)=true):FD K x st f:=⟨a,_,P6 l c k⟩
theorem fm_mk (a:PySem.W.findIn K (.ref C) x=some (some (.ref f))) (i:PySem.W.isFn K (.ref f)=true) (l:K.lookup f=some ⟨oc,od,.func (PySem.W.fnOf x q (De st) (CC st) (An st) .none kV doc pm an cdv ct),osl⟩) (c:PySem.W.codeIn K cdv q=true) (k:PySem.W.keepIn K (.ref f)=true):FM K C x q st f:=⟨a,i,_,P6 l c k⟩
end
section
variable {P:Program} {w:World} {K:PySem.W.Frag} {mg:Str->Option Value} {base:Heap} {x q:Str} {st:Stmt} {f:Addr} {fd:FuncData} {ps:List Str} {k:Nat} {sp:AQ}
theorem Ax (E:Av K x q st f fd) (h:∀ (kV doc pm:Value) (an:Option Addr) (cdv ct:Value) (us:List Value),us.length=ps.length->bindArgs (PySem.W.fnOf x q (De st) (CC st) (An st) .none kV doc pm an cdv ct) ⟨us,[]⟩=pure (ps.zip us):=by intro _ _ _ _ _ _ us hl; first | (obtain ⟨_,rfl⟩:=Xp hl; rfl) | (obtain ⟨_,_,rfl⟩:=Xo hl; rfl) | (obtain ⟨_,_,_,rfl⟩:=Py hl; rfl) | (obtain ⟨_,_,_,_,rfl⟩:=Px hl; rfl) | (obtain ⟨_,_,_,_,_,rfl⟩:=Pw hl; rfl) | (obtain ⟨_,_,_,_,_,_,rfl⟩:=Xn hl; rfl) | (obtain ⟨_,_,_,_,_,_,_,rfl⟩:=Xm hl; rfl)):L2.Binds K fd ps []:=E.binds h
theorem Bc {C:Addr} (W:AF P w K mg base AL k f fd ps (AJ K sp)) (a:PySem.W.findIn K (.ref C) x=some (some (.ref f))) (i:PySem.W.isFn K (.ref f)=true) (E:PySem.W.keepIn K (.ref f)=true) (b:L2.Binds K fd ps []) (c:A7 K C):Al P w K mg base C k x sp:=⟨⟨_,_,_,W,⟨a,i,E⟩,b⟩,c⟩
theorem F3 {C:Addr} (W:AF P w K mg base AL k f fd ps (AJ K sp)) (m:PySem.W.makesIn K C=true) (a:PySem.W.findIn K (.ref C) "__init__" = some (some (.ref f))) (i:PySem.W.isFn K (.ref f)=true) (E:PySem.W.keepIn K (.ref C)=true) (b:L2.Binds K fd ps []) (t:mg x=some (.ref C)):CI P w K mg base C k x sp:=⟨⟨_,_,_,W,⟨m,a,i,E⟩,b⟩,t⟩
end
def NZ (K:PySem.W.Frag) (x:Str):Prop:=PySem.W.nsIn K mainGlobals x=some none
def CB (K:PySem.W.Frag) (C:Addr):Prop:=PySem.W.plainGet K C Str.empty=true/\PySem.W.hasDictIn K C=true/\PySem.W.plainOver K C=true/\PySem.W.findIn K (.ref C) "__setattr__" = some (some (.builtin "object.__setattr__"))/\PySem.W.findIn K (.ref C) "__class__" = some (some (.builtin "object.__class__"))/\PySem.W.mroIn K C (.type "object")=some true
theorem CB.ty {K:PySem.W.Frag} {C:Addr} (h:CB K C) (gn:PySem.W.specialIn K (.builtin "object.__class__") "__get__" = some (some (.builtin "getset_descriptor.__get__"))) (gt:PySem.W.takesIn K (.builtin "object.__class__")=some true):Cm K C:=⟨⟨h.1,h.2.1,h.2.2.1,h.2.2.2.1⟩,h.2.2.2.2.1,gn,gt,h.2.2.2.2.2⟩
theorem all_mk {l:PySem.W.OpenLaw} {w:World} {K:PySem.W.Frag} {h:Heap} {mg:Str->Option Value} {fa:Addr} (X:K.In h) (G:h.Ns mainGlobals mg) (hfa:mg "law" = some (.ref fa)) {f0 f1 f2 f3 f4 f5 f6 f7 f8 f9 f10 f11 f12 f13 f14 f15 f16 f17 f18 f19 f20 f21 f22 f23 f24 f25 f26 f27 f28 f29 f30 f31 f32 f33 f34 f35 f36 f37 f38 f39 f40 f41 f42 f44 f45 f46 f47 f48 f49 f50 f51 f52 f53 f54 f55 f56 f57 f58 f59 f60 f61 f62 f63 f64 f65 f66 f67 f68 f69 f70 f71 f72 f73 f74 f75:Addr} {f43:Addr} {od43 an43:Option Addr} {sl43:Array (Option Value)} {oc43 kV43 dc43 pm43 cd43 ct43:Value} {CK1 CK5 CK3 CK2 CK0 CK4:Addr} {tk0:Tok} {tk1:Tok} {tk2:Tok} {tk3:Tok} {tk4:Tok} {T43:Addr} {cT43:Value} {dT43:Option Addr} {nT43:Nat} {sT43:Array (Option Value)}
  (aC0:PySem.W.nsIn K mainGlobals "Hand" = some (some (.ref CK1)))
  (aC1:PySem.W.nsIn K mainGlobals "Weigher" = some (some (.ref CK5)))
  (aC2:PySem.W.nsIn K mainGlobals "Shifter" = some (some (.ref CK3)))
  (aC3:PySem.W.nsIn K mainGlobals "Rounder" = some (some (.ref CK2)))
  (aC4:PySem.W.nsIn K mainGlobals "Follower" = some (some (.ref CK0)))
  (aC5:PySem.W.nsIn K mainGlobals "Tier" = some (some (.ref CK4)))
  (d0:FD K "is_whole" Kw f0)
  (d1:FD K "counted" KD f1)
  (d2:FD K "middle" Kg f2)
  (d3:FD K "check_within" KF f3)
  (d4:FD K "check_scale" KJ f4)
  (d5:FD K "check_making" KM f5)
  (d6:FD K "check_fraction" KN f6)
  (d7:FD K "check_share" KI f7)
  (d8:FD K "is_on_scale" Kz f8)
  (d9:FD K "is_said" Ky f9)
  (d10:FD K "check_said" KK f10)
  (d11:FD K "power" Kb f11)
  (d12:FD K "charge" KO f12)
  (d13:FD K "is_turn" Kx f13)
  (d14:FD K "check_turn" KG f14)
  (d15:FD K "awake_in" KP f15)
  (d16:FD K "middle_awake" Kf f16)
  (d17:FD K "times_awake" J7 f17)
  (d18:FD K "times_asleep" J8 f18)
  (d19:FD K "times" J9 f19)
  (d20:FD K "check_push" KL f20)
  (d21:FD K "push_of" Ka f21)
  (d22:FD K "first_least" KC f22)
  (d23:FM K CK1 "__init__" "Hand.__init__" Ld f23)
  (d24:FM K CK1 "heeded" "Hand.heeded" La f24)
  (d25:FM K CK5 "heeded" "Weigher.heeded" KU f25)
  (d26:FM K CK2 "heeded" "Rounder.heeded" K5 f26)
  (d27:FM K CK1 "say" "Hand.say" K9 f27)
  (d28:FM K CK1 "hear" "Hand.hear" Lb f28)
  (d29:FM K CK1 "anew" "Hand.anew" Lc f29)
  (d30:FM K CK2 "__init__" "Rounder.__init__" K8 f30)
  (d31:FM K CK2 "rounds" "Rounder.rounds" K4 f31)
  (d32:FM K CK2 "hear" "Rounder.hear" K6 f32)
  (d33:FM K CK2 "anew" "Rounder.anew" K7 f33)
  (d34:FM K CK5 "__init__" "Weigher.__init__" KZ f34)
  (d35:FM K CK3 "__init__" "Shifter.__init__" K3 f35)
  (d36:FM K CK5 "total" "Weigher.total" KT f36)
  (d37:FM K CK5 "weigh" "Weigher.weigh" KS f37)
  (d38:FM K CK3 "deal" "Shifter.deal" K1 f38)
  (d39:FM K CK5 "hear" "Weigher.hear" KW f39)
  (d40:FM K CK3 "hear" "Shifter.hear" K0 f40)
  (d41:FM K CK5 "anew" "Weigher.anew" KY f41)
  (d42:FM K CK3 "anew" "Shifter.anew" K2 f42)
  (a43:PySem.W.findIn K (.ref CK0) "__init__" = some (some (.ref f43)))
  (i43:PySem.W.isFn K (.ref f43)=true)
  (l43:K.lookup f43=some ⟨oc43,od43,.func (PySem.W.fnOf "__init__" "Follower.__init__" (De FU) (CC FU) (An FU) (.ref T43) kV43 dc43 pm43 an43 cd43 ct43),sl43⟩)
  (t43:K.lookup T43=some ⟨cT43,dT43,.seq #[.none] nT43,sT43⟩)
  (c43:PySem.W.codeIn K cd43 "Follower.__init__" = true)
  (k43:PySem.W.keepIn K (.ref f43)=true)
  (d44:FM K CK0 "say" "Follower.say" Lf f44)
  (d45:FM K CK0 "hear" "Follower.hear" Lg f45)
  (d46:FM K CK0 "anew" "Follower.anew" Lh f46)
  (d47:FD K "are_alike" KR f47)
  (d48:FD K "is_head" KA f48)
  (d49:FD K "check_tier" KH f49)
  (d50:FM K CK4 "__init__" "Tier.__init__" Ie f50)
  (d51:FM K CK4 "ask" "Tier.ask" HZ f51)
  (d52:FM K CK4 "say" "Tier.say" HX f52)
  (d53:FM K CK4 "hear" "Tier.hear" HY f53)
  (d54:FM K CK4 "anew" "Tier.anew" H0 f54)
  (d55:FM K CK0 "scores" "Follower.scores" Le f55)
  (d56:FD K "_law_cell_at" Kv f56)
  (d57:FD K "_law_next" Kr f57)
  (d58:FD K "_law_seed" Km f58)
  (d59:FD K "_law_said" Ko f59)
  (d60:FD K "_law_turn" Ki f60)
  (d61:FD K "_law_size" Kl f61)
  (d62:FD K "_law_scale" Kn f62)
  (d63:FD K "_law_plain" Kq f63)
  (d64:FD K "_law_tier" Kk f64)
  (d65:FD K "_law_tier" Kj f65)
  (d66:FD K "_law_hand" Kt f66)
  (d67:FD K "parted" Kc f67)
  (d68:FD K "trap" J6 f68)
  (d69:FD K "_law_is_turn" Ks f69)
  (d70:FD K "_law_halvings" Ku f70)
  (d71:FD K "has_greatest" KB f71)
  (d72:FD K "most_errors" Ke f72)
  (d73:FD K "most_following" Kd f73)
  (d74:FD K "_law_within" Kh f74)
  (d75:FD K "law" FT f75)
  (cb0:CB K CK1)
  (n0_many:Ap K CK1 "many")
  (n0_scale:Ap K CK1 "scale")
  (q0_Hand:PySem.W.kitOne K (.ref CK1) (.ref CK1)=some true)
  (mk0:PySem.W.makesIn K CK1=true)
  (kc0:PySem.W.keepIn K (.ref CK1)=true)
  (so0___init__:PySem.W.specialIn K (.ref CK1) "__getattribute__" = some (some (.builtin "type.__getattribute__")))
  (rd0___init__:PySem.W.readsIn K CK1 (.type "type")=true)
  (fc0___init__:PySem.W.findCls K (.ref CK1) (.type "type") "__init__" = some (.val (.ref f23)))
  (cb1:CB K CK5)
  (n1_many:Ap K CK5 "many")
  (n1_scale:Ap K CK5 "scale")
  (n1_top:Ap K CK5 "top")
  (n1_bottom:Ap K CK5 "bottom")
  (n1_tops:Ap K CK5 "tops")
  (n1_under:Ap K CK5 "under")
  (q1_Hand:PySem.W.kitOne K (.ref CK5) (.ref CK1)=some true)
  (mk1:PySem.W.makesIn K CK5=true)
  (kc1:PySem.W.keepIn K (.ref CK5)=true)
  (e1_say:PySem.W.findIn K (.ref CK5) "say" = some (some (.ref f27)))
  (so1___init__:PySem.W.specialIn K (.ref CK5) "__getattribute__" = some (some (.builtin "type.__getattribute__")))
  (rd1___init__:PySem.W.readsIn K CK5 (.type "type")=true)
  (fc1___init__:PySem.W.findCls K (.ref CK5) (.type "type") "__init__" = some (.val (.ref f34)))
  (cb2:CB K CK3)
  (n2_many:Ap K CK3 "many")
  (n2_scale:Ap K CK3 "scale")
  (n2_top:Ap K CK3 "top")
  (n2_bottom:Ap K CK3 "bottom")
  (n2_tops:Ap K CK3 "tops")
  (n2_under:Ap K CK3 "under")
  (n2_share:Ap K CK3 "share")
  (n2_parts:Ap K CK3 "parts")
  (q2_Hand:PySem.W.kitOne K (.ref CK3) (.ref CK1)=some true)
  (mk2:PySem.W.makesIn K CK3=true)
  (kc2:PySem.W.keepIn K (.ref CK3)=true)
  (e2_heeded:PySem.W.findIn K (.ref CK3) "heeded" = some (some (.ref f25)))
  (e2_say:PySem.W.findIn K (.ref CK3) "say" = some (some (.ref f27)))
  (e2_total:PySem.W.findIn K (.ref CK3) "total" = some (some (.ref f36)))
  (e2_weigh:PySem.W.findIn K (.ref CK3) "weigh" = some (some (.ref f37)))
  (cb3:CB K CK2)
  (n3_many:Ap K CK2 "many")
  (n3_scale:Ap K CK2 "scale")
  (n3_inside:Ap K CK2 "inside")
  (n3_over:Ap K CK2 "over")
  (q3_Hand:PySem.W.kitOne K (.ref CK2) (.ref CK1)=some true)
  (mk3:PySem.W.makesIn K CK2=true)
  (kc3:PySem.W.keepIn K (.ref CK2)=true)
  (e3_say:PySem.W.findIn K (.ref CK2) "say" = some (some (.ref f27)))
  (cb4:CB K CK0)
  (n4_many:Ap K CK0 "many")
  (n4_scale:Ap K CK0 "scale")
  (n4_push:Ap K CK0 "push")
  (n4_reached:Ap K CK0 "reached")
  (q4_Hand:PySem.W.kitOne K (.ref CK0) (.ref CK1)=some true)
  (mk4:PySem.W.makesIn K CK0=true)
  (kc4:PySem.W.keepIn K (.ref CK0)=true)
  (cb5:CB K CK4)
  (n5_many:Ap K CK4 "many")
  (n5_scale:Ap K CK4 "scale")
  (n5_hands:Ap K CK4 "hands")
  (n5_head:Ap K CK4 "head")
  (n5_charged:Ap K CK4 "charged")
  (q5_Hand:PySem.W.kitOne K (.ref CK4) (.ref CK1)=some true)
  (mk5:PySem.W.makesIn K CK4=true)
  (kc5:PySem.W.keepIn K (.ref CK4)=true)
  (gn:PySem.W.specialIn K (.builtin "object.__class__") "__get__" = some (some (.builtin "getset_descriptor.__get__")))
  (gt:PySem.W.takesIn K (.builtin "object.__class__")=some true)
  (z0:NZ K "len")
  (z1:NZ K "tuple")
  (z2:NZ K "list")
  (z3:NZ K "sum")
  (z4:NZ K "zip")
  (z5:NZ K "sorted")
  (z6:NZ K "range")
  (z7:NZ K "isinstance")
  (z8:NZ K "int")
  (z9:NZ K "bool")
  (z10:NZ K "all")
  (z11:NZ K "any")
  (z12:NZ K "enumerate")
  (z13:NZ K "abs")
  (z14:NZ K "min")
  (z15:NZ K "max")
  (y0:PySem.W.nsIn K mainGlobals "MOST_ADVISERS" = some (some (.int 24 tk0)))
  (y1:PySem.W.nsIn K mainGlobals "MOST_SCALE" = some (some (.int 10 tk1)))
  (y2:PySem.W.nsIn K mainGlobals "MOST_BOTTOM" = some (some (.int 100 tk2)))
  (y3:PySem.W.nsIn K mainGlobals "MOST_PARTS" = some (some (.int 100 tk3)))
  (y4:PySem.W.nsIn K mainGlobals "MOST_FIGURES" = some (some (.int 60 tk4))) :
  ∃ fd:FuncData,(∀ (s:Shared) (v:Value),BindsTo s fd ⟨[v],[]⟩ [("_law_script",v)])/\∀ base:Heap,K.In base->base.Ns mainGlobals mg->AF l.prog w K mg base AL 39 fa fd ["_law_script"] (AJ K Gw):=by
 obtain ⟨a75,_,E75⟩:=d75
 have e:=hfa.symm.trans (PySem.W.mg_of X G a75)
 cases e
 have T:Txt K mg CK1 CK5 CK3 CK2 CK0 CK4:=⟨PySem.W.mg_none_of X G z0,PySem.W.mg_none_of X G z1,PySem.W.mg_none_of X G z2,PySem.W.mg_none_of X G z3,PySem.W.mg_none_of X G z4,PySem.W.mg_none_of X G z5,PySem.W.mg_none_of X G z6,PySem.W.mg_none_of X G z7,PySem.W.mg_none_of X G z8,PySem.W.mg_none_of X G z9,PySem.W.mg_none_of X G z10,PySem.W.mg_none_of X G z11,PySem.W.mg_none_of X G z12,PySem.W.mg_none_of X G z13,PySem.W.mg_none_of X G z14,PySem.W.mg_none_of X G z15,⟨_,PySem.W.mg_of X G y0⟩,⟨_,PySem.W.mg_of X G y1⟩,⟨_,PySem.W.mg_of X G y2⟩,⟨_,PySem.W.mg_of X G y3⟩,⟨_,PySem.W.mg_of X G y4⟩,cb0.ty gn gt,PySem.W.mg_of X G aC0,n0_many,n0_scale,q0_Hand,cb1.ty gn gt,PySem.W.mg_of X G aC1,n1_many,n1_scale,n1_top,n1_bottom,n1_tops,n1_under,q1_Hand,cb2.ty gn gt,PySem.W.mg_of X G aC2,n2_many,n2_scale,n2_top,n2_bottom,n2_tops,n2_under,n2_share,n2_parts,q2_Hand,cb3.ty gn gt,PySem.W.mg_of X G aC3,n3_many,n3_scale,n3_inside,n3_over,q3_Hand,cb4.ty gn gt,PySem.W.mg_of X G aC4,n4_many,n4_scale,n4_push,n4_reached,q4_Hand,cb5.ty gn gt,PySem.W.mg_of X G aC5,n5_many,n5_scale,n5_hands,n5_head,n5_charged,q5_Hand⟩
 obtain ⟨a0,_,E0⟩:=d0
 obtain ⟨a1,_,E1⟩:=d1
 obtain ⟨a2,_,E2⟩:=d2
 obtain ⟨a3,_,E3⟩:=d3
 obtain ⟨a4,_,E4⟩:=d4
 obtain ⟨a5,_,E5⟩:=d5
 obtain ⟨a6,_,E6⟩:=d6
 obtain ⟨a7,_,E7⟩:=d7
 obtain ⟨a8,_,E8⟩:=d8
 obtain ⟨a9,_,E9⟩:=d9
 obtain ⟨a10,_,E10⟩:=d10
 obtain ⟨a11,_,E11⟩:=d11
 obtain ⟨a12,_,E12⟩:=d12
 obtain ⟨a13,_,E13⟩:=d13
 obtain ⟨a14,_,E14⟩:=d14
 obtain ⟨a15,_,E15⟩:=d15
 obtain ⟨a16,_,E16⟩:=d16
 obtain ⟨a17,_,E17⟩:=d17
 obtain ⟨a18,_,E18⟩:=d18
 obtain ⟨a19,_,E19⟩:=d19
 obtain ⟨a20,_,E20⟩:=d20
 obtain ⟨a21,_,E21⟩:=d21
 obtain ⟨a22,_,E22⟩:=d22
 obtain ⟨a23,i23,_,E23⟩:=d23
 have b23:=E23.binds (ps:=["self","many","scale"]) λ_ _ _ _ _ _ us hl=>by obtain ⟨_,_,_,rfl⟩:=Py hl; rfl
 obtain ⟨a24,i24,_,E24⟩:=d24
 obtain ⟨a25,i25,_,E25⟩:=d25
 obtain ⟨a26,i26,_,E26⟩:=d26
 obtain ⟨a27,i27,_,E27⟩:=d27
 obtain ⟨a28,i28,_,E28⟩:=d28
 obtain ⟨a29,i29,_,E29⟩:=d29
 obtain ⟨a30,i30,_,E30⟩:=d30
 obtain ⟨a31,i31,_,E31⟩:=d31
 obtain ⟨a32,i32,_,E32⟩:=d32
 obtain ⟨a33,i33,_,E33⟩:=d33
 obtain ⟨a34,i34,_,E34⟩:=d34
 have b34:=E34.binds (ps:=["self","many","scale","top","bottom"]) λ_ _ _ _ _ _ us hl=>by obtain ⟨_,_,_,_,_,rfl⟩:=Pw hl; rfl
 obtain ⟨a35,i35,_,E35⟩:=d35
 obtain ⟨a36,i36,_,E36⟩:=d36
 obtain ⟨a37,i37,_,E37⟩:=d37
 obtain ⟨a38,i38,_,E38⟩:=d38
 obtain ⟨a39,i39,_,E39⟩:=d39
 obtain ⟨a40,i40,_,E40⟩:=d40
 obtain ⟨a41,i41,_,E41⟩:=d41
 obtain ⟨a42,i42,_,E42⟩:=d42
 have E43:=Yt (st:=FU) (dv:=[.none]) l43 t43 c43 k43
 have b43:=E43.binds (rest:=[]) (ps:=["self","many","scale","push"]) λ_ _ _ _ _ _ _ us hl=>by rw [List.append_nil] at hl; obtain ⟨_,_,_,_,rfl⟩:=Px hl; exact ⟨_,rfl,rfl⟩
 obtain ⟨a44,i44,_,E44⟩:=d44
 obtain ⟨a45,i45,_,E45⟩:=d45
 obtain ⟨a46,i46,_,E46⟩:=d46
 obtain ⟨a47,_,E47⟩:=d47
 obtain ⟨a48,_,E48⟩:=d48
 obtain ⟨a49,_,E49⟩:=d49
 obtain ⟨a50,i50,_,E50⟩:=d50
 obtain ⟨a51,i51,_,E51⟩:=d51
 obtain ⟨a52,i52,_,E52⟩:=d52
 obtain ⟨a53,i53,_,E53⟩:=d53
 obtain ⟨a54,i54,_,E54⟩:=d54
 obtain ⟨a55,i55,_,E55⟩:=d55
 obtain ⟨a56,_,E56⟩:=d56
 obtain ⟨a57,_,E57⟩:=d57
 obtain ⟨a58,_,E58⟩:=d58
 obtain ⟨a59,_,E59⟩:=d59
 obtain ⟨a60,_,E60⟩:=d60
 obtain ⟨a61,_,E61⟩:=d61
 obtain ⟨a62,_,E62⟩:=d62
 obtain ⟨a63,_,E63⟩:=d63
 obtain ⟨a64,_,E64⟩:=d64
 obtain ⟨a65,_,E65⟩:=d65
 obtain ⟨a66,_,E66⟩:=d66
 obtain ⟨a67,_,E67⟩:=d67
 obtain ⟨a68,_,E68⟩:=d68
 obtain ⟨a69,_,E69⟩:=d69
 obtain ⟨a70,_,E70⟩:=d70
 obtain ⟨a71,_,E71⟩:=d71
 obtain ⟨a72,_,E72⟩:=d72
 obtain ⟨a73,_,E73⟩:=d73
 obtain ⟨a74,_,E74⟩:=d74
 obtain ⟨_,_,kV,dc,pm,an,cd,ct,_,rfl,_,_⟩:=E75.ex
 refine ⟨PySem.W.fnOf "law" "law" (De FT) (CC FT) (An FT) .none kV dc pm an cd ct,λs v=>.of_eq rfl,λbase _ _=>?_⟩
 have kc:=VW (P:=l.prog) (w:=w) (base:=base) T E0 (PySem.W.mg_of X G a0) (Ax E0)
 have gg:=V3 (P:=l.prog) (w:=w) (base:=base) T E1 (PySem.W.mg_of X G a1) (Ax E1)
 have gk:=VF T E2 (PySem.W.mg_of X G a2) (Ax E2) gg
 have jc:=V4 T E3 (PySem.W.mg_of X G a3) (Ax E3) kc
 have gh:=V8 T E4 (PySem.W.mg_of X G a4) (Ax E4) jc
 have gp:=Wb T E5 (PySem.W.mg_of X G a5) (Ax E5) jc gh
 have gw:=Wc T E6 (PySem.W.mg_of X G a6) (Ax E6) jc
 have gx:=V7 T E7 (PySem.W.mg_of X G a7) (Ax E7) jc
 have kh:=VZ T E8 (PySem.W.mg_of X G a8) (Ax E8) kc
 have ki:=VY T E9 (PySem.W.mg_of X G a9) (Ax E9) kh
 have jn:=V9 T E10 (PySem.W.mg_of X G a10) (Ax E10) ki
 have jd:=VA (P:=l.prog) (w:=w) (base:=base) T E11 (PySem.W.mg_of X G a11) (Ax E11)
 have jg:=Wf (P:=l.prog) (w:=w) (base:=base) T E12 (PySem.W.mg_of X G a12) (Ax E12)
 have gj:=VX T E13 (PySem.W.mg_of X G a13) (Ax E13) ki kh
 have jb:=V5 T E14 (PySem.W.mg_of X G a14) (Ax E14) gj
 have kj:=Wg (P:=l.prog) (w:=w) (base:=base) T E15 (PySem.W.mg_of X G a15) (Ax E15)
 have kz:=VE T E16 (PySem.W.mg_of X G a16) (Ax E16) gk kj
 have gl:=Vw T E17 (PySem.W.mg_of X G a17) (Ax E17) jd
 have kl:=Vx T E18 (PySem.W.mg_of X G a18) (Ax E18) jd
 have gz:=Vy T E19 (PySem.W.mg_of X G a19) (Ax E19) jg kl gl
 have gm:=Wa T E20 (PySem.W.mg_of X G a20) (Ax E20) jc jd
 have zd:=Vz T E21 (PySem.W.mg_of X G a21) (Ax E21) gm
 have ze:=V2 (P:=l.prog) (w:=w) (base:=base) T E22 (PySem.W.mg_of X G a22) (Ax E22)
 have ye:=WH T E23 gp
 have yq:=WE (P:=l.prog) (w:=w) (base:=base) T E24
 have yf:=Wl (P:=l.prog) (w:=w) (base:=base) T E25
 have yr:=Wz (P:=l.prog) (w:=w) (base:=base) T E26
 have gq:=Bc yq a24 i24 E24.kp (Ax E24) T.bz.cls
 have gr:=Bc yf a25 i25 E25.kp (Ax E25) T.di.cls
 have gu:=Bc yf e2_heeded i25 E25.kp (Ax E25) T.dw.cls
 have gv:=Bc yr a26 i26 E26.kp (Ax E26) T.fg.cls
 have gf:=WD T E27 jn kz gq gr gu gv
 have yt:=WF T E28 jb
 have km:=F3 ye mk0 a23 i23 kc0 (Ax E23) T.de
 have yu:=WG T E29 km
 have jl:EL l.prog w K mg base "Hand" 5 "__init__" (Ew (λC=>C=CK1\/C=CK5\/C=CK3\/C=CK2\/C=CK4\/C=CK0)):=⟨_,_,_,_,_,T.de,so0___init__,rd0___init__,fc0___init__,rfl,ye,E23.kp,b23⟩
 have yv:=WC T E30 jl
 have yw:=Wy (P:=l.prog) (w:=w) (base:=base) T E31
 have yx:=WA T E32 jb jg
 have kn:=F3 yv mk3 a30 i30 kc3 (Ax E30) T.fh
 have yy:=WB T E33 kn
 have yg:=Wo T E34 gw jl
 have gy:EL l.prog w K mg base "Weigher" 6 "__init__" (Gx CK5 CK3):=⟨_,_,_,_,_,T.dj,so1___init__,rd1___init__,fc1___init__,rfl,yg,E34.kp,b34⟩
 have yz:=Wx T E35 gx gy
 have yh:=Wk (P:=l.prog) (w:=w) (base:=base) T E36
 have je:=Bc gf e1_say i27 E27.kp (Ax E27) T.di.cls
 have jf:=Bc gf e2_say i27 E27.kp (Ax E27) T.dw.cls
 have yi:=Wj T E37 jg je jf gz kl
 have vc:=Wv (P:=l.prog) (w:=w) (base:=base) T E38
 have za:=Bc yi a37 i37 E37.kp (Ax E37) T.di.cls
 have vd:=Wm T E39 jb za
 have zb:=Bc yi e2_weigh i37 E37.kp (Ax E37) T.dw.cls
 have zc:=Bc vc a38 i38 E38.kp (Ax E38) T.dw.cls
 have ve:=Wu T E40 jb zb zc
 have ko:=F3 yg mk1 a34 i34 kc1 (Ax E34) T.dj
 have vf:=Wn T E41 ko
 have kt:=F3 yz mk2 a35 i35 kc2 (Ax E35) T.dy
 have vg:=Ww T E42 kt
 have vh:AF l.prog w K mg base AL 6 f43 _ ["self","many","scale","push"] (AJ K (Gy CK0)):=WM T E43 zd jl
 have vk:=WJ T E44 jn kj ze
 have vm:=WK T E45 jb jg
 have ku:CI l.prog w K mg base CK0 6 "Follower" (Gy CK0):=⟨⟨_,_,_,vh,⟨mk4,a43,i43,kc4⟩,b43⟩,T.fu⟩
 have vn:=WL T E46 ku
 have zg:=Wh (P:=l.prog) (w:=w) (base:=base) T E47 (PySem.W.mg_of X G a47) (Ax E47)
 have zh:=V0 (P:=l.prog) (w:=w) (base:=base) T E48 (PySem.W.mg_of X G a48) (Ax E48)
 have gd:=V6 T E49 (PySem.W.mg_of X G a49) (Ax E49) zg zh
 have xp:AF l.prog w K mg base AL 10 f50 _ ["self","hands","head"] (AJ K (D5 ⟨CK1,CK5,CK3,CK2,CK4,CK0⟩ 0)):=Wt T E50
 have xq:AF l.prog w K mg base AL 7 f51 _ ["self","said"] (AJ K (Ey ⟨CK1,CK5,CK3,CK2,CK4,CK0⟩ 0)):=Wr T E51
 have vo:AF l.prog w K mg base AL 9 f52 _ ["self","said"] (AJ K (Dz ⟨CK1,CK5,CK3,CK2,CK4,CK0⟩ 0)):=Wp T E52
 have vp:AF l.prog w K mg base AL 10 f53 _ ["self","said","so"] (AJ K (DJ ⟨CK1,CK5,CK3,CK2,CK4,CK0⟩ 0)):=Wq T E53
 have vq:AF l.prog w K mg base AL 12 f54 _ ["self"] (AJ K (DK ⟨CK1,CK5,CK3,CK2,CK4,CK0⟩ 0)):=Ws T E54
 have ju:=Bc yu a29 i29 E29.kp (Ax E29) T.bz.cls
 have jw:=Bc vf a41 i41 E41.kp (Ax E41) T.di.cls
 have jx:=Bc vg a42 i42 E42.kp (Ax E42) T.dw.cls
 have jy:=Bc yy a33 i33 E33.kp (Ax E33) T.fg.cls
 have jz:=Bc vn a46 i46 E46.kp (Ax E46) T.ft.cls
 have vt:=Bc vq a54 i54 E54.kp (Ax E54) T.ld.cls
 have vv:AF l.prog w K mg base AL 18 f50 _ ["self","hands","head"] (AJ K (D5 ⟨CK1,CK5,CK3,CK2,CK4,CK0⟩ 1)):=Pc (j:=0) T E50 gd jl ju jw jx jy jz vt
 have jh:=Bc gf a27 i27 E27.kp (Ax E27) T.bz.cls
 have ji:=Bc gf e3_say i27 E27.kp (Ax E27) T.fg.cls
 have jk:=Bc vk a44 i44 E44.kp (Ax E44) T.ft.cls
 have yj:=Bc vo a52 i52 E52.kp (Ax E52) T.ld.cls
 have vw:AF l.prog w K mg base AL 15 f51 _ ["self","said"] (AJ K (Ey ⟨CK1,CK5,CK3,CK2,CK4,CK0⟩ 1)):=Pa (j:=0) T E51 jh je jf ji jk yj
 have yk:=Bc vw a51 i51 E51.kp (Ax E51) T.ld.cls
 have vx:AF l.prog w K mg base AL 17 f52 _ ["self","said"] (AJ K (Dz ⟨CK1,CK5,CK3,CK2,CK4,CK0⟩ 1)):=O8 (j:=0) T E52 jn yk jh je jf ji jk yj
 have jo:=Bc yt a28 i28 E28.kp (Ax E28) T.bz.cls
 have jp:=Bc vd a39 i39 E39.kp (Ax E39) T.di.cls
 have jq:=Bc ve a40 i40 E40.kp (Ax E40) T.dw.cls
 have jr:=Bc yx a32 i32 E32.kp (Ax E32) T.fg.cls
 have jt:=Bc vm a45 i45 E45.kp (Ax E45) T.ft.cls
 have vz:=Bc vp a53 i53 E53.kp (Ax E53) T.ld.cls
 have xc:AF l.prog w K mg base AL 18 f53 _ ["self","said","so"] (AJ K (DJ ⟨CK1,CK5,CK3,CK2,CK4,CK0⟩ 1)):=O9 (j:=0) T E53 jb jg yk jo jp jq jr jt vz
 have xf:=F3 vv mk5 a50 i50 kc5 (Ax E50) T.lf
 have xg:AF l.prog w K mg base AL 20 f54 _ ["self"] (AJ K (DK ⟨CK1,CK5,CK3,CK2,CK4,CK0⟩ 1)):=Pb (j:=0) T E54 xf
 have xh:=Bc xg a54 i54 E54.kp (Ax E54) T.ld.cls
 have xi:AF l.prog w K mg base AL 26 f50 _ ["self","hands","head"] (AJ K (D5 ⟨CK1,CK5,CK3,CK2,CK4,CK0⟩ 2)):=Pc (j:=1) T E50 gd jl ju jw jx jy jz xh
 have yl:=Bc vx a52 i52 E52.kp (Ax E52) T.ld.cls
 have xj:AF l.prog w K mg base AL 23 f51 _ ["self","said"] (AJ K (Ey ⟨CK1,CK5,CK3,CK2,CK4,CK0⟩ 2)):=Pa (j:=1) T E51 jh je jf ji jk yl
 have ym:=Bc xj a51 i51 E51.kp (Ax E51) T.ld.cls
 have xk:AF l.prog w K mg base AL 25 f52 _ ["self","said"] (AJ K (Dz ⟨CK1,CK5,CK3,CK2,CK4,CK0⟩ 2)):=O8 (j:=1) T E52 jn ym jh je jf ji jk yl
 have xl:=Bc xc a53 i53 E53.kp (Ax E53) T.ld.cls
 have xm:AF l.prog w K mg base AL 26 f53 _ ["self","said","so"] (AJ K (DJ ⟨CK1,CK5,CK3,CK2,CK4,CK0⟩ 2)):=O9 (j:=1) T E53 jb jg ym jo jp jq jr jt xl
 have yd:=F3 xi mk5 a50 i50 kc5 (Ax E50) T.lf
 have xn:AF l.prog w K mg base AL 28 f54 _ ["self"] (AJ K (DK ⟨CK1,CK5,CK3,CK2,CK4,CK0⟩ 2)):=Pb (j:=1) T E54 yd
 have xo:=WI (P:=l.prog) (w:=w) (base:=base) T E55
 have kb:=VV (P:=l.prog) (w:=w) (base:=base) T E56 (PySem.W.mg_of X G a56) (Ax E56)
 have ja:=VR (P:=l.prog) (w:=w) (base:=base) T E57 (PySem.W.mg_of X G a57) (Ax E57)
 have ky:=VN T E58 (PySem.W.mg_of X G a58) (Ax E58) ja
 have zj:=VP T E59 (PySem.W.mg_of X G a59) (Ax E59) ja
 have zy:=VI T E60 (PySem.W.mg_of X G a60) (Ax E60) zj ja
 have zw:=VM (P:=l.prog) (w:=w) (base:=base) T E61 (PySem.W.mg_of X G a61) (Ax E61)
 have zx:=VO (P:=l.prog) (w:=w) (base:=base) T E62 (PySem.W.mg_of X G a62) (Ax E62)
 have ka:=VQ T E63 (PySem.W.mg_of X G a63) (Ax E63) ja km ko kt kn ku
 have kx:=VL T E64 (PySem.W.mg_of X G a64) (Ax E64) ja ka yd
 have zk:=VJ T E65 (PySem.W.mg_of X G a65) (Ax E65) ja ka yd kx
 have zz:=VT T E66 (PySem.W.mg_of X G a66) (Ax E66) kb ky ka kx zk
 have zm:=VB (P:=l.prog) (w:=w) (base:=base) T E67 (PySem.W.mg_of X G a67) (Ax E67)
 have yn:=Bc xn a54 i54 E54.kp (Ax E54) T.ld.cls
 have yo:=Bc xk a52 i52 E52.kp (Ax E52) T.ld.cls
 have yp:=Bc xm a53 i53 E53.kp (Ax E53) T.ld.cls
 have ya:=Vv T E68 (PySem.W.mg_of X G a68) (Ax E68) zm ju jh jo jw je jp jx jf jq jy ji jr yn yo yp jz jk jt
 have yb:=VS (P:=l.prog) (w:=w) (base:=base) T E69 (PySem.W.mg_of X G a69) (Ax E69)
 have zq:=VU (P:=l.prog) (w:=w) (base:=base) T E70 (PySem.W.mg_of X G a70) (Ax E70)
 have zn:=V1 (P:=l.prog) (w:=w) (base:=base) T E71 (PySem.W.mg_of X G a71) (Ax E71)
 have zo:=VD T E72 (PySem.W.mg_of X G a72) (Ax E72) jd zn
 have zp:=VC (P:=l.prog) (w:=w) (base:=base) T E73 (PySem.W.mg_of X G a73) (Ax E73)
 have zr:=Bc yh a36 i36 E36.kp (Ax E36) T.di.cls
 have zt:=Bc yh e2_total i36 E36.kp (Ax E36) T.dw.cls
 have zu:=Bc xo a55 i55 E55.kp (Ax E55) T.ft.cls
 have zv:=Bc yw a31 i31 E31.kp (Ax E31) T.fg.cls
 have yc:=VH T E74 (PySem.W.mg_of X G a74) (Ax E74) zo zp zq zr zt zu zv
 exact VG T E75 kb ky zw zx zy zz ya yb yc jh jo ju je jp jw jf jq jx ji jr jy yo yp yn jk jt jz
theorem walk {l:PySem.W.OpenLaw} {q:Program} {loose:List Str} {XP:(Str->Option Value)->Heap->Prop} {YP:World->Heap->Prop} {d:DefRec} {K:Params->PySem.W.Frag} (hn:l.most=some 63) (hdf:d.params.defaults=[])
  (hY:∀ (w:World) (h:Heap),YP w h->(K w.params).In h)
  (F:∀ (w:World) (mg:Str->Option Value) (fa:Addr) (h:Heap),(K w.params).In h->h.Ns mainGlobals mg->mg d.name=some (.ref fa)->
   ∃ fd:FuncData,(∀ (s:Shared) (u:Value),BindsTo s fd ⟨[u],[]⟩ [("_law_script",u)])/\∀ base:Heap,(K w.params).In base->base.Ns mainGlobals mg->AF l.prog w (K w.params) mg base AL 39 fa fd ["_law_script"] (AJ (K w.params) Gw)) :
  PySem.W.WalkO q loose XP YP l.row.toRowW d [] (λf vs=>PySem.call f vs):=
 L2.walk_of (n:=63) (k:=39) (x := "_law_script") (CX:=λ_=>AL) (sp:=λw=>AJ (K w.params) Gw) hn wE hdf ⟨rfl,by decide,by decide⟩ hY F (λ_ _ a ns hl _ hS=>Xv hl hS) λ_ _ _ _ _ z=>z
end My
open PySem PySem.W PyProof.Rows
theorem My.walkZ {q:Program} {loose:List Str} {XP:(Str->Option Value)->Heap->Prop} {K:Params->PySem.W.Frag} {as:List Addr} {n t:Nat} {r:RowW} {d:DefRec} {kwd:List (Str×Expr)} {run:Value->List Value->Sem Value} (e:∀ P,as=(K P).map (·.1))
  (h:WalkO q loose XP (λw h=>(K w.params).In h) r d kwd run):WalkX q loose XP (X.obsZ as) (X.valZ K n t) r d kwd run:=λw s₀ s₁ mg mb G y a o pm cd doc dV kV ho hd hcd hD hmg hg args vals as' L hpre hlay hrd hwl hlo=>
 h w s₀ s₁ mg mb G (λb o' e'=>L.keeps _ _ ((X.z_facts e y).2.1 b o' e')) a o pm cd doc dV kV ho hd hcd hD hmg hg args vals as' hpre hlay hrd hwl hlo
def PySem.W.Fast.tw12605689899220663758 : Nat := 0
def PySem.W.Fast.tw3085197933995462965 : Nat := 0
def PySem.W.Fast.tw11125509445004839327 : Nat := 0
def PySem.W.Fast.tw1678573551565054752 : Nat := 0
def PySem.W.Fast.tw4030762630411422541 : Nat := 0
def PySem.W.Fast.tw13316581936797259019 : Nat := 0
def PySem.W.Fast.tw16253433723224788700 : Nat := 0
def PySem.W.Fast.tw16277945269182068164 : Nat := 0
def PySem.W.Fast.tw7563121445496073311 : Nat := 0
def PySem.W.Fast.tw3588519988820150770 : Nat := 0
def PySem.W.Fast.tw16716108385883855051 : Nat := 0
def PySem.W.Fast.tw6314702753898968008 : Nat := 0
def PySem.W.Fast.tw2469198900029186886 : Nat := 0
def PySem.W.Fast.tw15014402412167187743 : Nat := 0
def PySem.W.Fast.tw3984841498714350936 : Nat := 0
def PySem.W.Fast.tw3878527300712293547 : Nat := 0
def PySem.W.Fast.tw1922925833448354192 : Nat := 0
def PySem.W.Fast.tw17565764204408523776 : Nat := 0
def PySem.W.Fast.tw11333603746730969215 : Nat := 0
def PySem.W.Fast.tw14223185065020735126 : Nat := 0
def PySem.W.Fast.tw13266363040845597975 : Nat := 0
def PySem.W.Fast.tw11623070525151832139 : Nat := 0
def PySem.W.Fast.tw15469085678494075835 : Nat := 0
def PySem.W.Fast.tw839728278879202615 : Nat := 0
def PySem.W.Fast.tw9915697096205843722 : Nat := 0
def PySem.W.Fast.tw2472240998910062835 : Nat := 0
def PySem.W.Fast.tw2330741384192220598 : Nat := 0
def PySem.W.Fast.tw13891181660707296483 : Nat := 0
def PySem.W.Fast.tw6503248515672422498 : Nat := 0
def PySem.W.Fast.tw14516255944967958180 : Nat := 0
def PySem.W.Fast.tw7562273928132591903 : Nat := 0
def PySem.W.Fast.tw5084897650155397483 : Nat := 0
def PySem.W.Fast.tw969279948504325471 : Nat := 0
def PySem.W.Fast.tw17438057862420972914 : Nat := 0
def PySem.W.Fast.tw7832719737374852731 : Nat := 0
def PySem.W.Fast.tw1489878807498794310 : Nat := 0
def PySem.W.Fast.tw16553104855922660459 : Nat := 0
def PySem.W.Fast.tw2787052051869955802 : Nat := 0
def PySem.W.Fast.tw9175433644371749377 : Nat := 0
def PySem.W.Fast.tw8508773907431086601 : Nat := 0
def PySem.W.Fast.tw9343986541863745913 : Nat := 0
def PySem.W.Fast.tw1968283856641529859 : Nat := 0
def PySem.W.Fast.tw13055361618163203169 : Nat := 0
def PySem.W.Fast.tw12782448465854295657 : Nat := 0
def PySem.W.Fast.tw2906793437243576004 : Nat := 0
def PySem.W.Fast.tw10168780241575075871 : Nat := 0
def PySem.W.Fast.tw15509093060502066665 : Nat := 0
def PySem.W.Fast.tw4337444217834897403 : Nat := 0
def PySem.W.Fast.tw2727827649897792240 : Nat := 0
def PySem.W.Fast.tw7287264346786074445 : Nat := 0
def PySem.W.Fast.tw611098062410846224 : Nat := 0
def PySem.W.Fast.tw16409621506257737517 : Nat := 0
def PySem.W.Fast.tw9385787729230427291 : Nat := 0
def PySem.W.Fast.tw4911670412303453007 : Nat := 0
def PySem.W.Fast.tw17704205491089436667 : Nat := 0
def PySem.W.Fast.tw6938926269008534193 : Nat := 0
def PySem.W.Fast.tw15250139589292428468 : Nat := 0
def PySem.W.Fast.tw12147587002929872023 : Nat := 0
def PySem.W.Fast.tw13754256284329946786 : Nat := 0
def PySem.W.Fast.tw9844132628727306554 : Nat := 0
def PySem.W.Fast.tw7328656844890013767 : Nat := 0
def PySem.W.Fast.tw642643874098703707 : Nat := 0
def PySem.W.Fast.tw8681035523206413412 : Nat := 0
def PySem.W.Fast.tw9674929216787733156 : Nat := 0
def PySem.W.Fast.tw16963516543331423062 : Nat := 0
def PySem.W.Fast.tw13227170591367688673 : Nat := 0
def PySem.W.Fast.tw9803102558010899453 : Nat := 0
def PySem.W.Fast.tw16254852714107969031 : Nat := 0
def PySem.W.Fast.tw6911129538264647503 : Nat := 0
def PySem.W.Fast.tw16045509436982546289 : Nat := 0
def PySem.W.Fast.tw11600743830306315913 : Nat := 0
def PySem.W.Fast.tw16159336322182216524 : Nat := 0
def PySem.W.Fast.tw12690758798105739453 : Nat := 0
def PySem.W.Fast.tw14377531495648149128 : Nat := 0
def PySem.W.Fast.tw385187362224230287 : Nat := 0
def PySem.W.Fast.tw5514498976422878662 : Nat := 0
def PySem.W.Fast.tw14716003681154473679 : Nat := 0
def PySem.W.Fast.tw9072950058178760163 : Nat := 0
def PySem.W.Fast.tw1146619633325169776 : Nat := 0
def PySem.W.Fast.tw10032804849231006655 : Nat := 0
def PySem.W.Fast.tw1174840147436049771 : Nat := 0
def PySem.W.Fast.tw12347057118607256475 : Nat := 0
def PySem.W.Fast.tw15562897239066033131 : Nat := 0
def PySem.W.Fast.tw1043502569840730830 : Nat := 0
def PySem.W.Fast.tw12685182412043433284 : Nat := 0
def PySem.W.Fast.tw5211949432712230702 : Nat := 0
def PySem.W.Fast.tw9303370630198783314 : Nat := 0
def PySem.W.Fast.tw1847889064256518708 : Nat := 0
def PySem.W.Fast.tw17321403519907088743 : Nat := 0
def PySem.W.Fast.tw17159795597029280968 : Nat := 0
def PySem.W.Fast.tw16373034257426386495 : Nat := 0
def PySem.W.Fast.tw90066452194452802 : Nat := 0
def PySem.W.Fast.tw17807042251458130994 : Nat := 0
def PySem.W.Fast.tw17220506646018783850 : Nat := 0
def PySem.W.Fast.tw13827521911279372003 : Nat := 0
def PySem.W.Fast.tw9045474108592103162 : Nat := 0
def PySem.W.Fast.tw10825295688495209069 : Nat := 0
def PySem.W.Fast.tw4006705558305320208 : Nat := 0
def PySem.W.Fast.tw18384027429441319442 : Nat := 0
def PySem.W.Fast.tw10302099713981328761 : Nat := 0
def PySem.W.Fast.tw8944605032108483851 : Nat := 0
def PySem.W.Fast.tw10620768205749275296 : Nat := 0
def PySem.W.Fast.tw3265782263233230990 : Nat := 0
def PySem.W.Fast.tw6833328405033467723 : Nat := 0
def PySem.W.Fast.tw6515220687165165577 : Nat := 0
def PySem.W.Fast.tw5920571874381174933 : Nat := 0
def PySem.W.Fast.tw3153634694510628197 : Nat := 0
def PySem.W.Fast.tw992398394681221788 : Nat := 0
def PySem.W.Fast.tw16572683510685494976 : Nat := 0
def PySem.W.Fast.tw12469707590184891417 : Nat := 0
def PySem.W.Fast.tw18404059884987491700 : Nat := 0
def PySem.W.Fast.tw9690148288609583961 : Nat := 0
def PySem.W.Fast.tw7473232977777949735 : Nat := 0
def PySem.W.Fast.tw555265481336460810 : Nat := 0
def PySem.W.Fast.tw431781069025441169 : Nat := 0
def PySem.W.Fast.tw13729096519337965517 : Nat := 0
def PySem.W.Fast.tw8941454570545188369 : Nat := 0
def PySem.W.Fast.tw10608414820086960354 : Nat := 0
def PySem.W.Fast.tw3776659267329434254 : Nat := 0
def PySem.W.Fast.tw15888148536471721197 : Nat := 0
def PySem.W.Fast.tw11281661886626735261 : Nat := 0
def PySem.W.Fast.tw2316310218703101273 : Nat := 0
def PySem.W.Fast.tw4468888389903547676 : Nat := 0
def PySem.W.Fast.tw5422433802553011524 : Nat := 0
def PySem.W.Fast.tw15647792816673208384 : Nat := 0
def PySem.W.Fast.tw1242517637220202629 : Nat := 0
def PySem.W.Fast.tw383746766444505935 : Nat := 0
def PySem.W.Fast.tw11602928596734602578 : Nat := 0
def PySem.W.Fast.tw2839624137616148907 : Nat := 0
def PySem.W.Fast.tw5577585872222927497 : Nat := 0
def PySem.W.Fast.tw2106716167171085825 : Nat := 0
def PySem.W.Fast.tw1801787669661575021 : Nat := 0
def PySem.W.Fast.tw468226466677130762 : Nat := 0
def PySem.W.Fast.tw1839936669219278457 : Nat := 0
def PySem.W.Fast.tw620318385572772646 : Nat := 0
def PySem.W.Fast.tw16507102810225013972 : Nat := 0
def PySem.W.Fast.tw487587616763136442 : Nat := 0
def PySem.W.Fast.tw3144073755072382 : Nat := 0
def PySem.W.Fast.tw12909087172910325928 : Nat := 0
def PySem.W.Fast.tw1768993980779568545 : Nat := 0
def PySem.W.Fast.tw10722957392313220668 : Nat := 0
def PySem.W.Fast.tw15508971446031403539 : Nat := 0
def PySem.W.Fast.tw14954612633624734639 : Nat := 0
def PySem.W.Fast.tw7872548424652979766 : Nat := 0
def PySem.W.Fast.tw10305596496419407774 : Nat := 0
def PySem.W.Fast.tw16228040137606317009 : Nat := 0
def PySem.W.Fast.tw2177386406668220079 : Nat := 0
def PySem.W.Fast.tw13978855003304414956 : Nat := 0
def PySem.W.Fast.tw10094291674740802647 : Nat := 0
def PySem.W.Fast.tw1566081275375857345 : Nat := 0
def PySem.W.Fast.tw3362266439670044854 : Nat := 0
def PySem.W.Fast.tw1733676225557322443 : Nat := 0
def PySem.W.Fast.tw12679461182365739254 : Nat := 0
def PySem.W.Fast.tw5772196820608508074 : Nat := 0
def PySem.W.Fast.tw12385406083837912347 : Nat := 0
def PySem.W.Fast.tw12332232772560174876 : Nat := 0
def PySem.W.Fast.tw2581151790414442610 : Nat := 0
def PySem.W.Fast.tw7077950848040103747 : Nat := 0
def PySem.W.Fast.tw12980648794449935607 : Nat := 0
def PySem.W.Fast.tw14672206367751653990 : Nat := 0
def PySem.W.Fast.tw15481854016736220375 : Nat := 0
def PySem.W.Fast.tw7175824139064689740 : Nat := 0
def PySem.W.Fast.tw909168005829626373 : Nat := 0
def PySem.W.Fast.tw10374232363703511421 : Nat := 0
def PySem.W.Fast.tw1174551763188509111 : Nat := 0
open PySem PySem.W PyProof.Rows
set_option maxRecDepth 100000 in
set_option maxHeartbeats 0 in
theorem PySem.Challenge.cw_heedwise_k91_whole_hurt_within_bounds_holds : PySem.Challenge.rw_heedwise_k91_whole_hurt_within_bounds.Holds := by
 w_on; o_law; z_head; (case hw=>w_witness2)
 k_fill
 refine My.walkZ (λP=>rfl) ?_
 refine My.walk (l:=PySem.Challenge.rw_heedwise_k91_whole_hurt_within_bounds) rfl rfl (λw h Y=>Y) ?F
 case F=>
  intro w mg fa h KX G hmg
  refine' My.all_mk KX G hmg ?aC0 ?aC1 ?aC2 ?aC3 ?aC4 ?aC5 ?d0 ?d1 ?d2 ?d3 ?d4 ?d5 ?d6 ?d7 ?d8 ?d9 ?d10 ?d11 ?d12 ?d13 ?d14 ?d15 ?d16 ?d17 ?d18 ?d19 ?d20 ?d21 ?d22 ?d23 ?d24 ?d25 ?d26 ?d27 ?d28 ?d29 ?d30 ?d31 ?d32 ?d33 ?d34 ?d35 ?d36 ?d37 ?d38 ?d39 ?d40 ?d41 ?d42 ?a43 ?i43 ?l43 ?t43 ?c43 ?k43 ?d44 ?d45 ?d46 ?d47 ?d48 ?d49 ?d50 ?d51 ?d52 ?d53 ?d54 ?d55 ?d56 ?d57 ?d58 ?d59 ?d60 ?d61 ?d62 ?d63 ?d64 ?d65 ?d66 ?d67 ?d68 ?d69 ?d70 ?d71 ?d72 ?d73 ?d74 ?d75 ?cb0 ?n0_many ?n0_scale ?q0_Hand ?mk0 ?kc0 ?so0___init__ ?rd0___init__ ?fc0___init__ ?cb1 ?n1_many ?n1_scale ?n1_top ?n1_bottom ?n1_tops ?n1_under ?q1_Hand ?mk1 ?kc1 ?e1_say ?so1___init__ ?rd1___init__ ?fc1___init__ ?cb2 ?n2_many ?n2_scale ?n2_top ?n2_bottom ?n2_tops ?n2_under ?n2_share ?n2_parts ?q2_Hand ?mk2 ?kc2 ?e2_heeded ?e2_say ?e2_total ?e2_weigh ?cb3 ?n3_many ?n3_scale ?n3_inside ?n3_over ?q3_Hand ?mk3 ?kc3 ?e3_say ?cb4 ?n4_many ?n4_scale ?n4_push ?n4_reached ?q4_Hand ?mk4 ?kc4 ?cb5 ?n5_many ?n5_scale ?n5_hands ?n5_head ?n5_charged ?q5_Hand ?mk5 ?kc5 ?gn ?gt ?z0 ?z1 ?z2 ?z3 ?z4 ?z5 ?z6 ?z7 ?z8 ?z9 ?z10 ?z11 ?z12 ?z13 ?z14 ?z15 ?y0 ?y1 ?y2 ?y3 ?y4
  case aC0|aC1|aC2|aC3|aC4|aC5=>
   k_is
  case d0|d1|d2|d3|d4|d5|d6|d7|d8|d9|d10|d11|d12|d13|d14|d15|d16|d17|d18|d19|d20|d21|d22|d47|d48|d49|d56|d57|d58|d59|d60|d61|d62|d63|d64|d65|d66|d67|d68|d69|d70|d71|d72|d73|d74|d75=>
   refine' My.fd_mk ?a ?l ?c ?k
   case a|l|c|k=>k_is
  case d23|d24|d25|d26|d27|d28|d29|d30|d31|d32|d33|d34|d35|d36|d37|d38|d39|d40|d41|d42|d44|d45|d46|d50|d51|d52|d53|d54|d55=>
   refine' My.fm_mk ?a ?i ?l ?c ?k
   case a|i|l|c|k=>k_is
  case cb0|cb1|cb2|cb3|cb4|cb5=>
   refine ⟨?_,?_,?_,?_,?_,?_⟩ <;> k_is
  case a43|i43|l43|t43|c43|k43|mk0|kc0|so0___init__|rd0___init__|fc0___init__|mk1|kc1|e1_say|so1___init__|rd1___init__|fc1___init__|mk2|kc2|e2_heeded|e2_say|e2_total|e2_weigh|mk3|kc3|e3_say|mk4|kc4|mk5|kc5|gn|gt|y0|y1|y2|y3|y4=>
   k_is
  case n0_many|n0_scale|n1_many|n1_scale|n1_top|n1_bottom|n1_tops|n1_under|n2_many|n2_scale|n2_top|n2_bottom|n2_tops|n2_under|n2_share|n2_parts|n3_many|n3_scale|n3_inside|n3_over|n4_many|n4_scale|n4_push|n4_reached|n5_many|n5_scale|n5_hands|n5_head|n5_charged|z0|z1|z2|z3|z4|z5|z6|z7|z8|z9|z10|z11|z12|z13|z14|z15=>
   (show _=_; k_is)
  case q0_Hand|q1_Hand|q2_Hand|q3_Hand|q4_Hand|q5_Hand=>
   kit_is
