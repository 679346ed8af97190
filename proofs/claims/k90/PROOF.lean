import PyProof.Rows.All
import Wide.All
import OpenK.KLine
import KE.KItem
import KE.KIsAll
import Wide.FinOn
import Lean
import PyProof.EqAt
import PyProof.EqKinds
import PyProof.TupleCall
import PyProof.NeKinds
import PyProof.DictUpdate
import PyProof.AttrMissHeap
import KE.KDictOf
import PyProof.TupleIter
import PyProof.WalksEnum
import PyProof.EnumMake
import PyProof.Rows.EnumRows
import PyProof.Rows.MaxTwoN
import PyProof.ZipIter
import PyProof.IsRules
import PyProof.DictRoadsH
import Wide.Seal
import PyProof.MeetsDict
import PyProof.DictIter
import PyProof.DictWalks
import KE.KDictList
import PyProof.Rows.SumAny
import PyProof.ListRange
import PyProof.AutoSeq1
import PyProof.WalkInts
import PyProof.SeqI3
import KE.KTextTable
import PyProof.MeetsStr
import PyProof.StrCalls5
import PyProof.Rows.TupDisplay
import PyProof.Rows.TupAdd
import PyProof.Rows.StrNews2
import PyProof.StrBlockI
import PyProof.DictTruth
import PyProof.Rows.SortShell
import PyProof.DictValues
import PyProof.ConsumeS
import PyProof.Draws
import PyProof.Rows.SetFrom
import PyProof.FactsAll.set_1
import KE.KDictSum
import PyProof.Rows.SortStr
import PyProof.Rows.SortWalk
import PyProof.Rows.TmSorted
import PyProof.Rows.CallKwBuiltin
import KE.KTryDeep
import PyProof.Rows.CatchBare
import PyProof.Rows.TopTwo
import OpenK.KOwn
import PySem.Challenge.RW_callmill_k90_first_fall
set_option Elab.async false
set_option linter.all false
set_option maxRecDepth 100000
set_option maxHeartbeats 4000000
namespace L2
open PySem PySem.Spec PyProof.Rows
def gS{α:Type _}{l:List α}{i:Nat}{a:α}(h:l[i]?=some a):=List.getElem?_eq_some_iff.mp h
def gO{α β:Type _}{f:α→β}{x:Option α}{b:β}(h:x.map f=some b):=Option.map_eq_some_iff.mp h
def gE:=@List.getElem?_eq_getElem
def gM:=@List.getElem?_map
def gI:=@List.mem_of_getElem?
def gP:=@Heap.get?_push_of_some
def wB:=@wpAny_bind
def gL:=@List.length_map
def gA{α:Type _}{a:α}{s t:List α}(h:a∈s++t):=List.mem_append.mp h
def gG{α:Type _}{a b:α}(h:a∈[b]):=List.mem_singleton.mp h
abbrev Key:=Sum Int Str
def keyIs:Key→Value→Bool
 | .inl k,v=>Value.isInt k v
 | .inr x,v=>Value.isStrOf x v
def keyH (w:World):Key→Int
 | .inl k=>hashInt k
 | .inr x=>hashStr w x
theorem a79:∀ {k:Key}{v:Value},keyIs k v=true→(∃ i t,k=Sum.inl i∧v=Value.int i t)∨(∃ x t,k=Sum.inr x∧v=Value.str x t)
 | .inl i,v,h=>by
   obtain ⟨t,e⟩:=Value.isInt_shape (k:=i) (v:=v) h
   exact .inl ⟨i,t,rfl,e⟩
 | .inr x,v,h=>by
   obtain ⟨t,e⟩:=Value.isStrOf_shape (x:=x) (v:=v) h
   exact .inr ⟨x,t,rfl,e⟩
theorem bu4 (a b:Int):decide ((Sum.inl a:Key)=Sum.inl b)=(a == b):=by
 by_cases e:a=b
 · subst e; simp
 · have h:¬ (Sum.inl a:Key)=Sum.inl b:=fun q=>e (Sum.inl.inj q)
   rw [decide_eq_false h]
   exact (beq_eq_false_iff_ne.mpr e).symm
theorem bu5 (a b:Str):decide ((Sum.inr a:Key)=Sum.inr b)=decide (a=b):=by
 by_cases e:a=b
 · subst e; simp
 · have h:¬ (Sum.inr a:Key)=Sum.inr b:=fun q=>e (Sum.inr.inj q)
   rw [decide_eq_false h,decide_eq_false e]
theorem bu6 (a:Int) (b:Str):decide ((Sum.inl a:Key)=Sum.inr b)=false:=decide_eq_false (fun q=>nomatch q)
theorem bu7 (a:Str) (b:Int):decide ((Sum.inr a:Key)=Sum.inl b)=false:=decide_eq_false (fun q=>nomatch q)
def mixKind (prog:Program) (w:World):PySem.KeyKind prog w Key where
 is:=keyIs
 hash:=keyH w
 inj:=fun v a b ha hb=>by
  rcases a79 ha with ⟨i,t,rfl,rfl⟩ | ⟨x,t,rfl,rfl⟩
  · rcases a79 hb with ⟨j,u,rfl,e⟩ | ⟨y,u,rfl,e⟩
    · injection e with e1 _; rw [e1]
    · exact nomatch e
  · rcases a79 hb with ⟨j,u,rfl,e⟩ | ⟨y,u,rfl,e⟩
    · exact nomatch e
    · injection e with e1 _; rw [e1]
 byValue:=fun k v h=>by
  rcases a79 h with ⟨i,t,rfl,rfl⟩ | ⟨x,t,rfl,rfl⟩ <;> rfl
 pyHash:=fun hv h=>by
  rcases a79 hv with ⟨i,t,rfl,rfl⟩ | ⟨x,t,rfl,rfl⟩
  · exact wpAny_pyHash_int h
  · exact wpAny_pyHash_str h
 eqBool:=fun hu hv h=>by
  rcases a79 hu with ⟨i,t,rfl,rfl⟩ | ⟨x,t,rfl,rfl⟩
  · rcases a79 hv with ⟨j,u,rfl,rfl⟩ | ⟨y,u,rfl,rfl⟩
    · rw [bu4] at h; exact wpAny_eqBool_int h
    · rw [bu6] at h; exact SeqAt.EqAt.int_str i t y u _ _ _ _ h
  · rcases a79 hv with ⟨j,u,rfl,rfl⟩ | ⟨y,u,rfl,rfl⟩
    · rw [bu7] at h; exact SeqAt.EqAt.str_int x t j u _ _ _ _ h
    · rw [bu5] at h; exact wpAny_eqBool_str h
 «strs»:=fun k x t v h=>by
  rcases a79 h with ⟨i,u,rfl,e⟩ | ⟨y,u,rfl,e⟩
  · exact nomatch e
  · injection e with e1 _
    subst e1
    cases v <;> rfl
inductive V where
 | non | bl (b:Bool) | int (i:Int) | str (x:Str) | byt (b:Array UInt8) | flt (b:UInt64) | ref (a:Addr) | ty (n:String)
 deriving DecidableEq
def RelV:V→Value→Prop
 | .non,u=>u=Value.none
 | .bl b,u=>u=Value.bool b
 | .int i,u=>∃ t,u=Value.int i t
 | .str x,u=>∃ t,u=Value.str x t
 | .byt b,u=>∃ t,u=Value.bytes b t
 | .flt b,u=>∃ t,u=Value.float b t
 | .ref a,u=>u=Value.ref a
 | .ty n,u=>u=Value.type n
abbrev Vals:List V→List Value→Prop:=Paired RelV
theorem Vals.length {xs:List V}{us:List Value}(r:Vals xs us):xs.length=us.length:=Paired.length r
theorem Vals.get:∀ {xs:List V}{us:List Value}{i:Nat}{x:V},Vals xs us→xs[i]?=some x→∃ u,us[i]?=some u∧RelV x u
 | _,_,_,_,.nil,e=>by simp at e
 | _,_,0,_,.cons r _,e=>by simp at e; subst e; exact ⟨_,rfl,r⟩
 | _,_,i+1,x,.cons _ t,e=>by
   obtain ⟨u,h1,h2⟩:=Vals.get (i:=i) (x:=x) t (by simpa using e)
   exact ⟨u,by simpa using h1,h2⟩
theorem Vals.set {x:V}{u:Value}(r:RelV x u):∀ {xs:List V}{us:List Value}(i:Nat),Vals xs us→Vals (xs.set i x) (us.set i u)
 | _,_,_,.nil=>.nil
 | _,_,0,.cons _ t=>.cons r t
 | _,_,i+1,.cons q t=>.cons q (Vals.set r i t)
theorem Vals.append:∀ {xs ys:List V}{us ws:List Value},Vals xs us→Vals ys ws→Vals (xs++ys) (us++ws)
 | _,_,_,_,.nil,s=>s
 | _,_,_,_,.cons r t,s=>.cons r (Vals.append t s)
theorem Vals.take:∀ {xs:List V}{us:List Value}(n:Nat),Vals xs us→Vals (xs.take n) (us.take n)
 | _,_,0,_=>.nil
 | _,_,_+1,.nil=>.nil
 | _,_,n+1,.cons r t=>.cons r (Vals.take n t)
theorem Vals.drop:∀ {xs:List V}{us:List Value}(n:Nat),Vals xs us→Vals (xs.drop n) (us.drop n)
 | _,_,0,r=>r
 | _,_,_+1,.nil=>.nil
 | _,_,n+1,.cons _ t=>Vals.drop n t
def RelO:Option V→Option Value→Prop
 | some v,some u=>RelV v u
 | none,none=>True
 | _,_=>False
def KV {κ:Type}:List (κ×V)→List (κ×Value)→Prop:=Paired fun (p:κ×V) (q:κ×Value)=>p.1=q.1∧RelV p.2 q.2
def kV:Key→V
 | .inl i=>.int i
 | .inr x=>.str x
inductive HO where
 | lst (xs:List V)
 | tup (xs:List V)
 | dK (kvs:List (Key×V)) | dT (kvs:List (List Key×V))
 | set (S:Int→Bool) (n:Nat)
 | ins (C dx:Addr) (fs:List (Str×V))
 | own (x:Addr)
 | xd (fs:List (Str×V))
 | met (f x:Addr)
 | rng (lo hi:Int)
 | frz (o:Obj) (u:HO)
 | tbl (ps:Array Value)
 | ext (φ:Heap→Prop)
abbrev Hp:=Addr→Option HO
def upd (H:Hp) (a:Addr) (o:HO):Hp:=fun b=>if b=a then some o else H b
theorem a33 {H:Hp}{a:Addr}{o:HO}:upd H a o a=some o:=by unfold upd; rw [if_pos rfl]
theorem a09 {H:Hp}{a b:Addr}{o:HO}(h:b≠a):upd H a o b=H b:=by unfold upd; rw [if_neg h]
theorem bn6 {H:Hp}{a:Addr}{o u:HO}:upd (upd H a o) a u=upd H a u:=by
 funext b; unfold upd; split <;> rfl
theorem ae0 {H:Hp}{a b:Addr}{o u:HO}(h:H a=some o) (h':H b=some u) (d:o≠u):a≠b:=by
 intro e; subst e; rw [h] at h'; exact d (Option.some.inj h')
theorem a06 {H:Hp}{a b:Addr}{o:HO}(h:H a=some o) (h':H b=none):a≠b:=by
 intro e; subst e; rw [h] at h'; cases h'
section
variable (P:Program) (w:World)
def ObjOk (H:Hp) (h:Heap) (a:Addr):HO→Prop
 | .lst xs=>xs.length≤sizeLine∧∃ (its:List Value) (n:Nat),Vals xs its∧h.get? a=some { cls:=.type "list",data:=.seq its.toArray n }
 | .tup xs=>xs.length≤sizeLine∧∃ its:List Value,Vals xs its∧IsTup h a its.toArray
 | .dK kvs=>kvs.length≤sizeLine∧(a == sysModules)=false∧∃ vs,KV kvs vs∧h.DictOf (mixKind P w) a vs
 | .dT kvs=>kvs.length≤sizeLine∧(a == sysModules)=false∧∃ xs:List (List Key×Addr×Value),
  Paired (fun (p:List Key×V) (q:List Key×Addr×Value)=>p.1=q.1∧H q.2.1=some (.tup (p.1.map kV))∧RelV p.2 q.2.2) kvs xs ∧
  ∃ o es ep,h.get? a=some o∧o.ExactDict∧o.data=.dict es ep∧es.toList=xs.map (entryOfKey (tupleKind (mixKind P w)))∧(xs.map (·.1)).Nodup
 | .set S n=>h.SetOf (intKind P w) a S n
 | .ins C dx fs=>H dx=some (.own a)∧fs.length≤1000∧dx≠a∧h.get? a=some (W.instObj C dx) ∧
  ∃ mA,h.Ns1 dx mA∧(∀ f,RelO (fs.lookup f) (mA f))∧PySem.Within mA (fs.map (·.1))
 | .own _=>∃ o,h.get? a=some o
 | .xd fs=>∃ mA,h.Ns1 a mA∧∀ f,RelO (fs.lookup f) (mA f)
 | .rng lo hi=>∃ t u v,h.get? a=some { cls:=.type "range",data:=.fields #[.int lo t,.int hi u,.int 1 v] }
 | .frz o u=>h.get? a=some o∧ObjOk H h a u
 | .tbl ps=>h.get? a=some { cls:=.none,data:=.fields ps }
 | .met f x=>h.get? a=some (W.methodObj (.ref f) (.ref x))
 | .ext φ=>φ h∧(∃ o,h.get? a=some o)∧∀ h1 h2:Heap,φ h1→(∀ o,h1.get? a=some o→h2.get? a=some o)→φ h2
def HOk (H:Hp) (h:Heap):Prop:=∀ a o,H a=some o→ObjOk P w H h a o
end
section
variable {P:Program}{w:World}{H H':Hp}{h h':Heap}{a:Addr}{o:HO}
theorem ObjOk.lt (x:ObjOk P w H h a o):a<h.objs.size:=by
 cases o with
 | lst xs=>obtain ⟨_,_,_,_,e⟩:=x; exact Heap.lt_size e
 | tup xs=>obtain ⟨_,_,_,p⟩:=x; exact p.lt
 | dK kvs=>obtain ⟨_,_,_,_,o,_,_,e,_⟩:=x; exact Heap.lt_size e
 | dT kvs=>obtain ⟨_,_,_,_,o,_,_,e,_⟩:=x; exact Heap.lt_size e
 | set S n=>obtain ⟨o,_,_,_,e,_⟩:=x; exact Heap.lt_size e
 | ins C dx fs=>obtain ⟨_,_,_,e,_⟩:=x; exact Heap.lt_size e
 | own y=>obtain ⟨_,e⟩:=x; exact Heap.lt_size e
 | xd fs=>obtain ⟨_,⟨_,_,_,e,_⟩,_⟩:=x; exact Heap.lt_size e
 | rng lo hi=>obtain ⟨_,_,_,e⟩:=x; exact Heap.lt_size e
 | frz ob u=>obtain ⟨e,_⟩:=x; exact Heap.lt_size e
 | tbl ps=>exact Heap.lt_size (show h.get? a=some _ from x)
 | met f y=>exact Heap.lt_size (show h.get? a=some _ from x)
 | ext φ=>obtain ⟨_,⟨_,e⟩,_⟩:=x; exact Heap.lt_size e
theorem Paired.mapP {α β:Type}{F G:α→β→Prop}:∀ {l₁:List α}{l₂:List β},Paired F l₁ l₂→(∀ a b,F a b→G a b)→Paired G l₁ l₂
 | _,_,.nil,_=>.nil
 | _,_,.cons r t,f=>.cons (f _ _ r) (Paired.mapP t f)
theorem ObjOk.stay (x:ObjOk P w H h a o) (k:∀ b u,(b=a∨H b=some (.own a))→h.get? b=some u→h'.get? b=some u)
 (ho:∀ b,H b=some (.own a)→H' b=some (.own a)) (ht:∀ b xs,H b=some (.tup xs)→H' b=some (.tup xs)):ObjOk P w H' h' a o:=by
 induction o with
 | lst xs=>obtain ⟨z,its,n,r,e⟩:=x; exact ⟨z,its,n,r,k _ _ (.inl rfl) e⟩
 | tup xs=>obtain ⟨z,its,r,ob,e,c⟩:=x; exact ⟨z,its,r,ob,k _ _ (.inl rfl) e,c⟩
 | dK kvs=>obtain ⟨z,y,vs,r,ob,es,ep,e,c⟩:=x; exact ⟨z,y,vs,r,ob,es,ep,k _ _ (.inl rfl) e,c⟩
 | dT kvs =>
   obtain ⟨z,y,xs,r,ob,es,ep,e,c⟩:=x
   exact ⟨z,y,xs,Paired.mapP r fun p q z=>⟨z.1,ht _ _ z.2.1,z.2.2⟩,ob,es,ep,k _ _ (.inl rfl) e,c⟩
 | set S n=>obtain ⟨ob,es,ep,t,e,c⟩:=x; exact ⟨ob,es,ep,t,k _ _ (.inl rfl) e,c⟩
 | ins C dx fs =>
   obtain ⟨d,z,ne,e,mA,⟨od,es,ep,e2,c⟩,r⟩:=x
   exact ⟨ho _ d,z,ne,k _ _ (.inl rfl) e,mA,⟨od,es,ep,k _ _ (.inr d) e2,c⟩,r⟩
 | own y=>obtain ⟨ob,e⟩:=x; exact ⟨ob,k _ _ (.inl rfl) e⟩
 | xd fs=>obtain ⟨mA,⟨od,es,ep,e,c⟩,r⟩:=x; exact ⟨mA,⟨od,es,ep,k _ _ (.inl rfl) e,c⟩,r⟩
 | rng lo hi=>obtain ⟨t,u,v,e⟩:=x; exact ⟨t,u,v,k _ _ (.inl rfl) e⟩
 | frz ob u ih=>obtain ⟨e,q⟩:=x; exact ⟨k _ _ (.inl rfl) e,ih q⟩
 | tbl ps =>
   have e:h.get? a=some { cls:=.none,data:=.fields ps }:=x
   show h'.get? a=some { cls:=.none,data:=.fields ps }
   exact k a _ (.inl rfl) e
 | met f y =>
   have e:h.get? a=some (W.methodObj (.ref f) (.ref y)):=x
   show h'.get? a=some (W.methodObj (.ref f) (.ref y))
   exact k a _ (.inl rfl) e
 | ext φ=>obtain ⟨p,⟨o,e⟩,st⟩:=x; exact ⟨st _ _ p fun o q=>k _ _ (.inl rfl) q,⟨o,k _ _ (.inl rfl) e⟩,st⟩
theorem HOk.lt (x:HOk P w H h) (e:H a=some o):a<h.objs.size:=(x a o e).lt
theorem HOk.fresh (x:HOk P w H h) (e:h.objs.size≤a):H a=none:=by
 cases q:H a with
 | none=>rfl
 | some u=>exact absurd (Nat.lt_of_lt_of_le (x.lt q) e) (Nat.lt_irrefl _)
theorem HOk.kept (x:HOk P w H h) (k:∀ b u,h.get? b=some u→h'.get? b=some u):HOk P w H h':=fun a o e =>
 (x a o e).stay (fun b u _ q=>k b u q) (fun _ q=>q) fun _ _ q=>q
theorem HOk.laid (x:HOk P w H h) (k:∀ b u,h.get? b=some u→h'.get? b=some u) (hp:h.objs.size≤a) (new:ObjOk P w (upd H a o) h' a o):HOk P w (upd H a o) h':=fun b u e=>by
 have hn:=x.fresh hp
 by_cases hb:b=a
 · subst hb; rw [a33] at e; cases e; exact new
 · rw [a09 hb] at e
   exact (x b u e).stay (fun c v _ q=>k c v q) (fun c q=>by rw [a09 (a06 q hn)]; exact q) fun c xs q=>by rw [a09 (a06 q hn)]; exact q
end
def Rd (H:Hp) (a:Addr) (u:HO):Prop:=H a=some u∨∃ o,H a=some (.frz o u)
theorem Rd.ok {P:Program}{w:World}{H:Hp}{h:Heap}{a:Addr}{u:HO}(r:Rd H a u) (x:HOk P w H h):ObjOk P w H h a u:=by
 rcases r with r | ⟨o,r⟩
 · exact x a u r
 · obtain ⟨_,q⟩:=x a _ r
   exact q
def Mut:Option HO→Prop
 | some (.lst _)=>True
 | some (.dK _)=>True
 | some (.dT _)=>True
 | some (.set _ _)=>True
 | some (.ins _ _ _)=>True
 | some (.ext _)=>True
 | _=>False
section
variable {P:Program}{w:World}{H:Hp}{h h':Heap}{x e:Addr}{o':HO}
theorem HOk.write (ok:HOk P w H h) (mu:Mut (H x)) (he:e=x∨H e=some (.own x)) (k:∀ b u,b≠e→h.get? b=some u→h'.get? b=some u) (heo:∃ u,h'.get? e=some u)
 (new:ObjOk P w (upd H x o') h' x o'):HOk P w (upd H x o') h':=fun b u q=>by
 have nown:∀ c y,H c=some (.own y)→c≠x:=fun c y r z=>by subst z; rw [r] at mu; exact mu
 have ntup:∀ c xs,H c=some (.tup xs)→c≠x:=fun c xs r z=>by subst z; rw [r] at mu; exact mu
 by_cases hb:b=x
 · subst hb; rw [a33] at q; cases q; exact new
 · rw [a09 hb] at q
   by_cases hbe:b=e
   · have q':H b=some (.own x):=by
      rcases he with z | z
      · exact absurd (hbe.trans z) hb
      · rw [hbe]; exact z
     rw [q] at q'; cases q'
     obtain ⟨v,hv⟩:=heo
     exact ⟨v,by rw [hbe]; exact hv⟩
   · refine (ok b u q).stay (fun c v hc r=>k c v ?_ r) (fun c r=>by rw [a09 (nown c b r)]; exact r) fun c xs r=>by rw [a09 (ntup c xs r)]; exact r
     rcases hc with rfl | hc
     · exact hbe
     · rintro rfl
       rcases he with z | z
       · exact nown c b hc z
       · rw [hc] at z; cases z; exact hb rfl
end
structure Un (fs ex:List Addr) (H H':Hp) (h h':Heap):Prop where
 keep:∀ b o,h.get? b=some o→H b=none→b∉fs→b∉ex→h'.get? b=some o
 slot:∀ b o,h.get? b=some o→H b=none→b∈fs→b∉ex→∃ sl,h'.get? b=some { o with slots:=sl }
 free:∀ b o,h.get? b=some o→H b=none→b∉ex→H' b=none
 there:∀ b o,h.get? b=some o→b∉ex→∃ o',h'.get? b=some o'
 tups:∀ b xs,H b=some (.tup xs)→H' b=some (.tup xs)
 frzs:∀ b o u,H b=some (.frz o u)→H' b=some (.frz o u)
 tbls:∀ b ps,H b=some (.tbl ps)→∃ more,H' b=some (.tbl (ps++more))
section
variable {fs fs' ex ex':List Addr}{H H1 H2:Hp}{h h1 h2 h':Heap}{a x e:Addr}{o:HO}
theorem Un.any (u:Un fs ex H H1 h h1) {b:Addr}{ob:Obj}(q:h.get? b=some ob) (n:H b=none) (hx:b∉ex):∃ sl,h1.get? b=some { ob with slots:=sl }:=by
 by_cases hb:b∈fs
 · exact u.slot b ob q n hb hx
 · exact ⟨ob.slots,u.keep b ob q n hb hx⟩
theorem Un.kept (k:∀ b u,h.get? b=some u→h'.get? b=some u):Un fs ex H H h h' :=
 ⟨fun b ob q _ _ _=>k b ob q,fun b ob q _ _ _=>⟨ob.slots,k b ob q⟩,fun _ _ _ n _=>n,fun b ob q _=>⟨ob,k b ob q⟩,fun _ _ q=>q,fun _ _ _ q=>q,fun _ ps q=>⟨#[],by rw [q]; simp⟩⟩
theorem Un.refl:Un fs ex H H h h:=Un.kept fun _ _ q=>q
theorem Un.laid (k:∀ b u,h.get? b=some u→h'.get? b=some u) (hp:h.objs.size≤a) (hn:H a=none):Un fs ex H (upd H a o) h h' where
 keep:=fun b u q _ _ _=>k b u q
 slot:=fun b u q _ _ _=>⟨u.slots,k b u q⟩
 free:=fun b u q n _=>by rw [a09 (Nat.ne_of_lt (Nat.lt_of_lt_of_le (Heap.lt_size q) hp))]; exact n
 there:=fun b u q _=>⟨u,k b u q⟩
 tups:=fun b xs q=>by rw [a09 (a06 q hn)]; exact q
 frzs:=fun b u xs q=>by rw [a09 (a06 q hn)]; exact q
 tbls:=fun b ps q=>⟨#[],by rw [a09 (a06 q hn),q]; simp⟩
theorem Un.write (mu:Mut (H x)) (he:e=x∨H e=some (.own x)) (k:∀ b u,b≠e→h.get? b=some u→h'.get? b=some u) (heo:∃ u,h'.get? e=some u):Un fs ex H (upd H x o) h h':=by
 have hx:∀ b,H b=none→b≠x:=fun b n z=>by subst z; rw [n] at mu; exact mu
 have hb:∀ b,H b=none→b≠e:=fun b n z=>by
  subst z
  rcases he with r | r
  · exact hx b n r
  · rw [n] at r; cases r
 have hm:∀ b u,H b=some u→¬ Mut (some u)→b≠x:=fun b u q nm z=>by subst z; rw [q] at mu; exact nm mu
 refine ⟨fun b u q n _ _=>k b u (hb b n) q,fun b u q n _ _=>⟨u.slots,k b u (hb b n) q⟩,fun b u q n _=>by rw [a09 (hx b n)]; exact n,fun b u q _=>?_,
  fun b xs q=>by rw [a09 (hm b _ q fun z=>z)]; exact q,fun b u xs q=>by rw [a09 (hm b _ q fun z=>z)]; exact q,fun b ps q=>⟨#[],by rw [a09 (hm b _ q fun z=>z),q]; simp⟩⟩
 by_cases hbe:b=e
 · subst hbe; exact heo
 · exact ⟨u,k b u hbe q⟩
end
def trk (h:Heap) (H:Hp):List Addr:=(List.range h.objs.size).filter fun a=>(H a).isSome
def hidT (h:Heap) (H:Hp):Heap:=W.hideAll h (trk h H)
theorem b64 (h:Heap) (H:Hp):(hidT h H).objs.size=h.objs.size:=W.hideAll_size _ _
theorem be7 {h:Heap}{H:Hp}{b:Addr}{o:Obj}(e:h.get? b=some o) (n:H b=none):(hidT h H).get? b=some o :=
 W.hideAll_get _ e fun hm=>by
  have q:(H b).isSome=true:=(List.mem_filter.mp hm).2
  rw [n] at q; simp at q
theorem bn7 {h:Heap}{H:Hp}{b:Addr}{o:Obj}(e:(hidT h H).get? b=some o):h.get? b=some o∧H b=none:=by
 have e':h.get? b=some o:=W.of_hideAll (trk h H) e
 refine ⟨e',?_⟩
 cases q:H b with
 | none=>rfl
 | some x =>
   have hm:b∈trk h H:=List.mem_filter.mpr ⟨List.mem_range.mpr (Heap.lt_size e'),by simp [q]⟩
   have z:(hidT h H).get? b=none:=W.hideAll_none (trk h H) hm
   rw [z] at e; cases e
def allNews (g h:Heap) (L:Addr):List (Addr×Obj):=(List.range h.objs.size).filterMap fun a=>if a=L∨(g.get? a).isSome=true then none else (h.get? a).map fun o=>(a,o)
def rest (g h:Heap) (L d:Addr):List (Addr×Obj):=(allNews g h L).filter fun p=>decide (p.1≠d)
structure Mod (K:W.Frag) (mg:Str→Option Value) (base:Heap):Prop where
 kin:K.In base
 glob:base.Ns mainGlobals mg
 blt:∃ mb,base.Ns builtinsNs mb∧∀ x:Str,x≠"__name__"→mb x=bootBuiltins x
 nolimit:base.NoLimit
structure Cx where
 prog:Program
 w:World
 K:W.Frag
 mg:Str→Option Value
 base:Heap
 A:Around
 N:List Str
 s₀:Shared
 H₀:Hp
 env:Env
 outer:List Env
 stack:List Env
 ex:List Addr
 fn:Str→Bool
 calm:Bool
 pn:List (Addr×Obj)
 xe:Value→Shared→Prop
def frs (l:List Env):List Addr:=l.filterMap (·.frame)
abbrev Cx.fs (X:Cx):List Addr:=frs X.outer
def Vis (sc:Scope) (x:Str):Prop:=sc.names.lookup x=some .local∨sc.names.lookup x=some .cell∨sc.names.lookup x=some .free
def Loc (sc:Scope) (x:Str):Prop:=sc.names.lookup x=some .local∨sc.names.lookup x=some .cell
def Look (env:Env) (h:Heap) (m:Str→Option Value) (x:Str) (u:Value):Prop :=
 (env.kindOf x=some .local∧m x=some u)∨((env.kindOf x=some .cell∨env.kindOf x=some .free)∧∃ c,env.cells.lookup x=some c∧h.IsCell c (some u))
structure Cx.Ok (X:Cx):Prop where
 mod:Mod X.K X.mg X.base
 kind:X.env.scope.kind=.function
 glob:X.env.globals=mainGlobals
 blt:X.env.builtins=builtinsNs
 above:X.s₀.heap.objs.size≤X.env.locals
 inj:∀ x y c,X.env.cells.lookup x=some c→X.env.cells.lookup y=some c→x=y
 has:∀ x,(X.env.kindOf x=some .cell∨X.env.kindOf x=some .free)→∃ c,X.env.cells.lookup x=some c
 cab:∀ x c,X.fn x=true→X.env.cells.lookup x=some c→X.s₀.heap.objs.size≤c
 hd:X.calm=true→X.A.handled=none
 frames:X.A.frames=some X.stack
 stk:X.stack=X.outer∨(X.stack=X.env::X.outer∧X.env.frame=some X.env.locals)
 exf:∀ b∈X.ex,b≠X.env.locals∧∀ x c,X.env.cells.lookup x=some c→c≠b
 bs:∀ b o,X.base.get? b=some o→X.s₀.heap.get? b=some o∧X.H₀ b=none
 bsz:X.base.objs.size≤X.s₀.heap.objs.size
 noex:∀ b o,X.base.get? b=some o→b∉X.ex
 exfs:∀ b∈X.ex,b∉X.fs
 funs:X.s₀.heap.FunFrames X.base X.outer
 frf:∀ b∈X.fs,X.H₀ b=none
structure Inv (X:Cx) (pins:List (Addr×Obj)) (σ:List (Option V)) (H:Hp) (s:Shared):Prop where
 ok:X.Ok
 os:s.os=X.s₀.os
 bare:AllBare s.gens
 base:Un X.fs X.ex X.H₀ H X.s₀.heap s.heap
 loc:∃ m,s.heap.Ns X.env.locals m∧∀ (i:Nat) (x:Str) (v:V),X.N[i]?=some x→σ[i]?=some (some v)→Vis X.env.scope x→∃ u,RelV v u∧Look X.env s.heap m x u
 cell:∀ x c,X.env.cells.lookup x=some c→∃ v,s.heap.IsCell c v
 free:H X.env.locals=none
 freeC:∀ x c,X.env.cells.lookup x=some c→H c=none
 pin:∀ p∈X.pn++pins,s.heap.get? p.1=some p.2∧H p.1=none∧p.1≠X.env.locals∧p.1∉X.fs∧∀ v,p.2.data≠.cell v
 hok:HOk X.prog X.w H s.heap
 len:σ.length=X.N.length
section
variable {X:Cx}{pins:List (Addr×Obj)}{σ:List (Option V)} {H H':Hp}{s:Shared}{h':Heap}
theorem Cx.Ok.nofr (ok:X.Ok) {b:Addr}{o:Obj}(e:X.base.get? b=some o):b∉X.fs:=fun hb=>by
 have:=(ok.funs.mem hb).1
 rw [e] at this; cases this
theorem Inv.bs (I:Inv X pins σ H s):∀ b o,X.base.get? b=some o→s.heap.get? b=some o∧H b=none:=fun b o e =>
 ⟨I.base.keep b o (I.ok.bs b o e).1 (I.ok.bs b o e).2 (I.ok.nofr e) (I.ok.noex b o e),I.base.free b o (I.ok.bs b o e).1 (I.ok.bs b o e).2 (I.ok.noex b o e)⟩
theorem Inv.bk (I:Inv X pins σ H s):∀ b o,X.base.get? b=some o→s.heap.get? b=some o:=fun b o e=>(I.bs b o e).1
theorem Inv.mod (I:Inv X pins σ H s):Mod X.K X.mg X.base:=I.ok.mod
theorem Inv.kIn (I:Inv X pins σ H s):X.K.In s.heap:=I.ok.mod.kin.keeps I.bk
theorem Inv.lt (I:Inv X pins σ H s):X.env.locals<s.heap.objs.size:=let ⟨_,hn,_⟩:=I.loc; hn.lt
theorem Inv.sz (I:Inv X pins σ H s):X.s₀.heap.objs.size≤s.heap.objs.size:=Nat.le_trans I.ok.above (Nat.le_of_lt I.lt)
theorem Inv.nofs (I:Inv X pins σ H s) {a:Addr}(h:s.heap.objs.size≤a):a∉X.fs:=fun hb=>by
 obtain ⟨_,o,ho,_⟩:=I.ok.funs.mem hb
 exact absurd (Nat.lt_of_lt_of_le (Heap.lt_size ho) (Nat.le_trans I.sz h)) (Nat.lt_irrefl _)
theorem Inv.cne (I:Inv X pins σ H s):∀ x c,X.env.cells.lookup x=some c→c≠X.env.locals:=fun x c e z=>by
 obtain ⟨v,o,ho,hd⟩:=I.cell x c e
 obtain ⟨m,⟨o',es,ep,ho',hd',_⟩,_⟩:=I.loc
 rw [z,ho'] at ho; cases ho; rw [hd'] at hd; cases hd
theorem Inv.funs (I:Inv X pins σ H s):s.heap.FunFrames X.base X.outer:=by
 have all:∀ (l:List Env),(∀ b∈frs l,b∈X.fs)→X.s₀.heap.FunFrames X.base l→s.heap.FunFrames X.base l:=by
  intro l
  induction l with
  | nil=>intro _ _; trivial
  | cons env r ih =>
    intro hs hl
    obtain ⟨hk,⟨L,o,hf,hn,ho,hd⟩,hr⟩:=hl
    have hL:L∈X.fs:=hs L (by unfold frs; rw [List.filterMap_cons,hf]; exact List.mem_cons_self)
    obtain ⟨sl,e⟩:=I.base.slot L o ho (I.ok.frf L hL) hL fun z=>I.ok.exfs L z hL
    exact ⟨hk,⟨L,_,hf,hn,e,hd⟩,ih (fun b hb=>hs b (by unfold frs; rw [List.filterMap_cons,hf]; exact List.mem_cons_of_mem _ hb)) hr⟩
 exact all X.outer (fun _ hb=>hb) I.ok.funs
theorem Inv.stack (I:Inv X pins σ H s):s.heap.FunFrames X.base X.stack:=by
 rcases I.ok.stk with e | ⟨e,hf⟩
 · rw [e]; exact I.funs
 · rw [e]
   obtain ⟨m,hn,_⟩:=I.loc
   refine .cons (by rw [I.ok.kind]; decide) hf hn ?_ I.funs
   exact Heap.get?_none_of_le (Nat.le_trans I.ok.bsz I.ok.above)
theorem Inv.stkSub (I:Inv X pins σ H s):∀ b∈frs X.stack,b∈X.env.locals::X.fs:=fun b hb=>by
 rcases I.ok.stk with e | ⟨e,hf⟩
 · rw [e] at hb; exact List.mem_cons_of_mem _ hb
 · rw [e] at hb
   unfold frs at hb
   rw [List.filterMap_cons,hf] at hb
   exact hb
theorem Inv.stkFree (I:Inv X pins σ H s):∀ b∈frs X.stack,H b=none:=fun b hb=>by
 rcases List.mem_cons.mp (I.stkSub b hb) with e | hb
 · rw [e]; exact I.free
 · obtain ⟨_,o,ho,_⟩:=I.ok.funs.mem hb
   exact I.base.free b o ho (I.ok.frf b hb) fun z=>I.ok.exfs b z hb
theorem Inv.step {g':Array GenState}{t':Nat}{d':Drawn}{ch:List Addr}(I:Inv X pins σ H s)
 (hch:∀ b∈ch,(b∈X.ex∨X.s₀.heap.objs.size≤b)∧b≠X.env.locals∧(∀ x c,X.env.cells.lookup x=some c→c≠b)∧∀ p∈X.pn++pins,p.1≠b)
 (keep:∀ b o,b≠X.env.locals→b∉X.fs→b∉ch→s.heap.get? b=some o→H b=none→h'.get? b=some o)
 (slot:∀ b o,b≠X.env.locals→b∈X.fs→b∉ch→s.heap.get? b=some o→H b=none→∃ sl,h'.get? b=some { o with slots:=sl }) (free:∀ b o,b∉ch→s.heap.get? b=some o→H b=none→H' b=none)
 (there:∀ b o,b∉ch→s.heap.get? b=some o→∃ o',h'.get? b=some o')
 (tups:∀ b xs,H b=some (.tup xs)→H' b=some (.tup xs)) (frzs:∀ b o u,H b=some (.frz o u)→H' b=some (.frz o u)) (tbls:∀ b ps,H b=some (.tbl ps)→∃ more,H' b=some (.tbl (ps++more)))
 (ns:∀ m,s.heap.Ns X.env.locals m→h'.Ns X.env.locals m) (hok:HOk X.prog X.w H' h') (hg:AllBare g') :
 Inv X pins σ H' { s with heap:=h',gens:=g',drawn:=d',toks:=t' }:=by
 have neL:∀ b o,X.s₀.heap.get? b=some o→b≠X.env.locals:=fun b o e=>Nat.ne_of_lt (Nat.lt_of_lt_of_le (Heap.lt_size e) I.ok.above)
 have neC:∀ b o,X.s₀.heap.get? b=some o→b∉X.ex→b∉ch:=fun b o e hx hb=>by
  rcases (hch b hb).1 with z | z
  · exact hx z
  · exact absurd (Nat.lt_of_lt_of_le (Heap.lt_size e) z) (Nat.lt_irrefl _)
 have cellK:∀ x c,X.env.cells.lookup x=some c→∀ v,s.heap.IsCell c v→h'.IsCell c v:=fun x c e v ⟨o,ho,hd⟩=>by
  have nch:c∉ch:=fun z=>(hch c z).2.2.1 x c e rfl
  by_cases hc:c∈X.fs
  · obtain ⟨sl,q⟩:=slot c o (I.cne x c e) hc nch ho (I.freeC x c e)
    exact ⟨_,q,hd⟩
  · exact ⟨o,keep c o (I.cne x c e) hc nch ho (I.freeC x c e),hd⟩
 refine ⟨I.ok,I.os,hg,⟨fun b o e n hb hx=>?_,fun b o e n hb hx=>?_,fun b o e n hx=>?_,fun b o e hx=>?_,fun b xs e=>tups b xs (I.base.tups b xs e),fun b o xs e=>frzs b o xs (I.base.frzs b o xs e),fun b ps e=>?_⟩,?_,fun x c e=>?_,?_,fun x c e=>?_,fun p hp=>?_,hok,I.len⟩
 · exact keep b o (neL b o e) hb (neC b o e hx) (I.base.keep b o e n hb hx) (I.base.free b o e n hx)
 · obtain ⟨sl,e1⟩:=I.base.slot b o e n hb hx
   obtain ⟨sl',e2⟩:=slot b _ (neL b o e) hb (neC b o e hx) e1 (I.base.free b o e n hx)
   exact ⟨sl',e2⟩
 · obtain ⟨o',e1⟩:=I.base.there b o e hx
   exact free b o' (neC b o e hx) e1 (I.base.free b o e n hx)
 · obtain ⟨o',e1⟩:=I.base.there b o e hx
   exact there b o' (neC b o e hx) e1
 · obtain ⟨m1,e1⟩:=I.base.tbls b ps e
   obtain ⟨m2,e2⟩:=tbls b _ e1
   exact ⟨m1++m2,by rw [e2,Array.append_assoc]⟩
 · obtain ⟨m,hn,hl⟩:=I.loc
   refine ⟨m,ns m hn,fun i x v e1 e2 e3=>?_⟩
   obtain ⟨u,r,l⟩:=hl i x v e1 e2 e3
   refine ⟨u,r,?_⟩
   rcases l with l | ⟨k,c,e,z⟩
   · exact .inl l
   · exact .inr ⟨k,c,e,cellK x c e _ z⟩
 · obtain ⟨v,z⟩:=I.cell x c e
   exact ⟨v,cellK x c e v z⟩
 · obtain ⟨m,⟨o,_,_,ho,_⟩,_⟩:=I.loc
   exact free _ o (fun z=>(hch _ z).2.1 rfl) ho I.free
 · obtain ⟨v,o,ho,hd⟩:=I.cell x c e
   exact free c o (fun z=>(hch c z).2.2.1 x c e rfl) ho (I.freeC x c e)
 · obtain ⟨e,n,ne,nf,d⟩:=I.pin p hp
   have nch:p.1∉ch:=fun z=>(hch p.1 z).2.2.2 p hp rfl
   exact ⟨keep p.1 p.2 ne nf nch e n,free p.1 p.2 nch e n,ne,nf,d⟩
theorem Inv.un {t':Nat}(I:Inv X pins σ H s) (u:Un X.fs [] H H' s.heap h') (hok:HOk X.prog X.w H' h'):Inv X pins σ H' { s with heap:=h',toks:=t' }:=by
 obtain ⟨m,⟨o,es,ep,ho,r⟩,_⟩:=id I.loc
 obtain ⟨sl,hL⟩:=u.any ho I.free (by simp)
 exact I.step (g':=s.gens) (d':=s.drawn) (ch:=[]) (fun _ z=>nomatch z) (fun b o _ hb _ e n=>u.keep b o e n hb (by simp)) (fun b o _ hb _ e n=>u.slot b o e n hb (by simp)) (fun b o _ e n=>u.free b o e n (by simp)) (fun b o _ e=>u.there b o e (by simp)) u.tups u.frzs u.tbls (fun m' hm=>by
  obtain ⟨o',es',ep',ho',r'⟩:=hm
  rw [ho] at ho'; cases ho'
  exact ⟨_,es',ep',hL,r'⟩) hok I.bare
theorem Inv.call {g':Array GenState}{t':Nat}{d':Drawn}{ch:List Addr}(I:Inv X pins σ H s) (u:Un (frs X.stack) ch H H' s.heap h') (hok:HOk X.prog X.w H' h') (hg:AllBare g')
 (hch:∀ b∈ch,(b∈X.ex∨X.s₀.heap.objs.size≤b)∧b≠X.env.locals∧(∀ x c,X.env.cells.lookup x=some c→c≠b)∧∀ p∈X.pn++pins,p.1≠b) :
 Inv X pins σ H' { s with heap:=h',gens:=g',drawn:=d',toks:=t' }:=by
 obtain ⟨m,⟨o,es,ep,ho,r⟩,_⟩:=id I.loc
 obtain ⟨sl,hL⟩:=u.any ho I.free fun z=>(hch _ z).2.1 rfl
 exact I.step (ch:=ch) hch (fun b o hL hb hc e n=>u.keep b o e n (fun z=>(List.mem_cons.mp (I.stkSub b z)).elim hL hb) hc) (fun b o _ _ hc e n=>u.any e n hc) (fun b o hc e n=>u.free b o e n hc) (fun b o hc e=>u.there b o e hc) u.tups u.frzs u.tbls (fun m' hm=>by
  obtain ⟨o',es',ep',ho',r'⟩:=hm
  rw [ho] at ho'; cases ho'
  exact ⟨_,es',ep',hL,r'⟩) hok hg
theorem Inv.turned {t':Nat}{it:Addr}(I:Inv X pins σ H s) (k:∀ b o,b≠it→s.heap.get? b=some o→h'.get? b=some o) (hn:H it=none) (hL:it≠X.env.locals)
 (h1:it∈X.ex∨X.s₀.heap.objs.size≤it) (h2:∀ x c,X.env.cells.lookup x=some c→c≠it) (h3:∀ p∈X.pn++pins,p.1≠it):Inv X pins σ H { s with heap:=h',toks:=t' }:=by
 have nit:∀ b u,H b=some u→b≠it:=fun b u e z=>by rw [z,hn] at e; cases e
 refine I.step (g':=s.gens) (d':=s.drawn) (ch:=[it]) (fun b hb=>?_) (fun b o _ _ hc e _=>k b o (fun z=>hc (by simp [z])) e) (fun b o _ _ hc e _=>⟨o.slots,k b o (fun z=>hc (by simp [z])) e⟩) (fun _ _ _ _ n=>n)
  (fun b o hc e=>⟨o,k b o (fun z=>hc (by simp [z])) e⟩) (fun _ _ e=>e) (fun _ _ _ e=>e) (fun b ps e=>⟨#[],by rw [e]; simp⟩) (fun m hm=>?_) (fun b u e=>?_) I.bare
 · have e:b=it:=by simpa using hb
   subst e
   exact ⟨h1,hL,h2,h3⟩
 · obtain ⟨o,es,ep,ho,r⟩:=hm
   exact ⟨o,es,ep,k _ o (Ne.symm hL) ho,r⟩
 · refine (I.hok b u e).stay (fun c v hc q=>k c v ?_ q) (fun _ q=>q) fun _ _ q=>q
   rcases hc with z | z
   · rw [z]; exact nit b u e
   · exact nit c _ z
theorem Inv.tok (I:Inv X pins σ H s) (t:Nat):Inv X pins σ H { s with toks:=t }:=I.un (h':=s.heap) (t':=t) Un.refl I.hok
theorem Inv.kept {t':Nat}(I:Inv X pins σ H s) (k:∀ b u,s.heap.get? b=some u→h'.get? b=some u):Inv X pins σ H { s with heap:=h',toks:=t' }:=I.un (Un.kept k) (I.hok.kept k)
theorem Inv.laid {a:Addr}{o:HO}{t':Nat}(I:Inv X pins σ H s) (k:∀ b u,s.heap.get? b=some u→h'.get? b=some u) (hp:s.heap.objs.size≤a) (new:ObjOk X.prog X.w (upd H a o) h' a o) :
 Inv X pins σ (upd H a o) { s with heap:=h',toks:=t' }:=I.un (Un.laid k hp (I.hok.fresh hp)) (I.hok.laid k hp new)
theorem Inv.write {x e:Addr}{o:HO}{t':Nat}(I:Inv X pins σ H s) (mu:Mut (H x)) (he:e=x∨H e=some (.own x)) (k:∀ b u,b≠e→s.heap.get? b=some u→h'.get? b=some u) (heo:∃ u,h'.get? e=some u)
 (new:ObjOk X.prog X.w (upd H x o) h' x o):Inv X pins σ (upd H x o) { s with heap:=h',toks:=t' }:=I.un (Un.write mu he k heo) (I.hok.write mu he k heo new)
theorem Inv.pins_of {pins':List (Addr×Obj)}(I:Inv X pins σ H s) (h:∀ p∈pins',s.heap.get? p.1=some p.2∧H p.1=none∧p.1≠X.env.locals∧p.1∉X.fs∧∀ v,p.2.data≠.cell v):Inv X pins' σ H s :=
 ⟨I.ok,I.os,I.bare,I.base,I.loc,I.cell,I.free,I.freeC,fun p hp=>(gA hp).elim (fun z=>I.pin p (List.mem_append_left _ z)) (h p),I.hok,I.len⟩
theorem ay0 {N:List Str}(hN:N.Nodup) {i j:Nat}{x:Str}(a:N[i]?=some x) (b:N[j]?=some x):i=j:=by
 obtain ⟨h1,e1⟩:=gS a
 obtain ⟨h2,e2⟩:=gS b
 exact (List.getElem_inj hN).mp (e1.trans e2.symm)
theorem aq7 {M:Model}{A:Around}{E:Value→Shared→Prop}{i:Nat}{x:Str}{v:V}{u:Value}{Q:Unit→Shared→Prop}(I:Inv X pins σ H s) (hN:X.N.Nodup) (hi:X.N[i]?=some x) (hx:Loc X.env.scope x) (r:RelV v u)
 (h:∀ s',Inv X pins (σ.set i (some v)) H s'→(∃ a,Heap.SameBut a s.heap s'.heap∧(a=X.env.locals∨X.env.cells.lookup x=some a))→Q () s') (hf:X.fn x=true∨X.env.scope.names.lookup x=some .local:=by first | exact .inl rfl | exact .inr rfl | assumption):wpAny M A (storeName X.env x u) Q E s:=by
 obtain ⟨m,hn,hl⟩:=id I.loc
 have hcls:(X.env.scope.kind == .class || (X.env.scope.kind == .module && X.env.locals != X.env.globals))=false:=by rw [I.ok.kind]; rfl
 have hiσ:i<σ.length:=by rw [I.len]; exact (gS hi).1
 have cne:=I.cne
 have tracked:∀ {a:Addr}{h':Heap},(∃ o,s.heap.get? a=some o∧H a=none)→Heap.SameBut a s.heap h'→HOk X.prog X.w H h':=fun {a h'} ha hs b ob e=>by
  obtain ⟨_,_,hfree⟩:=ha
  refine (I.hok b ob e).stay (fun c w' hc q=>(hs.2 c ?_).trans q) (fun _ q=>q) fun _ _ q=>q
  rintro rfl
  rcases hc with rfl | hc
  · rw [hfree] at e; cases e
  · rw [hfree] at hc; cases hc
 rcases hx with hk | hk
 · refine wpAny_storeName_local hk hn (fun h' hn' hs=>?_) hcls
   obtain ⟨oL,_,_,hoL,_⟩:=id hn
   refine h _ ⟨I.ok,I.os,I.bare,⟨fun b o e n hb hx=>?_,fun b o e n hb hx=>?_,I.base.free,fun b o e hx=>?_,I.base.tups,I.base.frzs,I.base.tbls⟩,⟨_,hn',fun j y v' e1 e2 e3=>?_⟩,fun y c e=>?_,I.free,I.freeC,fun p hp=>?_,tracked ⟨oL,hoL,I.free⟩ hs,by simpa using I.len⟩ ⟨_,hs,.inl rfl⟩
   · exact (hs.2 b (Nat.ne_of_lt (Nat.lt_of_lt_of_le (Heap.lt_size e) I.ok.above))).trans (I.base.keep b o e n hb hx)
   · obtain ⟨sl,e1⟩:=I.base.slot b o e n hb hx
     exact ⟨sl,(hs.2 b (Nat.ne_of_lt (Nat.lt_of_lt_of_le (Heap.lt_size e) I.ok.above))).trans e1⟩
   · obtain ⟨o',e1⟩:=I.base.there b o e hx
     exact ⟨o',(hs.2 b (Nat.ne_of_lt (Nat.lt_of_lt_of_le (Heap.lt_size e) I.ok.above))).trans e1⟩
   · by_cases hj:j=i
     · subst hj
       rw [hi] at e1; cases e1
       rw [List.getElem?_set_self hiσ] at e2
       cases e2
       exact ⟨u,r,.inl ⟨hk,by simp⟩⟩
     · rw [List.getElem?_set_ne (Ne.symm hj)] at e2
       obtain ⟨u',r',q⟩:=hl j y v' e1 e2 e3
       refine ⟨u',r',?_⟩
       rcases q with ⟨k,e⟩ | ⟨k,c,e,z⟩
       · refine .inl ⟨k,?_⟩
         have:y≠x:=fun e=>hj (ay0 hN e1 (e ▸ hi))
         simp [this,e]
       · exact .inr ⟨k,c,e,z.sameBut hs (cne y c e)⟩
   · obtain ⟨w',z⟩:=I.cell y c e
     exact ⟨w',z.sameBut hs (cne y c e)⟩
   · obtain ⟨e,n,ne,nf,d⟩:=I.pin p hp
     exact ⟨(hs.2 p.1 ne).trans e,n,ne,nf,d⟩
 · have hfn:X.fn x=true:=by
    rcases hf with z | z
    · exact z
    · rw [z] at hk; cases hk
   obtain ⟨c,hc⟩:=I.ok.has x (.inl hk)
   obtain ⟨w',z⟩:=I.cell x c hc
   refine wpAny_storeName_cell I.ok.kind hk hc z (fun h' hc' hs=>?_)
   obtain ⟨oc,hoc,hocd⟩:=id z
   refine h { s with heap:=h' } ⟨I.ok,I.os,I.bare,⟨fun b o e n hb hx=>?_,fun b o e n hb hx=>?_,I.base.free,fun b o e hx=>?_,I.base.tups,I.base.frzs,I.base.tbls⟩,⟨m,hn.sameBut hs (Ne.symm (cne x c hc)),fun j y v' e1 e2 e3=>?_⟩,fun y c' e=>?_,I.free,I.freeC,fun p hp=>?_,tracked ⟨oc,hoc,I.freeC x c hc⟩ hs,by simpa using I.len⟩ ⟨c,hs,.inr hc⟩
   · exact (hs.2 b (Nat.ne_of_lt (Nat.lt_of_lt_of_le (Heap.lt_size e) (I.ok.cab x c hfn hc)))).trans (I.base.keep b o e n hb hx)
   · obtain ⟨sl,e1⟩:=I.base.slot b o e n hb hx
     exact ⟨sl,(hs.2 b (Nat.ne_of_lt (Nat.lt_of_lt_of_le (Heap.lt_size e) (I.ok.cab x c hfn hc)))).trans e1⟩
   · obtain ⟨o',e1⟩:=I.base.there b o e hx
     exact ⟨o',(hs.2 b (Nat.ne_of_lt (Nat.lt_of_lt_of_le (Heap.lt_size e) (I.ok.cab x c hfn hc)))).trans e1⟩
   · by_cases hj:j=i
     · subst hj
       rw [hi] at e1; cases e1
       rw [List.getElem?_set_self hiσ] at e2
       cases e2
       exact ⟨u,r,.inr ⟨.inl hk,c,hc,hc'⟩⟩
     · rw [List.getElem?_set_ne (Ne.symm hj)] at e2
       obtain ⟨u',r',q⟩:=hl j y v' e1 e2 e3
       refine ⟨u',r',?_⟩
       rcases q with q | ⟨k,c',e,z'⟩
       · exact .inl q
       · refine .inr ⟨k,c',e,z'.sameBut hs ?_⟩
         rintro rfl
         exact hj (ay0 hN e1 (I.ok.inj _ _ _ e hc ▸ hi))
   · by_cases hcc:c'=c
     · subst hcc; exact ⟨_,hc'⟩
     · obtain ⟨w2,z2⟩:=I.cell y c' e
       exact ⟨w2,z2.sameBut hs hcc⟩
   · obtain ⟨e,n,ne,nf,d⟩:=I.pin p hp
     refine ⟨(hs.2 p.1 ?_).trans e,n,ne,nf,d⟩
     intro q
     rw [q,hoc] at e
     have q':oc=p.2:=Option.some.inj e
     exact d w' (by rw [← q']; exact hocd)
theorem ao2 {M:Model}{A:Around}{E:Value→Shared→Prop}{i:Nat}{x:Str}{v:V}{u:Value}{Q:Unit→Shared→Prop}(I:Inv X pins σ H s) (hN:X.N.Nodup) (hi:X.N[i]?=some x) (hx:Loc X.env.scope x) (r:RelV v u)
 (h:∀ s',Inv X pins (σ.set i (some v)) H s'→Q () s') (hf:X.fn x=true∨X.env.scope.names.lookup x=some .local:=by first | exact .inl rfl | exact .inr rfl | assumption):wpAny M A (storeName X.env x u) Q E s :=
 aq7 I hN hi hx r (fun s' I' _=>h s' I') hf
theorem Inv.call' {s':Shared}{ch:List Addr}(I:Inv X pins σ H s) (ho:s'.os=s.os) (u:Un (frs X.stack) ch H H' s.heap s'.heap) (hok:HOk X.prog X.w H' s'.heap) (hg:AllBare s'.gens)
 (hch:∀ b∈ch,(b∈X.ex∨X.s₀.heap.objs.size≤b)∧b≠X.env.locals∧(∀ x c,X.env.cells.lookup x=some c→c≠b)∧∀ p∈X.pn++pins,p.1≠b):Inv X pins σ H' s':=by
 obtain ⟨h',g',d',t',o'⟩:=s'
 have e:o'=s.os:=ho
 subst e
 exact I.call (g':=g') (t':=t') (d':=d') u hok hg hch
end
abbrev XK:=Value→Option Addr→Hp→Prop
abbrev St:=List (Option V)
abbrev VK:=V→Hp→Prop
abbrev TE:=St→Hp→VK→Prop
abbrev TT:=St→Hp→(Bool→Hp→Prop)→Prop
abbrev TA:=St→Hp→(List V→Hp→Prop)→Prop
structure Ends where
 nx:St→Hp→Prop
 rt:VK
 bk:St→Hp→Prop:=fun _ _=>False
 ct:St→Hp→Prop:=fun _ _=>False
abbrev TS:=Ends→St→Hp→Prop
def EP (X:Cx) (pins:List (Addr×Obj)) (σ:St) (Q:VK) (u:Value) (s':Shared):Prop:=∃ v H',Inv X pins σ H' s'∧RelV v u∧Q v H'
def TP (X:Cx) (pins:List (Addr×Obj)) (σ:St) (Q:Bool→Hp→Prop) (b:Bool) (s':Shared):Prop:=∃ H',Inv X pins σ H' s'∧Q b H'
def AP (X:Cx) (pins:List (Addr×Obj)) (σ:St) (Q:List V→Hp→Prop) (us:List Value) (s':Shared):Prop:=∃ vs H',Inv X pins σ H' s'∧Vals vs us∧Q vs H'
def SP (X:Cx) (pins:List (Addr×Obj)) (D:Ends) (f:Flow) (s':Shared):Prop :=
 match f with
 | .next=>∃ σ' H',Inv X pins σ' H' s'∧D.nx σ' H'
 | .brk=>∃ σ' H',Inv X pins σ' H' s'∧D.bk σ' H'
 | .cont=>∃ σ' H',Inv X pins σ' H' s'∧D.ct σ' H'
 | .ret u=>∃ v σ' H',Inv X pins σ' H' s'∧RelV v u∧D.rt v H'
def PE (X:Cx) (e:Expr) (t:TE):Prop :=
 ∀ (pins:List (Addr×Obj)) (s:Shared) (σ:St) (H:Hp) (Q:VK),Inv X pins σ H s→t σ H Q→wpAny (model X.prog X.w) X.A (eval e X.env) (EP X pins σ Q) X.xe s
def PT (X:Cx) (e:Expr) (t:TT):Prop :=
 ∀ (pins:List (Addr×Obj)) (s:Shared) (σ:St) (H:Hp) (Q:Bool→Hp→Prop),Inv X pins σ H s→t σ H Q→wpAny (model X.prog X.w) X.A (isTrue e X.env (eval e X.env)) (TP X pins σ Q) X.xe s
def PW (X:Cx) (e:Expr) (t:TT):Prop :=
 ∀ (whole:Sem Value) (pins:List (Addr×Obj)) (s:Shared) (σ:St) (H:Hp) (Q:Bool→Hp→Prop),Inv X pins σ H s→t σ H Q→wpAny (model X.prog X.w) X.A (isTrue e X.env whole) (TP X pins σ Q) X.xe s
theorem PW.pt {X:Cx}{e:Expr}{t:TT}(h:PW X e t):PT X e t:=h _
def PA (X:Cx) (es:List Expr) (t:TA):Prop :=
 ∀ (pos:Pos) (pins:List (Addr×Obj)) (s:Shared) (σ:St) (H:Hp) (Q:List V→Hp→Prop),Inv X pins σ H s→t σ H Q→wpAny (model X.prog X.w) X.A (spliced (backTo pos (starEach es X.env))) (AP X pins σ Q) X.xe s
def PS (X:Cx) (st:Stmt) (t:TS):Prop :=
 ∀ (pins:List (Addr×Obj)) (s:Shared) (σ:St) (H:Hp) (D:Ends),Inv X pins σ H s→t D σ H→wpAny (model X.prog X.w) X.A (exec st X.env) (SP X pins D) X.xe s
def PSs (X:Cx) (st:List Stmt) (t:TS):Prop :=
 ∀ (pins:List (Addr×Obj)) (s:Shared) (σ:St) (H:Hp) (D:Ends),Inv X pins σ H s→t D σ H→wpAny (model X.prog X.w) X.A (execs st X.env) (SP X pins D) X.xe s
theorem thn {α:Type}{t:Sem α}{Q Q':α→Shared→Prop}{M:Model}{A:Around}{E:Value→Shared→Prop}{s:Shared}(h:wpAny M A t Q E s) (hQ:∀ a s,Q a s→Q' a s):wpAny M A t Q' E s:=wpAny_mono h hQ fun _ _ x=>x
section
variable {X:Cx}
def tVar (i:Nat):TE:=fun σ H Q=>∃ v,σ[i]?=some (some v)∧Q v H
def tC (v:V):TE:=fun _ H Q=>Q v H
theorem bu8 {i:Nat}{x:Str}{pos:Pos}(hN:X.N[i]?=some x) (hv:Vis X.env.scope x) (hd:(x == ("__debug__":Str))=false:=by decide) (hcd:(x == ("__classdict__":Str))=false:=by decide):PE X (.Name x pos) (tVar i):=by
 intro pins s σ H Q I h
 obtain ⟨v,e,h⟩:=h
 obtain ⟨m,hn,hl⟩:=I.loc
 obtain ⟨u,r,l⟩:=hl i x v hN e hv
 have fin:EP X pins σ Q u s:=⟨v,H,I,r,h⟩
 rcases l with ⟨hk,hm⟩ | ⟨hk,c,hc,hcell⟩
 · exact wpAny_Name (wpAny_loadName_local I.ok.kind hk hn hm fin) hd
 · rcases hk with hk | hk
   · exact wpAny_Name (wpAny_loadName_cell I.ok.kind hk hc hcell fin) hd
   · exact wpAny_Name (wpAny_loadName_free I.ok.kind hk hc hcell fin hcd) hd
theorem a04 {i j pos}:PE X (.Constant (.int i) j pos) (tC (.int i)):=fun _ _ _ H _ I h=>wpAny_Constant_int ⟨.int i,H,I.tok _,⟨_,rfl⟩,h⟩
theorem aj2 {b j pos}:PE X (.Constant (.bool b) j pos) (tC (.bl b)):=fun _ _ _ H _ I h=>Constant_bool ⟨.bl b,H,I,rfl,h⟩
theorem ay1 {j pos}:PE X (.Constant .none j pos) (tC .non):=fun _ _ _ H _ I h=>Constant_none ⟨.non,H,I,rfl,h⟩
theorem a51 {x j pos}:PE X (.Constant (.str x) j pos) (tC (.str x)):=fun _ _ _ H _ I h=>Calls.Constant_str ⟨.str x,H,I.tok _,⟨_,rfl⟩,h⟩
def Gl (X:Cx) (x:Str):Prop:=X.env.kindOf x=some .globalImplicit
theorem aj3 {E:Value→Shared→Prop}{pins:List (Addr×Obj)}{s:Shared}{σ:St} {H:Hp}{x:Str}{u:Value}{pos:Pos}{Q:Value→Shared→Prop}(I:Inv X pins σ H s) (hg:Gl X x) (hm:X.mg x=some u) (h:Q u s)
 (hd:(x == ("__debug__":Str))=false:=by decide):wpAny (model X.prog X.w) X.A (eval (.Name x pos) X.env) Q E s :=
 Calls.Name_function_global I.ok.kind hg (Calls.loadGlobal_global (by rw [I.ok.glob]; exact I.mod.glob.keeps I.bk) hm h) hd
theorem ae7 {E:Value→Shared→Prop}{pins:List (Addr×Obj)}{s:Shared}{σ:St} {H:Hp}{x:Str}{u:Value}{pos:Pos}{Q:Value→Shared→Prop}(I:Inv X pins σ H s) (hg:Gl X x) (hm:X.mg x=none) (hv:bootBuiltins x=some u) (h:Q u s)
 (hn:x≠"__name__":=by decide) (hd:(x == ("__debug__":Str))=false:=by decide):wpAny (model X.prog X.w) X.A (eval (.Name x pos) X.env) Q E s:=by
 obtain ⟨mb,h1,h2⟩:=I.mod.blt
 exact Calls.Name_function_global I.ok.kind hg (Calls.loadGlobal_builtin (by rw [I.ok.glob]; exact I.mod.glob.keeps I.bk) hm (by rw [I.ok.blt]; exact h1.keeps I.bk) ((h2 x hn).trans hv) h) hd
theorem aj4 {x:Str}{v:V}{u:Value}{pos:Pos}(hg:Gl X x) (hm:X.mg x=some u) (r:RelV v u) (hd:(x == ("__debug__":Str))=false:=by decide):PE X (.Name x pos) (tC v) :=
 fun _ _ _ H _ I h=>aj3 I hg hm ⟨v,H,I,r,h⟩ hd
theorem av5 {x:Str}{v:V}{u:Value}{pos:Pos}(hg:Gl X x) (hm:X.mg x=none) (hv:bootBuiltins x=some u) (r:RelV v u) (hn:x≠"__name__":=by decide) (hd:(x == ("__debug__":Str))=false:=by decide):PE X (.Name x pos) (tC v) :=
 fun _ _ _ H _ I h=>ae7 I hg hm hv ⟨v,H,I,r,h⟩ hn hd
variable {a b:Expr}{ta tb:TE}{pos:Pos}
def PC (X:Cx) (op:CmpOp) (a b:Expr) (t:TE):Prop :=
 ∀ (pins:List (Addr×Obj)) (s:Shared) (σ:St) (H:Hp) (Q:VK),Inv X pins σ H s→t σ H Q →
  wpAny (model X.prog X.w) X.A (eval a X.env) (fun v s₁=>wpAny (model X.prog X.w) X.A (eval b X.env) (fun u s₂=>wpAny (model X.prog X.w) X.A (compareOp op v u) (EP X pins σ Q) X.xe s₂) X.xe s₁) X.xe s
theorem nobehind (b:Expr) {op:CmpOp}(h:op≠.In) (h2:op≠.NotIn):behindInMarks op b=false:=by
 have e1:(op == CmpOp.In)=false:=by cases op <;> first | rfl | exact absurd rfl h
 have e2:(op == CmpOp.NotIn)=false:=by cases op <;> first | rfl | exact absurd rfl h2
 cases b <;> simp [behindInMarks,e1,e2]
def tB (t:TE):TT:=fun σ H Q=>t σ H fun x H1=>∃ c,x=.bl c∧Q c H1
theorem b65 {op:CmpOp}{t:TE}(h:PC X op a b t) (h1:behindInMarks op b=false:=by first | exact nobehind _ (by decide) (by decide) | rfl):PT X (.Compare a [op] [b] pos) (tB t):=by
 intro pins s σ H Q I hw
 refine wpAny_isTrue_Compare1 (thn (h pins s σ H _ I hw) fun v s1 h1=>thn h1 fun u s2 h2=>thn h2 fun c s3 ⟨x,H1,I1,r1,q1⟩=>?_) h1
 obtain ⟨d,rfl,q⟩:=q1
 cases r1
 exact wpAny_truthy_bool ⟨H1,I1,q⟩
variable {tA tB':TT}{rest:List Expr}
def tAnd (t u:TT):TT:=fun σ H Q=>t σ H fun c H1=>if c=true then u σ H1 Q else Q false H1
def tOr (t u:TT):TT:=fun σ H Q=>t σ H fun c H1=>if c=true then Q true H1 else u σ H1 Q
def tNot (t:TT):TT:=fun σ H Q=>t σ H fun c H1=>Q (!c) H1
theorem ag8 (ha:PT X a tA):PW X (.BoolOp .And [a] pos) tA:=by
 intro wh pins s σ H Q I h
 refine isTrue_and (thn (ha pins s σ H Q I h) fun c s1 e=>?_)
 cases c with
 | true=>exact isTrue_and_nil e
 | false=>exact e
theorem b66 (ha:PT X a tA):PW X (.BoolOp .Or [a] pos) tA:=by
 intro wh pins s σ H Q I h
 refine isTrue_or (thn (ha pins s σ H Q I h) fun c s1 e=>?_)
 cases c with
 | false=>exact isTrue_or_nil e
 | true=>exact e
theorem aj5 (ha:PT X a tA) (hb:PW X (.BoolOp .And (b::rest) pos) tB'):PW X (.BoolOp .And (a::b::rest) pos) (tAnd tA tB'):=by
 intro wh pins s σ H Q I h
 refine isTrue_and (thn (ha pins s σ H _ I h) fun c s1 ⟨H1,I1,q1⟩=>?_)
 cases c with
 | true=>exact hb wh pins s1 σ H1 Q I1 q1
 | false=>exact ⟨H1,I1,q1⟩
theorem bn8 (ha:PT X a tA) (hb:PW X (.BoolOp .Or (b::rest) pos) tB'):PW X (.BoolOp .Or (a::b::rest) pos) (tOr tA tB'):=by
 intro wh pins s σ H Q I h
 refine isTrue_or (thn (ha pins s σ H _ I h) fun c s1 ⟨H1,I1,q1⟩=>?_)
 cases c with
 | true=>exact ⟨H1,I1,q1⟩
 | false=>exact hb wh pins s1 σ H1 Q I1 q1
theorem b67 (ha:PT X a tA):PT X (.UnaryOp .Not a pos) (tNot tA):=by
 intro pins s σ H Q I h
 exact isTrue_not (ha pins s σ H (fun c H1=>Q (!c) H1) I h)
def tAndV (ta tb:TE):TE:=fun σ H Q=>ta σ H fun x H1=>∃ c,x=.bl c∧if c=true then tb σ H1 Q else Q (.bl false) H1
def tOrV (ta tb:TE):TE:=fun σ H Q=>ta σ H fun x H1=>∃ c,x=.bl c∧if c=true then Q (.bl true) H1 else tb σ H1 Q
theorem bl1 {op}{t:TE}(h:PE X a t):PE X (.BoolOp op [a] pos) t:=fun pins s σ H Q I hw=>BoolOp_one (h pins s σ H Q I hw)
theorem bu9 (ha:PE X a ta) (hb:PE X (.BoolOp .And (b::rest) pos) tb):PE X (.BoolOp .And (a::b::rest) pos) (tAndV ta tb):=by
 intro pins s σ H Q I h
 refine BoolOp_and (thn (ha pins s σ H _ I h) fun v s1 ⟨x,H1,I1,r1,q1⟩=>?_)
 obtain ⟨c,rfl,q1⟩:=q1
 cases r1
 refine wpAny_truthy_bool ?_
 cases c with
 | true=>exact hb pins s1 σ H1 Q I1 q1
 | false=>exact ⟨.bl false,H1,I1,rfl,q1⟩
theorem bv0 (ha:PE X a ta) (hb:PE X (.BoolOp .Or (b::rest) pos) tb):PE X (.BoolOp .Or (a::b::rest) pos) (tOrV ta tb):=by
 intro pins s σ H Q I h
 refine BoolOp_or (thn (ha pins s σ H _ I h) fun v s1 ⟨x,H1,I1,r1,q1⟩=>?_)
 obtain ⟨c,rfl,q1⟩:=q1
 cases r1
 refine wpAny_truthy_bool ?_
 cases c with
 | false=>exact hb pins s1 σ H1 Q I1 q1
 | true=>exact ⟨.bl true,H1,I1,rfl,q1⟩
def tIf (t:TT) (ta tb:TE):TE:=fun σ H Q=>t σ H fun c H1=>if c=true then ta σ H1 Q else tb σ H1 Q
theorem ao3 {c:Expr}(hc:PT X c tA) (ha:PE X a ta) (hb:PE X b tb):PE X (.IfExp c a b pos) (tIf tA ta tb):=by
 intro pins s σ H Q I h
 refine wpAny_IfExp (thn (hc pins s σ H _ I h) fun d s1 ⟨H1,I1,q1⟩=>?_)
 cases d with
 | true=>exact ha pins s1 σ H1 Q I1 q1
 | false=>exact hb pins s1 σ H1 Q I1 q1
end
def SqL (K:W.Frag) (H:Hp) (a:Addr) (xs:List V):Prop :=
 Rd H a (.lst xs) ∨
  ∃ (o:Obj) (its:Array Value) (n:Nat),K.lookup a=some o∧o.cls=.type "list"∧o.dict=none∧o.data=.seq its n∧its.size≤sizeLine∧Vals xs its.toList
def SqT (K:W.Frag) (H:Hp) (a:Addr) (xs:List V):Prop :=
 Rd H a (.tup xs) ∨
  ∃ (o:Obj) (its:Array Value) (n:Nat),K.lookup a=some o∧o.cls=.type "tuple"∧o.data=.seq its n∧its.size≤sizeLine∧Vals xs its.toList
def absV:Value→Option V
 | .none=>some .non
 | .bool b=>some (.bl b)
 | .int i _=>some (.int i)
 | .str x _=>some (.str x)
 | .bytes b _=>some (.byt b)
 | .float b _=>some (.flt b)
 | .ref a=>some (.ref a)
 | .type n=>some (.ty n)
 | _=>none
theorem RelV.abs {x:V}{u:Value}(r:RelV x u):absV u=some x:=by
 cases x with
 | non=>cases r; rfl
 | bl _=>cases r; rfl
 | int _=>obtain ⟨t,rfl⟩:=r; rfl
 | str _=>obtain ⟨t,rfl⟩:=r; rfl
 | byt _=>obtain ⟨t,rfl⟩:=r; rfl
 | flt _=>obtain ⟨t,rfl⟩:=r; rfl
 | ref _=>cases r; rfl
 | ty _=>cases r; rfl
theorem RelV.inj {x y:V}{u:Value}(r:RelV x u) (q:RelV y u):x=y:=Option.some.inj (r.abs.symm.trans q.abs)
theorem Vals.inj:∀ {xs ys:List V}{us:List Value},Vals xs us→Vals ys us→xs=ys
 | _,_,_,.nil,.nil=>rfl
 | _,_,_,.cons r t,.cons r' t'=>by rw [r.inj r',Vals.inj t t']
section
variable {X:Cx}{pins:List (Addr×Obj)}{σ:St} {H:Hp}{s:Shared}{a:Addr}{xs ys:List V}
theorem SqL.of {K:W.Frag}(h:H a=some (.lst xs)):SqL K H a xs:=.inl (.inl h)
theorem SqT.of {K:W.Frag}(h:H a=some (.tup xs)):SqT K H a xs:=.inl (.inl h)
theorem Inv.list (I:Inv X pins σ H s) (h:SqL X.K H a xs):∃ its:List Value,Vals xs its∧PlainL s.heap a its.toArray∧xs.length≤sizeLine:=by
 rcases h with h | ⟨o,its,n,hk,hc,hd,hs,hz,r⟩
 · obtain ⟨z,its,n,r,e⟩:=h.ok I.hok
   exact ⟨its,r,⟨_,n,e,rfl,rfl,rfl⟩,z⟩
 · refine ⟨its.toList,r,⟨o,n,I.kIn a o hk,hc,hd,by simpa using hs⟩,?_⟩
   have e:=r.length
   simp only [Array.length_toList] at e
   omega
theorem Inv.tuple (I:Inv X pins σ H s) (h:SqT X.K H a xs):∃ its:List Value,Vals xs its∧IsTup s.heap a its.toArray∧xs.length≤sizeLine:=by
 rcases h with h | ⟨o,its,n,hk,hc,hs,hz,r⟩
 · obtain ⟨z,its,r,p⟩:=h.ok I.hok
   exact ⟨its,r,p,z⟩
 · refine ⟨its.toList,r,⟨o,I.kIn a o hk,hc,n,by simpa using hs⟩,?_⟩
   have e:=r.length
   simp only [Array.length_toList] at e
   omega
theorem Inv.list_inj (I:Inv X pins σ H s) (h:SqL X.K H a xs) (h':SqL X.K H a ys):xs=ys:=by
 obtain ⟨its,r,⟨o,n,e,_,_,d⟩,_⟩:=I.list h
 obtain ⟨its',r',⟨o',n',e',_,_,d'⟩,_⟩:=I.list h'
 rw [e] at e'; cases e'
 rw [d] at d'
 injection d' with d1 _
 have:its=its':=by simpa using congrArg Array.toList d1
 subst this
 exact r.inj r'
theorem Inv.tuple_inj (I:Inv X pins σ H s) (h:SqT X.K H a xs) (h':SqT X.K H a ys):xs=ys:=by
 obtain ⟨its,r,⟨o,e,_,n,d⟩,_⟩:=I.tuple h
 obtain ⟨its',r',⟨o',e',_,n',d'⟩,_⟩:=I.tuple h'
 rw [e] at e'; cases e'
 rw [d] at d'
 injection d' with d1 _
 have:its=its':=by simpa using congrArg Array.toList d1
 subst this
 exact r.inj r'
end
abbrev Cx.wish (X:Cx) (E:Value→Shared→Prop):Cx:={ X with xe:=E }
abbrev Cx.nox (X:Cx):Cx:=X.wish fun _ _=>False
theorem Cx.Ok.wish {X:Cx}(ok:X.Ok) (E:Value→Shared→Prop):(X.wish E).Ok :=
 ⟨ok.mod,ok.kind,ok.glob,ok.blt,ok.above,ok.inj,ok.has,ok.cab,ok.hd,ok.frames,ok.stk,ok.exf,ok.bs,ok.bsz,ok.noex,ok.exfs,ok.funs,ok.frf⟩
theorem Cx.Ok.unwish {X:Cx}{E:Value→Shared→Prop}(ok:(X.wish E).Ok):X.Ok :=
 ⟨ok.mod,ok.kind,ok.glob,ok.blt,ok.above,ok.inj,ok.has,ok.cab,ok.hd,ok.frames,ok.stk,ok.exf,ok.bs,ok.bsz,ok.noex,ok.exfs,ok.funs,ok.frf⟩
section
variable {X:Cx}{pins:List (Addr×Obj)}{σ:St} {H:Hp}{s:Shared}{E:Value→Shared→Prop}
theorem Inv.wish (I:Inv X pins σ H s) (E:Value→Shared→Prop):Inv (X.wish E) pins σ H s:=⟨I.ok.wish E,I.os,I.bare,I.base,I.loc,I.cell,I.free,I.freeC,I.pin,I.hok,I.len⟩
theorem Inv.unwish (I:Inv (X.wish E) pins σ H s):Inv X pins σ H s:=⟨I.ok.unwish,I.os,I.bare,I.base,I.loc,I.cell,I.free,I.freeC,I.pin,I.hok,I.len⟩
theorem SP.unwish {D:Ends}{f:Flow}{s':Shared}(h:SP (X.wish E) pins D f s'):SP X pins D f s':=by
 cases f with
 | next=>obtain ⟨σ',H',I,q⟩:=h; exact ⟨σ',H',I.unwish,q⟩
 | brk=>obtain ⟨σ',H',I,q⟩:=h; exact ⟨σ',H',I.unwish,q⟩
 | cont=>obtain ⟨σ',H',I,q⟩:=h; exact ⟨σ',H',I.unwish,q⟩
 | ret u=>obtain ⟨v,σ',H',I,r,q⟩:=h; exact ⟨v,σ',H',I.unwish,r,q⟩
theorem PSs.nox {st:List Stmt}{t:TS}(h:PSs X.nox st t):PSs X st t:=fun pins s σ H D I hw =>
 wpAny_mono (h pins s σ H D (I.wish _) hw) (fun _ _ q=>q.unwish) fun _ _ z=>False.elim z
end
section
variable {X:Cx}{st:Stmt}{rest:List Stmt}{t u:TS}{e:Expr}{te:TE}{pos:Pos}
def tNext:TS:=fun D σ H=>D.nx σ H
def tSeq (t u:TS):TS:=fun D σ H=>t { D with nx:=u D } σ H
theorem a68:PSs X [] tNext:=fun _ _ σ H _ I h=>wpAny_execs_nil ⟨σ,H,I,h⟩
theorem a03 (h1:PS X st t) (h2:PSs X rest u):PSs X (st::rest) (tSeq t u):=by
 intro pins s σ H D I h
 refine wpAny_execs_cons (thn (h1 pins s σ H { D with nx:=u D } I h) fun f s1 q=>?_)
 cases f with
 | next =>
   obtain ⟨σ',H',I',q⟩:=q
   exact h2 pins s1 σ' H' D I' q
 | ret v=>exact q
 | brk=>exact q
 | cont=>exact q
theorem a07 (h1:PS X st t):PSs X [st] t:=by
 intro pins s σ H D I h
 refine wpAny_execs_cons (thn (h1 pins s σ H D I h) fun f s1 q=>?_)
 cases f with
 | next=>exact wpAny_execs_nil q
 | ret v=>exact q
 | brk=>exact q
 | cont=>exact q
theorem Inv.quiet {pins:List (Addr×Obj)}{σ:St} {H:Hp}{s:Shared}(I:Inv X pins σ H s):interactive X.env=false:=by simp [interactive,I.ok.kind]
def tDrop (te:TE):TS:=fun D σ H=>te σ H fun _ H1=>D.nx σ H1
theorem aa5 (he:PE X e te) (hs:swapsWith e none pos.line X.env=pure false:=by rfl):PS X (.Expr e pos) (tDrop te):=by
 intro pins s σ H D I h
 exact wpAny_Expr_any (thn (he pins s σ H _ I h) fun v s1 ⟨x,H1,I1,r1,q1⟩=>⟨σ,H1,I1,q1⟩) I.quiet hs
def tRet (te:TE):TS:=fun D σ H=>te σ H D.rt
theorem a52 (he:PE X e te):PS X (.Return (some e) pos) (tRet te):=by
 intro pins s σ H D I h
 exact wpAny_Return_some (thn (he pins s σ H _ I h) fun v s1 ⟨x,H1,I1,r1,q1⟩=>⟨x,σ,H1,I1,r1,q1⟩)
def tIfS (c:TT) (t u:TS):TS:=fun D σ H=>c σ H fun b H1=>if b=true then t D σ H1 else u D σ H1
theorem ab1 {c:Expr}{a b:List Stmt}{tc:TT}(hc:PT X c tc) (ha:PSs X a t) (hb:PSs X b u):PS X (.If c a b pos) (tIfS tc t u):=by
 intro pins s σ H D I h
 refine wpAny_If (thn (hc pins s σ H _ I h) fun d s1 ⟨H1,I1,q1⟩=>?_)
 cases d with
 | true=>exact ha pins s1 σ H1 D I1 q1
 | false=>exact hb pins s1 σ H1 D I1 q1
end
abbrev TG:=V→St→Hp→(St→Hp→Prop)→Prop
abbrev TGs:=List V→St→Hp→(St→Hp→Prop)→Prop
def PG (X:Cx) (target:Expr) (t:TG):Prop :=
 ∀ (pins:List (Addr×Obj)) (s:Shared) (σ:St) (H:Hp) (v:V) (u:Value) (Q:St→Hp→Prop),Inv X pins σ H s→RelV v u→t v σ H Q →
  wpAny (model X.prog X.w) X.A (assign target X.env u) (fun _ s'=>∃ σ' H',Inv X pins σ' H' s'∧Q σ' H') X.xe s
def PGs (X:Cx) (ts:List Expr) (t:TGs):Prop :=
 ∀ (pins:List (Addr×Obj)) (s:Shared) (σ:St) (H:Hp) (vs:List V) (us:List Value) (Q:St→Hp→Prop),Inv X pins σ H s→Vals vs us→t vs σ H Q →
  wpAny (model X.prog X.w) X.A (assignInOrder ((assignEach ts X.env).map (·.2)) us) (fun _ s'=>∃ σ' H',Inv X pins σ' H' s'∧Q σ' H') X.xe s
abbrev TSet:=V→V→V→Hp→(Hp→Prop)→Prop
def PSet (X:Cx) (t:TSet):Prop :=
 ∀ (pins:List (Addr×Obj)) (s:Shared) (σ:St) (H:Hp) (o i v:V) (ov iv u:Value) (Q:Hp→Prop),Inv X pins σ H s→RelV o ov→RelV i iv→RelV v u→t o i v H Q →
  wpAny (model X.prog X.w) X.A (setItem ov iv u) (fun _ s'=>∃ H',Inv X pins σ H' s'∧Q H') X.xe s
abbrev TIp:=V→V→Hp→VK→Prop
def PIp (X:Cx) (op:Operator) (t:TIp):Prop :=
 ∀ (pins:List (Addr×Obj)) (s:Shared) (σ:St) (H:Hp) (x y:V) (v u:Value) (Q:VK),Inv X pins σ H s→RelV x v→RelV y u→t x y H Q →
  wpAny (model X.prog X.w) X.A (inplaceOp op v u) (EP X pins σ Q) X.xe s
section
variable {X:Cx}{pos:Pos}
def gName (i:Nat):TG:=fun v σ H Q=>Q (σ.set i (some v)) H
theorem a08 {i:Nat}{x:Str}(hN:X.N.Nodup) (hi:X.N[i]?=some x) (hx:Loc X.env.scope x) (hf:X.fn x=true∨X.env.scope.names.lookup x=some .local:=by first | exact .inl rfl | exact .inr rfl | assumption):PG X (.Name x pos) (gName i):=by
 intro pins s σ H v u Q I r h
 exact wpAny_assign_Name (ao2 I hN hi hx r (fun s' I'=>⟨_,H,I',h⟩) hf)
def gNil:TGs:=fun vs σ H Q=>vs=[]∧Q σ H
def gCons (t:TG) (u:TGs):TGs:=fun vs σ H Q=>∃ v r,vs=v::r∧t v σ H fun σ' H'=>u r σ' H' Q
theorem a99:PGs X [] gNil:=by
 intro pins s σ H vs us Q I r h
 obtain ⟨e,h⟩:=h
 subst e
 cases r
 exact assignInOrder_nil ⟨σ,H,I,h⟩
theorem a41 {e:Expr}{es:List Expr}{t:TG}{u:TGs}(h1:PG X e t) (h2:PGs X es u)
 (hs:(assignEach (e::es) X.env).map (·.2)=assign e X.env::(assignEach es X.env).map (·.2):=by rfl):PGs X (e::es) (gCons t u):=by
 intro pins s σ H vs us Q I r h
 obtain ⟨v,vr,e1,h⟩:=h
 subst e1
 cases r with
 | cons r rr =>
   rw [hs]
   refine assignInOrder_cons (thn (h1 pins s σ H _ _ _ I r h) fun _ s1 ⟨σ1,H1,I1,q1⟩=>?_)
   exact h2 pins s1 σ1 H1 _ _ Q I1 rr q1
def gTup (K:W.Frag) (n:Nat) (t:TGs):TG:=fun v σ H Q=>∃ a xs,v=.ref a∧SqT K H a xs∧xs.length=n∧t xs σ H Q
theorem bv1 {es:List Expr}{k:Nat}{t:TGs}{n:Nat}(hc:X.calm=true) (h:PGs X es t)
 (hn:(assignEach es X.env).length=n:=by rfl) (hst:(assignEach es X.env).findIdx? (·.1)=none:=by rfl):PG X (.Tuple es k pos) (gTup X.K n t):=by
 intro pins s σ H v u Q I r hw
 obtain ⟨a,xs,e1,hq,hl,hw⟩:=hw
 subst e1
 cases r
 obtain ⟨its,rv,ht,hz⟩:=I.tuple hq
 refine assign_Tuple_tuple (I.ok.hd hc) ht (by simp [hn,←hl,rv.length]) hst fun h' hx=>?_
 have I1:Inv X pins σ H { s with heap:=h' }:=I.kept (t':=s.toks) fun b o e=>hx b o (Nat.ne_of_lt (Heap.lt_size e)) e
 exact h pins _ σ H xs _ Q I1 (by simpa using rv) hw
def gSub (to ti:TE) (t:TSet):TG:=fun v σ H Q=>to σ H fun o H1=>ti σ H1 fun i H2=>t o i v H2 fun H3=>Q σ H3
theorem aq8 {o i:Expr}{to ti:TE}{t:TSet}(ho:PE X o to) (hi:PE X i ti) (hs:PSet X t)
 (ha:∀ v,assign (.Subscript o i pos) X.env v=(do
  let ov←holding [v] (eval o X.env)
  let iv←holding [v,ov] (eval i X.env)
  standAt pos
  holding [v,ov,iv] (setItem ov iv v)
  release [v,ov,iv] []):=by intro _; rfl):PG X (.Subscript o i pos) (gSub to ti t):=by
 intro pins s σ H v u Q I r h
 rw [ha]
 refine wB (wpAny_holding (thn (ho pins s σ H _ I h) fun ov s1 ⟨x,H1,I1,r1,q1⟩=>?_))
 refine wB (wpAny_holding (thn (hi pins s1 σ H1 _ I1 q1) fun iv s2 ⟨y,H2,I2,r2,q2⟩=>?_))
 refine wB (wpAny_standAt (wB (wpAny_holding (thn (hs pins s2 σ H2 x y v ov iv u _ I2 r1 r2 r q2) fun _ s3 ⟨H3,I3,q3⟩=>?_))))
 exact wpAny_release ⟨σ,H3,I3,q3⟩
def tAsg (te:TE) (g:TG):TS:=fun D σ H=>te σ H fun x H1=>g x σ H1 D.nx
theorem ah8 {tg e:Expr}{te:TE}{g:TG}(he:PE X e te) (hg:PG X tg g) (hs:swapsWithSole [tg] e pos.line X.env=pure false:=by rfl) (hw:swappedStores [tg] e X.env=pure none:=by rfl)
 (h1:(assignEach [tg] X.env).map (·.2)=[assign tg X.env]:=by rfl):PS X (.Assign [tg] e pos) (tAsg te g):=by
 intro pins s σ H D I h
 refine wpAny_Assign_stores (thn (he pins s σ H _ I h) fun v s1 ⟨x,H1,I1,r1,q1⟩=>?_) hs hw
 rw [h1]
 exact thn (hg pins s1 σ H1 x v _ I1 r1 q1) fun _ s2 q=>q
theorem a36 {i:Nat}{x:Str}{e:Expr}{te:TE}{pos':Pos}(hN:X.N.Nodup) (hi:X.N[i]?=some x) (hx:Loc X.env.scope x) (he:PE X e te) (hs:swapsWith e (some (.Name x pos')) pos.line X.env=pure false:=by rfl) (hf:X.fn x=true∨X.env.scope.names.lookup x=some .local:=by first | exact .inl rfl | exact .inr rfl | assumption) :
 PS X (.Assign [.Name x pos'] e pos) (tAsg te (gName i)):=by
 intro pins s σ H D I h
 refine wpAny_Assign_Name (thn (he pins s σ H _ I h) fun v s1 ⟨y,H1,I1,r1,q1⟩=>?_) hs
 exact ao2 I1 hN hi hx r1 (fun s2 I2=>⟨_,H1,I2,q1⟩) hf
def tAug (i:Nat) (te:TE) (ti:TIp):TS:=fun D σ H=>∃ x,σ[i]?=some (some x)∧te σ H fun y H1=>ti x y H1 fun z H2=>D.nx (σ.set i (some z)) H2
theorem bv2 {i:Nat}{x:Str}{e:Expr}{te:TE}{op:Operator}{ti:TIp}{pos':Pos}(hN:X.N.Nodup) (hi:X.N[i]?=some x) (hx:Loc X.env.scope x) (he:PE X e te) (ho:PIp X op ti) (hf:X.fn x=true∨X.env.scope.names.lookup x=some .local:=by first | exact .inl rfl | exact .inr rfl | assumption) :
 PS X (.AugAssign (.Name x pos') op e pos) (tAug i te ti):=by
 intro pins s σ H D I h
 obtain ⟨v,e1,h⟩:=h
 obtain ⟨m,hn,hl⟩:=I.loc
 have vis:Vis X.env.scope x:=by rcases hx with k | k; exact .inl k; exact .inr (.inl k)
 obtain ⟨u,r,l⟩:=hl i x v hi e1 vis
 refine wpAny_AugAssign_Name ?_
 have go:wpAny (model X.prog X.w) X.A (eval e X.env) (fun w s₂=>wpAny (model X.prog X.w) X.A (inplaceOp op u w) (fun r s₃=>wpAny (model X.prog X.w) X.A (storeName X.env x r) (fun _=>SP X pins D .next) X.xe s₃) X.xe s₂) X.xe s:=by
  refine thn (he pins s σ H _ I h) fun w s1 ⟨y,H1,I1,r1,q1⟩=>?_
  refine thn (ho pins s1 σ H1 v y u w _ I1 r r1 q1) fun z s2 ⟨zv,H2,I2,r2,q2⟩=>?_
  exact ao2 I2 hN hi hx r2 (fun s3 I3=>⟨_,H2,I3,q2⟩) hf
 rcases l with ⟨hk,hm⟩ | ⟨hk,c,hc,hcell⟩
 · exact wpAny_loadName_local I.ok.kind hk hn hm go
 · rcases hk with hk | hk
   · exact wpAny_loadName_cell I.ok.kind hk hc hcell go
   · rcases hx with k | k
     · have:X.env.scope.names.lookup x=some .free:=hk
       rw [k] at this; cases this
     · have:X.env.scope.names.lookup x=some .free:=hk
       rw [k] at this; cases this
def ipI (f:Int→Int→Int):TIp:=fun x y H Q=>∃ i j,x=.int i∧y=.int j∧Q (.int (f i j)) H
theorem bv3:PIp X .Add (ipI fun i j=>i+j):=by
 intro pins s σ H x y v u Q I r1 r2 h
 obtain ⟨i,j,e1,e2,q⟩:=h
 subst e1; subst e2
 obtain ⟨t,rfl⟩:=r1
 obtain ⟨t',rfl⟩:=r2
 exact iadd_int ⟨.int _,H,I.tok _,⟨_,rfl⟩,q⟩
end
section
variable {X:Cx}{pos:Pos}
def tWhile (c:TT) (tb:TS):TS:=fun D σ H=>∃ W:Nat→St→Hp→Prop,(∃ m,W m σ H)∧∀ m σ H,W m σ H →
 c σ H fun b H1=>if b=true then ∃ N:St→Hp→Prop,(∀ σ' H',N σ' H'→∃ m',m'<m∧W m' σ' H')∧tb { D with nx:=N,ct:=N,bk:=D.nx } σ H1 else D.nx σ H1
theorem ao4 {c:Expr}{body:List Stmt}{tc:TT}{tb:TS}(hp:PassesOwn (model X.prog X.w) X.A X.env X.xe) (hc:PT X c tc) (hb:PSs X body tb):PS X (.While c body [] pos) (tWhile tc tb):=by
 intro pins s σ H D I h
 obtain ⟨W,⟨m0,w0⟩,turn⟩:=h
 refine wpAny_While (codeAny_whileLoop (fun n s'=>∃ σ' H',Inv X pins σ' H' s'∧W n σ' H') ?_ m0 ⟨σ,H,I,w0⟩)
 rintro n s1 ⟨σ1,H1,I1,w1⟩
 refine wpAny_passesOwn hp (thn (hc pins s1 σ1 H1 _ I1 (turn n σ1 H1 w1)) fun b s2 ⟨H2,I2,q2⟩=>?_)
 cases b with
 | true =>
   obtain ⟨N,hN,q2⟩:=q2
   rw [if_pos rfl]
   refine wpAny_passesOwn hp (thn (hb pins s2 σ1 H2 _ I2 q2) fun f s3 q3=>?_)
   cases f with
   | next =>
     obtain ⟨σ3,H3,I3,n3⟩:=q3
     obtain ⟨m',hm,w3⟩:=hN σ3 H3 n3
     exact ⟨m',hm,σ3,H3,I3,w3⟩
   | cont =>
     obtain ⟨σ3,H3,I3,n3⟩:=q3
     obtain ⟨m',hm,w3⟩:=hN σ3 H3 n3
     exact ⟨m',hm,σ3,H3,I3,w3⟩
   | brk=>exact q3
   | ret v=>exact q3
 | false =>
   rw [if_neg Bool.false_ne_true]
   exact wpAny_execs_nil ⟨σ1,H2,I2,q2⟩
end
structure It where
 go:Nat→Hp→Prop
 yld:Nat→Hp→V→Hp→Prop
 stop:Nat→Hp→Prop
def FpOk (X:Cx) (pins:List (Addr×Obj)) (H:Hp) (b:Addr):Prop :=
 H b=none∧b≠X.env.locals∧b∉X.fs∧(b∈X.ex∨X.s₀.heap.objs.size≤b)∧(∀ x c,X.env.cells.lookup x=some c→c≠b)∧∀ p∈X.pn++pins,p.1≠b
theorem Inv.fpOk {X:Cx}{pins:List (Addr×Obj)}{σ:St} {H H':Hp}{s:Shared}{b:Addr}(I:Inv X pins σ H s) (hb:s.heap.objs.size≤b) (hn:H' b=none):FpOk X pins H' b:=by
 refine ⟨hn,Nat.ne_of_gt (Nat.lt_of_lt_of_le I.lt hb),I.nofs hb,.inr (Nat.le_trans I.sz hb),fun x c e z=>?_,fun p hp z=>?_⟩
 · obtain ⟨v,q⟩:=I.cell x c e
   exact absurd (Nat.lt_of_lt_of_le q.lt (by rw [z]; exact hb)) (Nat.lt_irrefl _)
 · exact absurd (Nat.lt_of_lt_of_le (Heap.lt_size (I.pin p hp).1) (by rw [z]; exact hb)) (Nat.lt_irrefl _)
structure Turn (P:Program) (w:World) (K:W.Frag) (tg:Expr) (J:It) (fp:List Addr) (it:Addr) (tn:Nat→Heap→Prop):Prop where
 mem:it∈fp
 obj:∀ i h,tn i h→∀ b∈fp,∃ o,h.get? b=some o∧∀ v,o.data≠.cell v
 keep:∀ i h h',tn i h→(∀ b∈fp,∀ o,h.get? b=some o→h'.get? b=some o)→tn i h'
 item:∀ (X:Cx),X.prog=P→X.w=w→X.K=K→X.calm=true→∀ (i:Nat) (pins:List (Addr×Obj)) (s:Shared) (σ:St) (H:Hp) (E:Value→Shared→Prop),Inv X pins σ H s→(∀ b∈fp,FpOk X pins H b)→tn i s.heap→J.go i H →
  wpAny (model P w) X.A (pyNext (.ref it)) (fun r s1=>∃ u,r=some u ∧
   wpAny (model P w) X.A (letOwnedTupleGo tg (.ref it) u) (fun _ s2=>∃ x H',Inv X pins σ H' s2∧RelV x u∧J.yld i H x H'∧tn (i+1) s2.heap∧∀ b∈fp,H' b=none) E s1) E s
 done:∀ (X:Cx),X.prog=P→X.w=w→X.K=K→X.calm=true→∀ (i:Nat) (pins:List (Addr×Obj)) (s:Shared) (σ:St) (H:Hp) (E:Value→Shared→Prop),Inv X pins σ H s→(∀ b∈fp,FpOk X pins H b)→tn i s.heap→J.stop i H →
  wpAny (model P w) X.A (pyNext (.ref it)) (fun r s1=>r=none∧Inv X pins σ H s1) E s
 self:∀ (A:Around) (i:Nat) (s:Shared) (Q:Value→Shared→Prop) (E:Value→Shared→Prop),tn i s.heap→Q (.ref it) s→wpAny (model P w) A (pyIter (.ref it)) Q E s
abbrev TI:=St→Hp→(It→Hp→Prop)→Prop
def PIE (X:Cx) (pins:List (Addr×Obj)) (σ:St) (tg:Expr) (R:It→Hp→Prop) (itv:Value) (s2:Shared):Prop :=
 ∃ (it:Addr) (fp:List Addr) (tn:Nat→Heap→Prop) (J:It) (H':Hp),itv=.ref it∧Inv X pins σ H' s2∧Turn X.prog X.w X.K tg J fp it tn∧tn 0 s2.heap∧(∀ b∈fp,FpOk X pins H' b)∧R J H'
def PI (X:Cx) (tg iter:Expr) (wi:TI):Prop :=
 ∀ (pins:List (Addr×Obj)) (s:Shared) (σ:St) (H:Hp) (R:It→Hp→Prop),Inv X pins σ H s→wi σ H R →
  wpAny (model X.prog X.w) X.A (eval iter X.env) (fun v s1=>wpAny (model X.prog X.w) X.A (pyIter v) (PIE X pins σ tg R) X.xe s1) X.xe s
theorem bn9 {M:Model}{A:Around}{E:Value→Shared→Prop}{s:Shared}{tg:Expr}{it:Addr}{u:Value}{o:Obj}{n:String}{vs:Array Value}{Q:Unit→Shared→Prop}(ho:s.heap.get? it=some o) (hc:o.cls=.type n) (hd:o.data=.fields vs)
 (hn:["enumerate","zip","dict_itemiterator","dict_reverseitemiterator","odict_iterator","itertools.zip_longest","itertools.pairwise"].contains n=false) (hQ:Q () s):wpAny M A (letOwnedTupleGo tg (.ref it) u) Q E s:=by
 unfold letOwnedTupleGo
 cases tg <;> first
  | exact wpAny_pure hQ
  | (cases u <;> first
   | exact wpAny_pure hQ
   | (refine wB (wpAny_load ho ?_)
      rw [hc,hd]
      show wpAny M A (if (["enumerate","zip","dict_itemiterator","dict_reverseitemiterator","odict_iterator","itertools.zip_longest","itertools.pairwise"].contains n && vs[0]? == some (rawInt _))=true then _ else _) Q E s
      rw [if_neg (by intro h; rw [hn,Bool.false_and] at h; cases h)]
      exact wpAny_pure hQ))
def Itl (K:W.Frag) (a:Addr):It :=
 ⟨fun i H=>∃ xs x,SqL K H a xs∧xs[i]?=some x,fun i H x H'=>H'=H∧∀ xs,SqL K H a xs→xs[i]?=some x,fun i H=>∃ xs,SqL K H a xs∧xs.length≤i⟩
def Itt (K:W.Frag) (a:Addr):It :=
 ⟨fun i H=>∃ xs x,SqT K H a xs∧xs[i]?=some x,fun i H x H'=>H'=H∧∀ xs,SqT K H a xs→xs[i]?=some x,fun i H=>∃ xs,SqT K H a xs∧xs.length≤i⟩
def Itr (lo:Int) (n:Nat):It:=⟨fun i _=>i<n,fun i H x H'=>H'=H∧x=.int (lo+i),fun i _=>n≤i⟩
theorem b68 {P:Program}{w:World}{K:W.Frag}{tg:Expr}(a it:Addr):Turn P w K tg (Itl K a) [it] it (fun i h=>h.IsListIter it a i) where
 mem:=by simp
 obj:=fun i h st b hb=>by
  have e:b=it:=by simpa using hb
  subst e
  obtain ⟨o,e,c,d⟩:=st
  exact ⟨o,e,fun v z=>by rw [d] at z; cases z⟩
 keep:=fun i h h' st k=>st.at fun o e=>k it (by simp) o e
 item:=by
  intro X hP hw hK hc i pins s σ H E I hf st hg
  subst hP hw hK
  obtain ⟨xs,x,hq,hx⟩:=hg
  obtain ⟨its,rv,p,hz⟩:=I.list hq
  obtain ⟨u,hu,ru⟩:=rv.get hx
  obtain ⟨f0,f1,f2,f3,f4,f5⟩:=hf it (by simp)
  refine wpAny_pyNext_list_item st p.isList (x:=u) (by simpa using hu) fun h' st' sb=>?_
  have I1:Inv X pins σ H { s with heap:=h' }:=I.turned (t':=s.toks) (fun b o hb e=>(sb.2 b hb).trans e) f0 f1 f3 f4 f5
  obtain ⟨o,e,c,d⟩:=id st'
  exact ⟨u,rfl,bn9 (s:={ s with heap:=h' }) e c d (by decide) ⟨x,H,I1,ru,⟨rfl,fun ys hy=>by rw [I.list_inj hy hq]; exact hx⟩,st',fun b hb=>(hf b hb).1⟩⟩
 done:=by
  intro X hP hw hK hc i pins s σ H E I hf st hg
  subst hP hw hK
  obtain ⟨xs,hq,hx⟩:=hg
  obtain ⟨its,rv,p,hz⟩:=I.list hq
  obtain ⟨f0,f1,f2,f3,f4,f5⟩:=hf it (by simp)
  have hl:=rv.length
  exact wpAny_pyNext_list_end (I.ok.hd hc) st p.isList (by simp; omega) fun h' eb=>⟨rfl,I.turned (t':=s.toks) (fun b o hb e=>eb b o hb e) f0 f1 f3 f4 f5⟩
 self:=fun _ _ _ _ _ st h=>wpAny_pyIter_listiter st h
theorem b36 {P:Program}{w:World}{K:W.Frag}{tg:Expr}(a it:Addr):Turn P w K tg (Itt K a) [it] it (fun i h=>h.IsTupleIter it a i) where
 mem:=by simp
 obj:=fun i h st b hb=>by
  have e:b=it:=by simpa using hb
  subst e
  obtain ⟨o,e,c,d⟩:=st
  exact ⟨o,e,fun v z=>by rw [d] at z; cases z⟩
 keep:=fun i h h' st k=>st.at fun o e=>k it (by simp) o e
 item:=by
  intro X hP hw hK hc i pins s σ H E I hf st hg
  subst hP hw hK
  obtain ⟨xs,x,hq,hx⟩:=hg
  obtain ⟨its,rv,p,hz⟩:=I.tuple hq
  obtain ⟨u,hu,ru⟩:=rv.get hx
  obtain ⟨f0,f1,f2,f3,f4,f5⟩:=hf it (by simp)
  refine wpAny_pyNext_tuple_item st (show s.heap.IsTuple a its.toArray from p) (x:=u) (by simpa using hu) fun h' st' sb=>?_
  have I1:Inv X pins σ H { s with heap:=h' }:=I.turned (t':=s.toks) (fun b o hb e=>(sb.2 b hb).trans e) f0 f1 f3 f4 f5
  obtain ⟨o,e,c,d⟩:=id st'
  exact ⟨u,rfl,bn9 (s:={ s with heap:=h' }) e c d (by decide) ⟨x,H,I1,ru,⟨rfl,fun ys hy=>by rw [I.tuple_inj hy hq]; exact hx⟩,st',fun b hb=>(hf b hb).1⟩⟩
 done:=by
  intro X hP hw hK hc i pins s σ H E I hf st hg
  subst hP hw hK
  obtain ⟨xs,hq,hx⟩:=hg
  obtain ⟨its,rv,p,hz⟩:=I.tuple hq
  obtain ⟨f0,f1,f2,f3,f4,f5⟩:=hf it (by simp)
  have hl:=rv.length
  exact wpAny_pyNext_tuple_end (I.ok.hd hc) st (show s.heap.IsTuple a its.toArray from p) (by simp; omega) fun h' eb=>⟨rfl,I.turned (t':=s.toks) (fun b o hb e=>eb b o hb e) f0 f1 f3 f4 f5⟩
 self:=fun _ _ _ _ _ st h=>wpAny_pyIter_tupleiter st h
theorem b37 {P:Program}{w:World}{K:W.Frag}{tg:Expr}(it:Addr) (lo:Int) (n:Nat):Turn P w K tg (Itr lo n) [it] it (fun i h=>IsRangeIter h it (lo+(i:Nat)*1) ((n:Int) - (i:Nat)) 1) where
 mem:=by simp
 obj:=fun i h st b hb=>by
  have e:b=it:=by simpa using hb
  subst e
  exact ⟨_,st,fun v z=>by
   have z':Data.fields _=Data.cell v:=z
   cases z'⟩
 keep:=fun i h h' st k=>k it (by simp) _ st
 item:=by
  intro X hP hw hK hc i pins s σ H E I hf st hg
  subst hP hw hK
  obtain ⟨f0,f1,f2,f3,f4,f5⟩:=hf it (by simp)
  have W:=Walks.range (prog:=X.prog) (w:=X.w) (I.ok.hd hc) it lo 1 n
  refine W.item i s _ _ hg st fun v h' tk hv st' kk=>?_
  obtain ⟨t,rfl⟩:=hv
  have I1:Inv X pins σ H { s with heap:=h',toks:=tk }:=I.turned (fun b o hb e=>kk b o (by simpa using hb) e) f0 f1 f3 f4 f5
  refine ⟨_,rfl,bn9 (s:={ s with heap:=h',toks:=tk }) (n:="range_iterator") st' rfl rfl (by decide) ⟨.int (lo+i),H,I1,⟨t,?_⟩,⟨rfl,rfl⟩,st',fun b hb=>(hf b hb).1⟩⟩
  rw [Int.mul_one]
 done:=by
  intro X hP hw hK hc i pins s σ H E I hf st hg
  subst hP hw hK
  obtain ⟨f0,f1,f2,f3,f4,f5⟩:=hf it (by simp)
  exact wpAny_pyNext_range_end (I.ok.hd hc) st (by have:n≤i:=hg; omega) fun h' eb=>⟨rfl,I.turned (t':=s.toks) (fun b o hb e=>eb b o hb e) f0 f1 f3 f4 f5⟩
 self:=fun _ _ _ _ _ st h=>wpAny_pyIter_rangeiter st h
section
variable {X:Cx}{tg:Expr}
def iList (K:W.Frag) (tl:TE):TI:=fun σ H R=>tl σ H fun x H1=>∃ a,x=.ref a∧(∃ xs,SqL K H1 a xs)∧R (Itl K a) H1
def iTup (K:W.Frag) (tl:TE):TI:=fun σ H R=>tl σ H fun x H1=>∃ a,x=.ref a∧(∃ xs,SqT K H1 a xs)∧R (Itt K a) H1
theorem bo0 {l:Expr}{tl:TE}(hl:PE X l tl):PI X tg l (iList X.K tl):=by
 intro pins s σ H R I h
 refine thn (hl pins s σ H _ I h) fun v s1 ⟨x,H1,I1,r1,q1⟩=>?_
 obtain ⟨a,e,⟨xs,hq⟩,q⟩:=q1
 subst e
 cases r1
 obtain ⟨its,rv,p,hz⟩:=I1.list hq
 refine wpAny_pyIter_list p.isList ?_
 refine ⟨s1.heap.objs.size,[s1.heap.objs.size],_,_,H1,rfl,I1.kept (t':=s1.toks) fun b o e=>gP _ e,b68 a _,⟨_,Heap.get?_push_size _ rfl,rfl,rfl⟩,fun b hb=>?_,q⟩
 have e:b=s1.heap.objs.size:=by simpa using hb
 subst e
 exact I1.fpOk (Nat.le_refl _) (I1.hok.fresh (Nat.le_refl _))
theorem bv4 {l:Expr}{tl:TE}(hl:PE X l tl):PI X tg l (iTup X.K tl):=by
 intro pins s σ H R I h
 refine thn (hl pins s σ H _ I h) fun v s1 ⟨x,H1,I1,r1,q1⟩=>?_
 obtain ⟨a,e,⟨xs,hq⟩,q⟩:=q1
 subst e
 cases r1
 obtain ⟨its,rv,p,hz⟩:=I1.tuple hq
 refine wpAny_pyIter_tuple (show s1.heap.IsTuple a its.toArray from p) ?_
 refine ⟨s1.heap.objs.size,[s1.heap.objs.size],_,_,H1,rfl,I1.kept (t':=s1.toks) fun b o e=>gP _ e,b36 a _,⟨_,Heap.get?_push_size _ rfl,rfl,rfl⟩,fun b hb=>?_,q⟩
 have e:b=s1.heap.objs.size:=by simpa using hb
 subst e
 exact I1.fpOk (Nat.le_refl _) (I1.hok.fresh (Nat.le_refl _))
theorem be8 {pins:List (Addr×Obj)}{σ:St} {H:Hp}{s:Shared}{R:It→Hp→Prop}{E:Value→Shared→Prop}{lo hi:Int}{t u v:Tok}{tk:Nat}(I:Inv X pins σ H s) (h1:-(2 ^ 62)≤lo) (h2:lo<2 ^ 62) (h3:-(2 ^ 62)≤hi) (h4:hi<2 ^ 62)
 (q:R (Itr lo (hi - lo).toNat) H):wpAny (model X.prog X.w) X.A (pyIter (.ref s.heap.objs.size)) (PIE X pins σ tg R) E { s with heap:=s.heap.push { cls:=.type "range",data:=.fields #[.int lo t,.int hi u,.int 1 v] },toks:=tk }:=by
 refine wpAny_pyIter_range (IsRange.new ..) (small_one h1 h2 h3 h4) ?_
 have I1:Inv X pins σ H { s with heap:=s.heap.push { cls:=.type "range",data:=.fields #[.int lo t,.int hi u,.int 1 v] },toks:=tk }:=I.kept fun b o e=>gP _ e
 refine ⟨(s.heap.push { cls:=.type "range",data:=.fields #[.int lo t,.int hi u,.int 1 v] }).objs.size,[(s.heap.push { cls:=.type "range",data:=.fields #[.int lo t,.int hi u,.int 1 v] }).objs.size],_,_,H,rfl,
  I1.kept (t':=tk) fun b o e=>gP _ e,b37 _ lo (hi - lo).toNat,?_,fun b hb=>?_,q⟩
 · have e1:lo+((0:Nat):Int)*1=lo:=by simp
   have e2:(((hi - lo).toNat:Nat):Int) - ((0:Nat):Int)=Builtin.Range.rangeSize lo hi 1:=by rw [rangeSize_one]; split <;> omega
   show IsRangeIter _ _ (lo+((0:Nat):Int)*1) ((((hi - lo).toNat:Nat):Int) - ((0:Nat):Int)) 1
   rw [e1,e2]
   exact Heap.get?_push_size _ rfl
 · have e:b=(s.heap.push { cls:=.type "range",data:=.fields #[.int lo t,.int hi u,.int 1 v] }).objs.size:=by simpa using hb
   subst e
   exact I1.fpOk (Nat.le_refl _) (I1.hok.fresh (Nat.le_refl _))
def bv5 (ta:TA):TI:=fun σ H R=>ta σ H fun vs H1=>∃ j:Int,vs=[.int j]∧-(2 ^ 62)≤j∧j<2 ^ 62∧R (Itr 0 j.toNat) H1
theorem a95 {a:Expr}{ta:TA}{p pos:Pos}(hg:Gl X "range") (hm:X.mg "range"=none) (ha:PA X [a] ta) (hs:starEach [a] X.env=[(false,eval a X.env)]:=by rfl):PI X tg (.Call (.Name "range" p) [a] [] pos) (bv5 ta):=by
 intro pins s σ H R I h
 refine Call_ (ae7 I hg hm boot_range (PyProof.Rows.callWith_type1 (thn (ha pos pins s σ H _ I h) fun us s1 ⟨vs,H1,I1,r1,q1⟩=>?_) hs rfl))
 obtain ⟨j,e,q1,q2,q⟩:=q1
 subst e
 cases r1 with
 | cons r rr =>
   cases rr
   obtain ⟨t,rfl⟩:=r
   exact call_range_1 (be8 I1 (by omega) (by omega) q1 q2 (by simpa using q))
def tFor (wi:TI) (g:TG) (tb:TS):TS:=fun D σ H=>wi σ H fun J H1=>∃ W:Nat→Nat→St→Hp→Prop,(∃ m,W 0 m σ H1)∧∀ i m σ H,W i m σ H →
 (J.stop i H∧D.nx σ H)∨(J.go i H∧∃ N:St→Hp→Prop,(∀ σ' H',N σ' H'→∃ m',m'<m∧W (i+1) m' σ' H')∧∀ x H',J.yld i H x H'→g x σ H' fun σ2 H2=>tb { D with nx:=N,ct:=N,bk:=D.nx } σ2 H2)
def pinsAt (fp:List Addr) (h:Heap):List (Addr×Obj):=fp.filterMap fun b=>(h.get? b).map fun o=>(b,o)
theorem ad3 {fp:List Addr}{h:Heap}{b:Addr}{o:Obj}(hb:b∈fp) (e:h.get? b=some o):(b,o)∈pinsAt fp h:=List.mem_filterMap.mpr ⟨b,hb,by rw [e]; rfl⟩
theorem b69 {fp:List Addr}{h:Heap}{p:Addr×Obj}(hp:p∈pinsAt fp h):p.1∈fp∧h.get? p.1=some p.2:=by
 obtain ⟨b,hb,e⟩:=List.mem_filterMap.mp hp
 cases q:h.get? b with
 | none=>rw [q] at e; cases e
 | some o =>
   rw [q] at e
   have e':(b,o)=p:=Option.some.inj e
   subst e'
   exact ⟨hb,q⟩
theorem Inv.pinned {pins:List (Addr×Obj)}{σ:St} {H:Hp}{s:Shared}{fp:List Addr}(I:Inv X pins σ H s) (hf:∀ b∈fp,FpOk X pins H b) (ho:∀ b∈fp,∃ o,s.heap.get? b=some o∧∀ v,o.data≠.cell v):Inv X (pins++pinsAt fp s.heap) σ H s :=
 I.pins_of fun p hp=>(gA hp).elim (fun z=>I.pin p (List.mem_append_right _ z)) fun z=>by
  obtain ⟨hb,e⟩:=b69 z
  obtain ⟨f0,f1,f2,_⟩:=hf p.1 hb
  obtain ⟨o,e',d⟩:=ho p.1 hb
  rw [e] at e'; cases e'
  exact ⟨e,f0,f1,f2,d⟩
theorem Inv.unpinned {pins pl:List (Addr×Obj)}{σ:St} {H:Hp}{s:Shared}(I:Inv X (pins++pl) σ H s):Inv X pins σ H s:=I.pins_of fun p hp=>I.pin p (List.mem_append_right _ (List.mem_append_left _ hp))
theorem aa9 {iter:Expr}{body:List Stmt}{wi:TI}{g:TG}{tb:TS}{pos:Pos}(hp:PassesOwn (model X.prog X.w) X.A X.env X.xe) (hc:X.calm=true) (hi:PI X tg iter wi) (hg:PG X tg g) (hb:PSs X body tb)
 (hs:∀ x,foldedSetIterable iter X.env x=pure x:=by intro _; rfl):PS X (.For tg iter body [] pos) (tFor wi g tb):=by
 intro pins s σ H D I h
 refine wpAny_For (thn (hi pins s σ H _ I h) fun v s1 h1=>thn h1 fun itv s2 h2=>?_) hs
 obtain ⟨it,fp,tn,J,H2,e,I2,T,st2,f2,W,⟨m0,w0⟩,turn⟩:=h2
 subst e
 have stat:∀ {H':Hp},(∀ b∈fp,H' b=none)→∀ b∈fp,FpOk X pins H' b:=fun hn b hb=>⟨hn b hb,(f2 b hb).2⟩
 refine codeAny_forLoop_any (fun n s'=>∃ i σ' H',Inv X pins σ' H' s'∧tn i s'.heap∧(∀ b∈fp,H' b=none)∧W i n σ' H') ?_ m0 ⟨0,σ,H2,I2,st2,fun b hb=>(f2 b hb).1,w0⟩
 rintro n s3 ⟨i,σ3,H3,I3,st3,fr3,w3⟩
 rcases turn i n σ3 H3 w3 with ⟨stop,qn⟩ | ⟨go,N,hN,step⟩
 · refine wpAny_passesOwn hp (thn (T.done X rfl rfl rfl hc i pins s3 σ3 H3 X.xe I3 (stat fr3) st3 stop) fun r s4 ⟨hr,I4⟩=>?_)
   subst hr
   exact wpAny_execs_nil ⟨σ3,H3,I4,qn⟩
 · refine wpAny_passesOwn hp (thn (T.item X rfl rfl rfl hc i pins s3 σ3 H3 X.xe I3 (stat fr3) st3 go) fun r s4 ⟨u,hr,h4⟩=>?_)
   subst hr
   refine wpAny_passesOwn hp (thn h4 fun _ s5 ⟨x,H5,I5,r5,y5,st5,fr5⟩=>?_)
   have I5':=I5.pinned (stat fr5) (T.obj _ _ st5)
   refine wpAny_passesOwn hp (thn (hg _ s5 σ3 H5 x u _ I5' r5 (step x H5 y5)) fun _ s6 ⟨σ6,H6,I6,q6⟩=>?_)
   refine wpAny_passesOwn hp (thn (hb _ s6 σ6 H6 _ I6 q6) fun f s7 q7=>?_)
   have again:∀ {σ7:St} {H7:Hp},Inv X (pins++pinsAt fp s5.heap) σ7 H7 s7→N σ7 H7→∃ m,m<n∧∃ i σ' H',Inv X pins σ' H' s7∧tn i s7.heap∧(∀ b∈fp,H' b=none)∧W i m σ' H':=fun {σ7 H7} I7 n7=>by
    obtain ⟨m',hm,w7⟩:=hN σ7 H7 n7
    refine ⟨m',hm,i+1,σ7,H7,I7.unpinned,T.keep _ _ _ st5 fun b hb o e=>(I7.pin (b,o) (List.mem_append_right _ (List.mem_append_right _ (ad3 hb e)))).1,fun b hb=>?_,w7⟩
    obtain ⟨o,e,d⟩:=T.obj _ _ st5 b hb
    exact (I7.pin (b,o) (List.mem_append_right _ (List.mem_append_right _ (ad3 hb e)))).2.1
   cases f with
   | next=>obtain ⟨σ7,H7,I7,n7⟩:=q7; exact again I7 n7
   | cont=>obtain ⟨σ7,H7,I7,n7⟩:=q7; exact again I7 n7
   | brk=>obtain ⟨σ7,H7,I7,q7⟩:=q7; exact ⟨σ7,H7,I7.unpinned,q7⟩
   | ret v=>obtain ⟨x7,σ7,H7,I7,r7,q7⟩:=q7; exact ⟨x7,σ7,H7,I7.unpinned,r7,q7⟩
end
theorem ae8 {K:W.Frag}{a:Addr}{xs:List V}{g:TG}{tb:TS}{D:Ends}{σ:St} {H:Hp}(Pv:Nat→St→Hp→Prop) (h0:Pv 0 σ H) (hl:∀ i σ H,i≤xs.length→Pv i σ H→SqL K H a xs)
 (hs:∀ i x σ H,xs[i]?=some x→Pv i σ H→g x σ H fun σ2 H2=>tb { D with nx:=Pv (i+1),ct:=Pv (i+1),bk:=D.nx } σ2 H2) (hd:∀ σ H,Pv xs.length σ H→D.nx σ H) :
 ∃ W:Nat→Nat→St→Hp→Prop,(∃ m,W 0 m σ H)∧∀ i m σ H,W i m σ H →
  ((Itl K a).stop i H∧D.nx σ H)∨((Itl K a).go i H∧∃ N:St→Hp→Prop,(∀ σ' H',N σ' H'→∃ m',m'<m∧W (i+1) m' σ' H')∧∀ x H',(Itl K a).yld i H x H'→g x σ H' fun σ2 H2=>tb { D with nx:=N,ct:=N,bk:=D.nx } σ2 H2):=by
 refine ⟨fun i m σ H=>m=xs.length - i∧i≤xs.length∧Pv i σ H,⟨xs.length,by simp,Nat.zero_le _,h0⟩,?_⟩
 rintro i m σ H ⟨rfl,hi,p⟩
 have q:=hl i σ H hi p
 by_cases hlt:i<xs.length
 · refine .inr ⟨⟨xs,xs[i],q,by simp [hlt]⟩,Pv (i+1),fun σ' H' p'=>⟨xs.length - (i+1),by omega,rfl,hlt,p'⟩,fun x H' y=>?_⟩
   obtain ⟨e,y⟩:=y
   subst e
   exact hs i x σ _ (y xs q) p
 · have e:i=xs.length:=by omega
   subst e
   exact .inl ⟨⟨xs,q,Nat.le_refl _⟩,hd σ H p⟩
theorem ab3 {lo:Int}{n:Nat}{g:TG}{tb:TS}{D:Ends}{σ:St} {H:Hp}(Pv:Nat→St→Hp→Prop) (h0:Pv 0 σ H)
 (hs:∀ i σ H,i<n→Pv i σ H→g (.int (lo+i)) σ H fun σ2 H2=>tb { D with nx:=Pv (i+1),ct:=Pv (i+1),bk:=D.nx } σ2 H2) (hd:∀ σ H,Pv n σ H→D.nx σ H) :
 ∃ W:Nat→Nat→St→Hp→Prop,(∃ m,W 0 m σ H)∧∀ i m σ H,W i m σ H →
  ((Itr lo n).stop i H∧D.nx σ H)∨((Itr lo n).go i H∧∃ N:St→Hp→Prop,(∀ σ' H',N σ' H'→∃ m',m'<m∧W (i+1) m' σ' H')∧∀ x H',(Itr lo n).yld i H x H'→g x σ H' fun σ2 H2=>tb { D with nx:=N,ct:=N,bk:=D.nx } σ2 H2):=by
 refine ⟨fun i m σ H=>m=n - i∧i≤n∧Pv i σ H,⟨n,by simp,Nat.zero_le _,h0⟩,?_⟩
 rintro i m σ H ⟨rfl,hi,p⟩
 by_cases hlt:i<n
 · refine .inr ⟨hlt,Pv (i+1),fun σ' H' p'=>⟨n - (i+1),by omega,rfl,hlt,p'⟩,fun x H' y=>?_⟩
   obtain ⟨e,y⟩:=y
   subst e y
   exact hs i σ _ hlt p
 · have e:i=n:=by omega
   subst e
   exact .inl ⟨Nat.le_refl _,hd σ H p⟩
abbrev R2:=V→V→Hp→VK→Prop
def OpR (X:Cx) (f:Value→Value→Sem Value) (r:R2):Prop :=
 ∀ (pins:List (Addr×Obj)) (s:Shared) (σ:St) (H:Hp) (x y:V) (v u:Value) (Q:VK),Inv X pins σ H s→RelV x v→RelV y u→r x y H Q →
  wpAny (model X.prog X.w) X.A (f v u) (EP X pins σ Q) X.xe s
def UnR (X:Cx) (f:Value→Sem Value) (r:V→Hp→VK→Prop):Prop :=
 ∀ (pins:List (Addr×Obj)) (s:Shared) (σ:St) (H:Hp) (x:V) (v:Value) (Q:VK),Inv X pins σ H s→RelV x v→r x H Q →
  wpAny (model X.prog X.w) X.A (f v) (EP X pins σ Q) X.xe s
def CallR (X:Cx) (f:Value) (r:List V→Hp→VK→Prop):Prop :=
 ∀ (pins:List (Addr×Obj)) (s:Shared) (σ:St) (H:Hp) (xs:List V) (us:List Value) (Q:VK),Inv X pins σ H s→Vals xs us→r xs H Q →
  wpAny (model X.prog X.w) X.A (call f us) (EP X pins σ Q) X.xe s
def TruR (X:Cx) (r:V→Hp→(Bool→Hp→Prop)→Prop):Prop :=
 ∀ (pins:List (Addr×Obj)) (s:Shared) (σ:St) (H:Hp) (x:V) (v:Value) (Q:Bool→Hp→Prop),Inv X pins σ H s→RelV x v→r x H Q →
  wpAny (model X.prog X.w) X.A (truthy v) (TP X pins σ Q) X.xe s
def tOp (r:R2) (ta tb:TE):TE:=fun σ H Q=>ta σ H fun x H1=>tb σ H1 fun y H2=>r x y H2 Q
def tUn (r:V→Hp→VK→Prop) (ta:TE):TE:=fun σ H Q=>ta σ H fun x H1=>r x H1 Q
def rI (C:Int→Int→Prop) (g:Int→Int→V):R2:=fun x y H Q=>∃ i j,x=.int i∧y=.int j∧C i j∧Q (g i j) H
def rI0 (g:Int→Int→V):R2:=fun x y H Q=>∃ i j,x=.int i∧y=.int j∧Q (g i j) H
def rU (g:Int→V):V→Hp→VK→Prop:=fun x H Q=>∃ i,x=.int i∧Q (g i) H
section
variable {X:Cx}{a b c:Expr}{ta tb tc:TE}{pos:Pos}
theorem binT (ha:PE X a ta) (hb:PE X b tb) {pins:List (Addr×Obj)}{s:Shared}{σ:St} {H:Hp}{R:V→V→Hp→Prop}(I:Inv X pins σ H s)
 (h:ta σ H fun x H1=>tb σ H1 fun y H2=>R x y H2) {Q:Value→Shared→Prop}{f:Value→Value→Sem Value}
 (hf:∀ v u s2 x y H2,Inv X pins σ H2 s2→RelV x v→RelV y u→R x y H2→wpAny (model X.prog X.w) X.A (f v u) Q X.xe s2) :
 wpAny (model X.prog X.w) X.A (eval a X.env) (fun v s₁=>wpAny (model X.prog X.w) X.A (eval b X.env) (fun u s₂=>wpAny (model X.prog X.w) X.A (f v u) Q X.xe s₂) X.xe s₁) X.xe s:=by
 refine thn (ha pins s σ H _ I h) fun v s1 ⟨x,H1,I1,r1,q1⟩=>?_
 refine thn (hb pins s1 σ H1 _ I1 q1) fun u s2 ⟨y,H2,I2,r2,q2⟩=>?_
 exact hf v u s2 x y H2 I2 r1 r2 q2
theorem a69 {op:Operator}{r:R2}(ho:OpR X (binaryOp op) r) (ha:PE X a ta) (hb:PE X b tb):PE X (.BinOp a op b pos) (tOp r ta tb):=by
 intro pins s σ H Q I h
 exact wpAny_BinOp (binT ha hb I h fun v u s2 x y H2 I2 rx ry q=>ho pins s2 σ H2 x y v u Q I2 rx ry q)
theorem c60 {op:UnaryOp}{r:V→Hp→VK→Prop}(ho:UnR X (unaryOp op) r) (ha:PE X a ta):PE X (.UnaryOp op a pos) (tUn r ta):=by
 intro pins s σ H Q I h
 exact UnaryOp_ (thn (ha pins s σ H _ I h) fun v s1 ⟨x,H1,I1,r1,q1⟩=>ho pins s1 σ H1 x v Q I1 r1 q1)
theorem opI {f:Value→Value→Sem Value}{C:Int→Int→Prop}{g:Int→Int→Int}
 (rule:∀ (i j:Int) (t u:Tok) (s:Shared) (Q:Value→Shared→Prop) (E:Value→Shared→Prop),C i j→Q (.int (g i j) s.toks) { s with toks:=s.toks+1 }→wpAny (model X.prog X.w) X.A (f (.int i t) (.int j u)) Q E s) :
 OpR X f (rI C fun i j=>.int (g i j)):=by
 intro pins s σ H x y v u Q I rx ry h
 obtain ⟨i,j,rfl,rfl,hc,q⟩:=h
 obtain ⟨t,rfl⟩:=rx
 obtain ⟨t',rfl⟩:=ry
 exact rule i j t t' s _ _ hc ⟨.int (g i j),H,I.tok _,⟨_,rfl⟩,q⟩
theorem opI0 {f:Value→Value→Sem Value}{g:Int→Int→Int}
 (rule:∀ (i j:Int) (t u:Tok) (s:Shared) (Q:Value→Shared→Prop) (E:Value→Shared→Prop),Q (.int (g i j) s.toks) { s with toks:=s.toks+1 }→wpAny (model X.prog X.w) X.A (f (.int i t) (.int j u)) Q E s) :
 OpR X f (rI0 fun i j=>.int (g i j)):=by
 intro pins s σ H x y v u Q I rx ry h
 obtain ⟨i,j,rfl,rfl,q⟩:=h
 obtain ⟨t,rfl⟩:=rx
 obtain ⟨t',rfl⟩:=ry
 exact rule i j t t' s _ _ ⟨.int (g i j),H,I.tok _,⟨_,rfl⟩,q⟩
theorem opB0 {f:Value→Value→Sem Value}{g:Int→Int→Bool}
 (rule:∀ (i j:Int) (t u:Tok) (s:Shared) (Q:Value→Shared→Prop) (E:Value→Shared→Prop),Q (.bool (g i j)) s→wpAny (model X.prog X.w) X.A (f (.int i t) (.int j u)) Q E s) :
 OpR X f (rI0 fun i j=>.bl (g i j)):=by
 intro pins s σ H x y v u Q I rx ry h
 obtain ⟨i,j,rfl,rfl,q⟩:=h
 obtain ⟨t,rfl⟩:=rx
 obtain ⟨t',rfl⟩:=ry
 exact rule i j t t' s _ _ ⟨.bl (g i j),H,I,rfl,q⟩
def CDiv (i j:Int):Prop:=0<j∧j<1073741824
def CMul (i j:Int):Prop:=(-(2 ^ 64)<i∧i<2 ^ 64)∨(-(2 ^ 64)<j∧j<2 ^ 64)
theorem CMul.ok {i j:Int}(h:CMul i j):IntMulOk i j:=by
 rcases h with ⟨h1,h2⟩ | ⟨h1,h2⟩
 · exact .of_left (intBits_le_64 h1 h2)
 · exact .of_right (intBits_le_64 h1 h2)
theorem bv6:OpR X (binaryOp .Add) (rI0 fun i j=>.int (i+j)):=opI0 fun _ _ _ _ _ _ _ q=>add_int q
theorem b70:OpR X (binaryOp .Sub) (rI0 fun i j=>.int (i - j)):=opI0 fun _ _ _ _ _ _ _ q=>sub_int q
theorem ao5:OpR X (binaryOp .FloorDiv) (rI CDiv fun i j=>.int (i / j)):=opI fun i j _ _ _ _ _ hc q=>by
 have h1:(0:Int)<j:=hc.1
 have h2:j<1073741824:=hc.2
 exact floordiv_int (by omega) (by rw [Int.fdiv_eq_ediv_of_nonneg i (by omega)]; exact q) (.inl (PyProof.noPylong_small (by omega)))
theorem ad8:OpR X (binaryOp .Mod) (rI (fun _ j=>0<j) fun i j=>.int (i % j)):=opI fun i j _ _ _ _ _ hc q=>by
 have h1:(0:Int)<j:=hc
 exact mod_int' (by omega) (by rw [Int.fmod_eq_emod_of_nonneg i (by omega)]; exact q)
theorem unI {f:Value→Sem Value}{g:Int→Int}
 (rule:∀ (i:Int) (t:Tok) (s:Shared) (Q:Value→Shared→Prop) (E:Value→Shared→Prop),Q (.int (g i) s.toks) { s with toks:=s.toks+1 }→wpAny (model X.prog X.w) X.A (f (.int i t)) Q E s) :
 UnR X f (rU fun i=>.int (g i)):=by
 intro pins s σ H x v Q I rx h
 obtain ⟨i,rfl,q⟩:=h
 obtain ⟨t,rfl⟩:=rx
 exact rule i t s _ _ ⟨.int (g i),H,I.tok _,⟨_,rfl⟩,q⟩
theorem bv7:UnR X (unaryOp .USub) (rU fun i=>.int (-i)):=unI fun _ _ _ _ _ q=>neg_int q
end
def scal:V→V→Bool
 | .non,.non=>true | .non,.int _=>true | .int _,.non=>true | .non,.bl _=>true | .bl _,.non=>true | .non,.str _=>true | .str _,.non=>true
 | .int _,.int _=>true | .bl _,.bl _=>true | .str _,.str _=>true | .byt _,.byt _=>true
 | .int _,.str _=>true | .str _,.int _=>true | .bl _,.str _=>true | .str _,.bl _=>true
 | _,_=>false
def rEq:R2:=fun x y H Q=>scal x y=true∧Q (.bl (decide (x=y))) H
def rNe:R2:=fun x y H Q=>scal x y=true∧Q (.bl (!decide (x=y))) H
theorem b71 {i j:Int}:decide (V.int i=V.int j)=(i == j):=by
 rw [Bool.eq_iff_iff]
 simp
theorem bl2 {i j:Bool}:decide (V.bl i=V.bl j)=(i == j):=by
 rw [Bool.eq_iff_iff]
 simp
theorem b72 {i j:Str}:decide (V.str i=V.str j)=(i == j):=by
 rw [Bool.eq_iff_iff]
 simp
theorem b73 {i j:Array UInt8}:decide (V.byt i=V.byt j)=(i.toList == j.toList):=by
 rw [Bool.eq_iff_iff]
 cases i
 cases j
 simp
section
variable {X:Cx}{a b c:Expr}{ta tb tc:TE}{pos:Pos}
theorem a64 {pins:List (Addr×Obj)}{σ:St} {H:Hp}{s:Shared}{Q:VK}{k k':Bool}(I:Inv X pins σ H s) (q:Q (.bl k) H) (e:k=k'):EP X pins σ Q (.bool k') s:=by
 subst e
 exact ⟨.bl k,H,I,rfl,q⟩
theorem ai0:OpR X (compareOp .Eq) rEq:=by
 intro pins s σ H x y v u Q I rx ry h
 obtain ⟨hs,q⟩:=h
 cases x with
 | non =>
   cases rx
   cases y with
   | non=>cases ry; exact PySem.EqNone.eq_none_none (a64 I q (by simp))
   | bl j=>cases ry; exact PySem.EqNone.eq_none_bool (a64 I q (by simp))
   | int j=>obtain ⟨t',rfl⟩:=ry; exact PySem.EqNone.eq_none_int (a64 I q (by simp))
   | str j=>obtain ⟨t',rfl⟩:=ry; exact PySem.EqNone.eq_none_str (a64 I q (by simp))
   | _=>exact absurd (show false=true from hs) Bool.false_ne_true
 | bl i =>
   cases rx
   cases y with
   | non=>cases ry; exact PySem.EqNone.eq_bool_none (a64 I q (by simp))
   | bl j=>cases ry; exact eq_bool (a64 I q bl2)
   | str j=>obtain ⟨t',rfl⟩:=ry; exact PySem.EqMixed.eq_bool_str (a64 I q (by simp))
   | _=>exact absurd (show false=true from hs) Bool.false_ne_true
 | int i =>
   obtain ⟨t,rfl⟩:=rx
   cases y with
   | non=>cases ry; exact PySem.EqNone.eq_int_none (a64 I q (by simp))
   | int j=>obtain ⟨t',rfl⟩:=ry; exact eq_int (a64 I q b71)
   | str j=>obtain ⟨t',rfl⟩:=ry; exact PySem.EqMixed.eq_int_str (a64 I q (by simp))
   | _=>exact absurd (show false=true from hs) Bool.false_ne_true
 | str i =>
   obtain ⟨t,rfl⟩:=rx
   cases y with
   | non=>cases ry; exact PySem.EqNone.eq_str_none (a64 I q (by simp))
   | bl j=>cases ry; exact PySem.EqMixed.eq_str_bool (a64 I q (by simp))
   | int j=>obtain ⟨t',rfl⟩:=ry; exact PySem.EqMixed.eq_str_int (a64 I q (by simp))
   | str j=>obtain ⟨t',rfl⟩:=ry; exact eq_str (a64 I q b72)
   | _=>exact absurd (show false=true from hs) Bool.false_ne_true
 | byt i =>
   obtain ⟨t,rfl⟩:=rx
   cases y with
   | byt j=>obtain ⟨t',rfl⟩:=ry; exact W.eq_bytes (a64 I q b73)
   | _=>exact absurd (show false=true from hs) Bool.false_ne_true
 | _=>cases y <;> exact absurd (show false=true from hs) Bool.false_ne_true
theorem bv8:OpR X (compareOp .NotEq) rNe:=by
 intro pins s σ H x y v u Q I rx ry h
 obtain ⟨hs,q⟩:=h
 cases x with
 | non =>
   cases rx
   cases y with
   | non=>cases ry; exact PySem.EqNone.ne_none_none (a64 I q (by simp))
   | bl j=>cases ry; exact PySem.EqNone.ne_none_bool (a64 I q (by simp))
   | int j=>obtain ⟨t',rfl⟩:=ry; exact PySem.EqNone.ne_none_int (a64 I q (by simp))
   | str j=>obtain ⟨t',rfl⟩:=ry; exact PySem.EqNone.ne_none_str (a64 I q (by simp))
   | _=>exact absurd (show false=true from hs) Bool.false_ne_true
 | bl i =>
   cases rx
   cases y with
   | non=>cases ry; exact PySem.EqNone.ne_bool_none (a64 I q (by simp))
   | bl j=>cases ry; exact ne_bool (a64 I q (congrArg not bl2))
   | str j=>obtain ⟨t',rfl⟩:=ry; exact PySem.EqMixed.ne_bool_str (a64 I q (by simp))
   | _=>exact absurd (show false=true from hs) Bool.false_ne_true
 | int i =>
   obtain ⟨t,rfl⟩:=rx
   cases y with
   | non=>cases ry; exact PySem.EqNone.ne_int_none (a64 I q (by simp))
   | int j=>obtain ⟨t',rfl⟩:=ry; exact ne_int (a64 I q (congrArg not b71))
   | str j=>obtain ⟨t',rfl⟩:=ry; exact PySem.EqMixed.ne_int_str (a64 I q (by simp))
   | _=>exact absurd (show false=true from hs) Bool.false_ne_true
 | str i =>
   obtain ⟨t,rfl⟩:=rx
   cases y with
   | non=>cases ry; exact PySem.EqNone.ne_str_none (a64 I q (by simp))
   | bl j=>cases ry; exact PySem.EqMixed.ne_str_bool (a64 I q (by simp))
   | int j=>obtain ⟨t',rfl⟩:=ry; exact PySem.EqMixed.ne_str_int (a64 I q (by simp))
   | str j=>obtain ⟨t',rfl⟩:=ry; exact ne_str (a64 I q (congrArg not b72))
   | _=>exact absurd (show false=true from hs) Bool.false_ne_true
 | byt i =>
   obtain ⟨t,rfl⟩:=rx
   cases y with
   | byt j=>obtain ⟨t',rfl⟩:=ry; exact W.ne_bytes (a64 I q (congrArg not b73))
   | _=>exact absurd (show false=true from hs) Bool.false_ne_true
 | _=>cases y <;> exact absurd (show false=true from hs) Bool.false_ne_true
theorem aq9:OpR X (compareOp .Lt) (rI0 fun i j=>.bl (decide (i<j))):=opB0 fun _ _ _ _ _ _ _ q=>lt_int q
theorem bo1:OpR X (compareOp .Gt) (rI0 fun i j=>.bl (decide (j<i))):=opB0 fun _ _ _ _ _ _ _ q=>gt_int q
theorem c61:OpR X (compareOp .GtE) (rI0 fun i j=>.bl (decide (j≤i))):=opB0 fun _ _ _ _ _ _ _ q=>ge_int q
theorem b74:OpR X (compareOp .In) (fun x y H Q=>∃ i j,x=.str i∧y=.str j∧Q (.bl (!(Builtin.Str.occurrences j i 0 j.length 1).isEmpty)) H):=by
 intro pins s σ H x y v u Q I rx ry h
 obtain ⟨i,j,rfl,rfl,q⟩:=h
 obtain ⟨t,rfl⟩:=rx
 obtain ⟨t',rfl⟩:=ry
 exact in_str (a64 I q rfl)
theorem bv9:OpR X (compareOp .Is) (fun x y H Q=>y=.non∧Q (.bl (decide (x=.non))) H):=by
 intro pins s σ H x y v u Q I rx ry h
 obtain ⟨rfl,q⟩:=h
 cases ry
 refine is_none_gen (a64 I q ?_)
 cases x <;> first
  | (cases rx; rfl)
  | (obtain ⟨t,rfl⟩:=rx; rfl)
theorem nomark (b:Expr) {op:CmpOp}(h:op≠.In:=by decide) (h2:op≠.NotIn:=by decide):behindInMarks op b=false:=by
 have e1:(op == CmpOp.In)=false:=by cases op <;> first | rfl | exact absurd rfl h
 have e2:(op == CmpOp.NotIn)=false:=by cases op <;> first | rfl | exact absurd rfl h2
 cases b <;> simp [behindInMarks,e1,e2]
theorem ac4 {op:CmpOp}{r:R2}(ho:OpR X (compareOp op) r) (ha:PE X a ta) (hb:PE X b tb) (hm:behindInMarks op b=false):PE X (.Compare a [op] [b] pos) (tOp r ta tb):=by
 intro pins s σ H Q I h
 exact wpAny_Compare1 (binT ha hb I h fun v u s2 x y H2 I2 rx ry q=>ho pins s2 σ H2 x y v u Q I2 rx ry q) hm
def tTest (t:TE):TT:=fun σ H Q=>t σ H fun x H'=>∃ k,x=.bl k∧Q k H'
theorem a53 {op:CmpOp}{r:R2}(ho:OpR X (compareOp op) r) (ha:PE X a ta) (hb:PE X b tb) (hm:behindInMarks op b=false):PT X (.Compare a [op] [b] pos) (tTest (tOp r ta tb)):=by
 intro pins s σ H Q I h
 refine wpAny_isTrue_Compare1 (thn (ha pins s σ H _ I h) fun v s1 ⟨x,H1,I1,r1,q1⟩=>thn (hb pins s1 σ H1 _ I1 q1) fun u s2 ⟨y,H2,I2,r2,q2⟩ =>
  thn (ho pins s2 σ H2 x y v u _ I2 r1 r2 q2) fun c s3 ⟨z,H3,I3,r3,k,e,q3⟩=>?_) hm
 subst e
 cases r3
 exact wpAny_truthy_bool ⟨H3,I3,q3⟩
def TruV (K:W.Frag) (x:V) (H:Hp) (k:Bool):Prop :=
 match x with
 | .non=>k=false
 | .bl b=>k=b
 | .int i=>k=(i != 0)
 | .str y=>y.length≤sizeLine∧k=((y.length:Int) != 0)
 | .byt y=>y.size≤sizeLine∧k=((y.size:Int) != 0)
 | .ref p=>(∃ xs,SqL K H p xs∧k=!xs.isEmpty)∨(∃ xs,SqT K H p xs∧k=!xs.isEmpty)∨∃ kvs,H p=some (.dK kvs)∧k=!kvs.isEmpty
 | _=>False
theorem b38 {κ:Type} {kvs:List (κ×V)}{vs:List (κ×Value)}(r:KV kvs vs):(!vs.isEmpty)=!kvs.isEmpty:=by
 cases r <;> rfl
theorem am0 {xs:List V}{its:List Value}(r:Vals xs its):(!its.toArray.isEmpty)=!xs.isEmpty:=by
 cases r <;> simp
theorem am1:(sizeLine:Nat)<2 ^ 63:=by rw [sizeLine_eq]; decide
theorem bw0:TruR X (fun x H Q=>∃ k,TruV X.K x H k∧Q k H):=by
 intro pins s σ H x v Q I rx h
 obtain ⟨k,e,q⟩:=h
 have hl:=am1
 have hs:sizeLine=16777216:=sizeLine_eq
 cases x with
 | non =>
   cases rx
   have e':k=false:=e
   subst e'
   exact truthy_none ⟨H,I,q⟩
 | bl b =>
   cases rx
   have e':k=b:=e
   subst e'
   exact wpAny_truthy_bool ⟨H,I,q⟩
 | int i =>
   obtain ⟨t,rfl⟩:=rx
   have e':k=(i != 0):=e
   subst e'
   exact PySem.P.truthy_int ⟨H,I,q⟩
 | str y =>
   obtain ⟨t,rfl⟩:=rx
   obtain ⟨hy,e'⟩:y.length≤sizeLine∧k=((y.length:Int) != 0):=e
   subst e'
   exact PySem.P.truthy_str (by omega) ⟨H,I.tok _,q⟩
 | byt y =>
   obtain ⟨t,rfl⟩:=rx
   obtain ⟨hy,e'⟩:y.size≤sizeLine∧k=((y.size:Int) != 0):=e
   subst e'
   exact W.truthy_bytes (by omega) ⟨H,I.tok _,q⟩
 | ref p =>
   cases rx
   have e':(∃ xs,SqL X.K H p xs∧k=!xs.isEmpty)∨(∃ xs,SqT X.K H p xs∧k=!xs.isEmpty)∨∃ kvs,H p=some (.dK kvs)∧k=!kvs.isEmpty:=e
   rcases e' with ⟨xs,hx,e'⟩ | ⟨xs,hx,e'⟩ | ⟨kvs,hx,e'⟩
   · subst e'
     obtain ⟨its,r,pl,hz⟩:=I.list hx
     have hlen:=r.length
     exact wpAny_truthy_list pl.isList (by simp only [List.size_toArray]; omega) ⟨H,I.tok _,by rw [am0 r]; exact q⟩
   · subst e'
     obtain ⟨its,r,pl,hz⟩:=I.tuple hx
     have hlen:=r.length
     exact truthy_tuple pl (by simp only [List.size_toArray]; omega) ⟨H,I.tok _,by rw [am0 r]; exact q⟩
   · subst e'
     obtain ⟨hz,hS,vs,r,m⟩:kvs.length≤sizeLine∧(p == sysModules)=false∧∃ vs,KV kvs vs∧s.heap.DictOf (mixKind X.prog X.w) p vs:=I.hok p _ hx
     have hlen:kvs.length=vs.length:=Paired.length r
     exact wpAny_truthy_dict hS m (by omega) ⟨H,I.tok _,by rw [b38 r]; exact q⟩
 | _=>exact (show False from e).elim
theorem be9 (ha:PE X a ta) (he:∀ whole,isTrue a X.env whole=(do let v←whole; standAt a.pos; holding [v] (truthy v))) :
 PT X a (fun σ H Q=>ta σ H fun x H'=>∃ k,TruV X.K x H' k∧Q k H'):=by
 intro pins s σ H Q I h
 exact isTrue_plain (thn (ha pins s σ H _ I h) fun v s1 ⟨x,H1,I1,r1,q1⟩=>bw0 pins s1 σ H1 x v Q I1 r1 q1) (he _)
theorem b39:OpR X (binaryOp .Add) (fun x y H Q=>∃ i j,x=.str i∧y=.str j∧i.length+j.length≤sizeLine∧Q (.str (i++j)) H):=by
 intro pins s σ H x y v u Q I rx ry h
 obtain ⟨i,j,rfl,rfl,hz,q⟩:=h
 obtain ⟨t,rfl⟩:=rx
 obtain ⟨t',rfl⟩:=ry
 exact add_str (fun t' tk=>⟨.str (i++j),H,I.tok _,⟨_,rfl⟩,q⟩) hz
theorem b40 {x:V}{us:List Value}(r:Vals [x] us):∃ u,us=[u]∧RelV x u:=by
 cases r with
 | cons r1 r2=>cases r2; exact ⟨_,rfl,r1⟩
theorem bf0 {x y:V}{us:List Value}(r:Vals [x,y] us):∃ u w',us=[u,w']∧RelV x u∧RelV y w':=by
 cases r with
 | cons r1 r2 =>
   cases r2 with
   | cons r3 r4=>cases r4; exact ⟨_,_,rfl,r1,r3⟩
theorem b75:CallR X (.type "int") (fun xs H Q=>(∃ i,xs=[.int i]∧Q (.int i) H)∨∃ k,xs=[.bl k]∧Q (.int (if k then 1 else 0)) H):=by
 intro pins s σ H xs us Q I r h
 rcases h with ⟨i,rfl,q⟩ | ⟨k,rfl,q⟩
 · obtain ⟨u,rfl,t,rfl⟩:=b40 r
   exact call_int_int ⟨.int i,H,I,⟨_,rfl⟩,q⟩
 · obtain ⟨u,rfl,r1⟩:=b40 r
   cases r1
   exact call_int_bool ⟨.int (if k then 1 else 0),H,I.tok _,⟨_,rfl⟩,q⟩
def LenV (K:W.Frag) (x:V) (H:Hp) (n:Nat):Prop :=
 match x with
 | .str y=>y.length≤sizeLine∧n=y.length
 | .byt y=>y.size≤sizeLine∧n=y.size
 | .ref p=>(∃ xs,SqL K H p xs∧n=xs.length)∨∃ xs,SqT K H p xs∧n=xs.length
 | _=>False
theorem bf1:CallR X (.builtin "len") (fun xs H Q=>∃ x n,xs=[x]∧LenV X.K x H n∧Q (.int n) H):=by
 intro pins s σ H xs us Q I r h
 obtain ⟨x,n,rfl,e,q⟩:=h
 obtain ⟨u,rfl,rx⟩:=b40 r
 have hl:=am1
 have hs:sizeLine=16777216:=sizeLine_eq
 cases x with
 | str y =>
   obtain ⟨t,rfl⟩:=rx
   obtain ⟨hy,e'⟩:y.length≤sizeLine∧n=y.length:=e
   subst e'
   exact len_str (by omega) ⟨.int _,H,I.tok _,⟨_,rfl⟩,q⟩
 | byt y =>
   obtain ⟨t,rfl⟩:=rx
   obtain ⟨hy,e'⟩:y.size≤sizeLine∧n=y.size:=e
   subst e'
   exact W.len_bytes (by omega) ⟨.int _,H,I.tok _,⟨_,rfl⟩,q⟩
 | ref p =>
   cases rx
   have e':(∃ xs,SqL X.K H p xs∧n=xs.length)∨∃ xs,SqT X.K H p xs∧n=xs.length:=e
   rcases e' with ⟨xs,hx,e'⟩ | ⟨xs,hx,e'⟩
   · subst e'
     obtain ⟨its,r',pl,hz⟩:=I.list hx
     have hlen:=r'.length
     exact Calls.call_len_list pl.isList (by simp only [List.size_toArray]; omega) ⟨.int xs.length,H,I.tok _,⟨_,by simp only [List.size_toArray]; rw [hlen]⟩,q⟩
   · subst e'
     obtain ⟨its,r',pl,hz⟩:=I.tuple hx
     have hlen:=r'.length
     exact len_tuple pl (by simp only [List.size_toArray]; omega) ⟨.int xs.length,H,I.tok _,⟨_,by simp only [List.size_toArray]; rw [hlen]⟩,q⟩
 | _=>exact (show False from e).elim
end
structure ObjM (h:Heap) (x dx C:Addr) (mA:Str→Option Value):Prop where
 obj:h.get? x=some (W.instObj C dx)
 ns:h.Ns1 dx mA
 ne:dx≠x
theorem b76 {h:Heap}{dx:Addr}{mA:Str→Option Value}(n:h.Ns1 dx mA):∃ od,h.get? dx=some od∧∀ name,W.lookIn name od=some (mA name):=by
 obtain ⟨o,es,ep,ho,hd,hk,_,hm⟩:=n
 refine ⟨o,ho,fun name=>?_⟩
 have e:=hm name
 unfold nsFind findBy at e
 rw [← Array.find?_toList] at e
 unfold W.lookIn
 rw [hd]
 dsimp only
 split
 · rename_i y q
   rw [q] at e
   exact congrArg some e
 · rename_i q
   rw [q] at e
   have a:es.toList.any (·.refKey)=false:=by
    rw [List.any_eq_false]
    intro y hy
    obtain ⟨z,t,hkey⟩:=hk y (Array.mem_toList_iff.mp hy)
    simp [DictEntry.refKey,hkey]
   have a':¬ es.toList.any (·.refKey)=true:=by rw [a]; exact Bool.false_ne_true
   rw [if_neg a']
   exact congrArg some e
theorem ObjM.look {h:Heap}{x dx C:Addr}{mA:Str→Option Value}(I:ObjM h x dx C mA):∃ od,W.InstAt h x (W.instObj C dx) C (some od)∧∀ name,W.lookIn name od=some (mA name) :=
 let ⟨od,ho,hl⟩:=b76 I.ns
 ⟨od,⟨I.obj,rfl,rfl,ho⟩,hl⟩
section
variable {prog:Program}{w:World}{A:Around}{E:Value→Shared→Prop}{s:Shared}{K:W.Frag}{x dx C f:Addr}{mA:Str→Option Value}{name:Str}{v:Value}
theorem bo2 {expr:Bool}{Q:Value→Shared→Prop}(X:K.In s.heap) (I:ObjM s.heap x dx C mA) (hg:W.plainGet K C name=true) (hh:W.hasDictIn K C=true)
 (ha:W.findIn K (.ref C) name=some none) (hv:mA name=some v) (hv':W.handedIn v=true) (h:Q v { s with toks:=s.toks+1 }) :
 wpAny (model prog w) A (getAttr (.ref x) name expr) Q E s:=by
 obtain ⟨od,J,hl⟩:=I.look
 exact W.get_value X J (W.plainGet_of hg).1 (W.findObj_own hh ha rfl (by rw [hl,hv])) hv' h
theorem bf2 {pl:Sem Bool}{Q:Value×List Value→Shared→Prop}(X:K.In s.heap) (I:ObjM s.heap x dx C mA) (hg:W.plainGet K C name=true)
 (hf:W.findIn K (.ref C) name=some (some (.ref f))) (ht:W.isFn K (.ref f)=true) (hv:mA name=none) (h:Q (.ref f,[.ref x]) s) :
 wpAny (model prog w) A (getMethod (.ref x) name pl) Q E s:=by
 obtain ⟨od,J,hl⟩:=I.look
 exact W.method_fn X J (W.plainGet_of hg).1 (W.plainGet_of hg).2 hf (beq_iff_eq.mp ht) (by show (W.lookIn name od).map (·.isSome)=some false; rw [hl,hv]; rfl) h
theorem bo3 {ns:List Str}{Q:Unit→Shared→Prop}(X:K.In s.heap) (I:ObjM s.heap x dx C mA)
 (hs:W.findIn K (.ref C) "__setattr__"=some (some (.builtin "object.__setattr__"))) (hp:W.plainOver K C=true) (ht:W.takerIn K C name=some none) (hh:W.hasDictIn K C=true)
 (hw:PySem.Within mA ns) (hsz:ns.length≤sizeLine)
 (h:∀ h',ObjM h' x dx C (fun y=>if y=name then some v else mA y)→Heap.SameBut dx s.heap h'→Q () { s with heap:=h',toks:=s.toks+2 }) :
 wpAny (model prog w) A (setAttr (.ref x) name v) Q E s:=by
 obtain ⟨od,J,hl⟩:=I.look
 refine W.set_plain X J hs (W.osa_open (s:={ s with toks:=s.toks+1 }) (r:=none) X J hp ht fun b=>?_)
 obtain ⟨cd,hc,hd'⟩:=W.any_some hh
 have hx:s.heap.get? x=some ⟨.ref C,some dx,.plain,#[]⟩:=I.obj
 refine wB (wpAny_pure (wB (wB (wpAny_loadPart hx (wB (W.Looks.here (s:={ s with toks:=s.toks+1 }) (W.looks_clsIn X hc) ?_))))))
 rw [hd']
 refine wpAny_pure (a:=some dx) (wB (wpAny_pure (wB ?_)))
 refine wpAny_nsSet1 (s:={ s with toks:=s.toks+1 }) I.ns fun h' hn2 hs2=>?_
 obtain ⟨oD,esD,epD,hoD,hdD,hcD⟩:=hn2.count (PySem.Within.cons name v hw)
 refine wB (wpAny_lookBehind hoD (by rw [hdD]; exact pastItsLine_dict (Nat.le_trans hcD (by rw [List.length_cons]; omega))) ?_)
 exact wpAny_pure (h _ ⟨(hs2.2 _ (Ne.symm I.ne)).trans I.obj,hn2,I.ne⟩ hs2)
theorem bf3 {R:Result→Shared→Prop}{vs:List Value}{kw:List (Str×Value)}(X:K.In s.heap) (hm:W.makesIn K C=true)
 (hi:W.findIn K (.ref C) "__init__"=some (some (.ref f))) (hf:W.typeIn K (.ref f)=some (.type "function"))
 (h:codeAny (model prog w) (A.under (.builtin "type.__call__" ⟨.ref C::vs,kw⟩)) (.call (.ref f) ⟨.ref (s.heap.objs.size+1)::vs,kw⟩) (W.InitBack (s.heap.objs.size+1) R)
  { s with heap:=(s.heap.push W.emptyDict).push (W.instObj C s.heap.objs.size) }) :
 codeAny (model prog w) A (.call (.ref C) ⟨vs,kw⟩) R s:=by
 obtain ⟨hh,g,d,t,os⟩:=s
 exact W.make_core (W.makes_of X hm) (W.looks_findIn X hi) (fun self=>W.bind_fn X self hf) (.inl rfl) h
end
def putF (f:Str) (v:V):List (Str×V)→List (Str×V)
 | []=>[(f,v)]
 | (g,x)::r=>if g=f then (g,v)::r else (g,x)::putF f v r
theorem a56 (f g:Str) (v:V):∀ fs:List (Str×V),(putF f v fs).lookup g=if g=f then some v else fs.lookup g
 | []=>by
   show List.lookup g [(f,v)]=_
   by_cases h:g=f
   · have hb:(g == f)=true:=beq_iff_eq.mpr h
     simp only [List.lookup,hb,if_pos h]
   · have hb:(g == f)=false:=beq_eq_false_iff_ne.mpr h
     simp only [List.lookup,hb,if_neg h]
 | (k,x)::r=>by
   have ih:=a56 f g v r
   rw [show putF f v ((k,x)::r)=(if k=f then (k,v)::r else (k,x)::putF f v r) from rfl]
   by_cases hk:k=f
   · rw [if_pos hk]
     by_cases h:g=k
     · have hb:(g == k)=true:=beq_iff_eq.mpr h
       simp only [List.lookup,hb,if_pos (h.trans hk)]
     · have hb:(g == k)=false:=beq_eq_false_iff_ne.mpr h
       simp only [List.lookup,hb,if_neg (fun e:g=f=>h (e.trans hk.symm))]
   · rw [if_neg hk]
     by_cases h:g=k
     · have hb:(g == k)=true:=beq_iff_eq.mpr h
       simp only [List.lookup,hb,if_neg (fun e:g=f=>hk (h.symm.trans e))]
     · have hb:(g == k)=false:=beq_eq_false_iff_ne.mpr h
       simp only [List.lookup,hb]
       exact ih
theorem aj6 (f:Str) (v:V):∀ fs:List (Str×V),f∈(putF f v fs).map (·.1)∧∀ g,g∈fs.map (·.1)→g∈(putF f v fs).map (·.1)
 | []=>⟨by simp [putF],fun g h=>by simp at h⟩
 | (k,x)::r=>by
   obtain ⟨i1,i2⟩:=aj6 f v r
   rw [show putF f v ((k,x)::r)=(if k=f then (k,v)::r else (k,x)::putF f v r) from rfl]
   by_cases hk:k=f
   · rw [if_pos hk]
     subst hk
     exact ⟨by simp,fun g h=>by simpa using h⟩
   · rw [if_neg hk]
     refine ⟨?_,fun g h=>?_⟩
     · rw [List.map_cons]
       exact List.mem_cons_of_mem _ i1
     · rw [List.map_cons] at h ⊢
       rcases List.mem_cons.mp h with e | e
       · exact List.mem_cons.mpr (.inl e)
       · exact List.mem_cons_of_mem _ (i2 g e)
theorem aa1 (f:Str) (v:V):∀ fs:List (Str×V),(putF f v fs).length≤fs.length+1
 | []=>by simp [putF]
 | (k,x)::r=>by
   have ih:=aa1 f v r
   rw [show putF f v ((k,x)::r)=(if k=f then (k,v)::r else (k,x)::putF f v r) from rfl]
   by_cases hk:k=f
   · rw [if_pos hk,List.length_cons,List.length_cons]; omega
   · rw [if_neg hk,List.length_cons,List.length_cons]; omega
theorem RelO.some_of {v:V}{o:Option Value}(r:RelO (some v) o):∃ u,o=some u∧RelV v u:=by
 cases o with
 | none=>exact (show False from r).elim
 | some u=>exact ⟨u,rfl,r⟩
theorem RelO.none_of {o:Option Value}(r:RelO none o):o=none:=by
 cases o with
 | none=>rfl
 | some u=>exact (show False from r).elim
theorem b77 {v:V}{u:Value}(r:RelV v u):W.handedIn u=true:=by
 cases v with
 | non=>cases (show u=Value.none from r); rfl
 | bl b=>cases (show u=Value.bool b from r); rfl
 | int i=>obtain ⟨t,e⟩:=(show ∃ t,u=Value.int i t from r); cases e; rfl
 | str x=>obtain ⟨t,e⟩:=(show ∃ t,u=Value.str x t from r); cases e; rfl
 | byt b=>obtain ⟨t,e⟩:=(show ∃ t,u=Value.bytes b t from r); cases e; rfl
 | flt b=>obtain ⟨t,e⟩:=(show ∃ t,u=Value.float b t from r); cases e; rfl
 | ref a=>cases (show u=Value.ref a from r); rfl
 | ty n=>cases (show u=Value.type n from r); rfl
section
variable {P:Program}{w:World}{H H':Hp}{h h':Heap}{a C dx:Addr}{fs fs':List (Str×V)}
theorem ao6 (hok:HOk P w H h) (e:H a=some (.ins C dx fs)):∃ mA,ObjM h a dx C mA∧(∀ f,RelO (fs.lookup f) (mA f))∧PySem.Within mA (fs.map (·.1))∧fs.length≤1000∧H dx=some (.own a):=by
 obtain ⟨d,z,ne,ob,mA,n,r,q⟩:=(show ObjOk P w H h a (.ins C dx fs) from hok a _ e)
 exact ⟨mA,⟨ob,n,ne⟩,r,q,z,d⟩
end
structure Cls (K:W.Frag) (C:Addr):Prop where
 pg:W.plainGet K C Str.empty=true
 hd:W.hasDictIn K C=true
 po:W.plainOver K C=true
 sa:W.findIn K (.ref C) "__setattr__"=some (some (.builtin "object.__setattr__"))
theorem Cls.get {K:W.Frag}{C:Addr}(c:Cls K C) (f:Str):W.plainGet K C f=true:=c.pg
def NoAttr (K:W.Frag) (C:Addr) (f:Str):Prop:=W.findIn K (.ref C) f=some none
theorem NoAttr.taker {K:W.Frag}{C:Addr}{f:Str}(n:NoAttr K C f):W.takerIn K C f=some none:=by
 unfold W.takerIn
 rw [show W.findIn K (.ref C) f=some none from n]
 rfl
structure Meth (K:W.Frag) (C:Addr) (m:Str) (f:Addr):Prop where
 at_:W.findIn K (.ref C) m=some (some (.ref f))
 fn:W.isFn K (.ref f)=true
 kp:W.keepIn K (.ref f)=true
section
variable {X:Cx}{pins:List (Addr×Obj)}{σ:St} {H:Hp}{s:Shared}{a C dx:Addr}{fs:List (Str×V)}{f:Str}{v:V}{A:Around}{E:Value→Shared→Prop}
theorem b41 {b:Bool}{Q:Value→Shared→Prop}(I:Inv X pins σ H s) (e:H a=some (.ins C dx fs)) (c:Cls X.K C) (n:NoAttr X.K C f) (l:fs.lookup f=some v)
 (h:∀ u s',Inv X pins σ H s'→RelV v u→Q u s'):wpAny (model X.prog X.w) A (getAttr (.ref a) f b) Q E s:=by
 obtain ⟨mA,O,r,_,_,_⟩:=ao6 I.hok e
 obtain ⟨u,hu,ru⟩:=RelO.some_of (v:=v) (o:=mA f) (by rw [← l]; exact r f)
 exact bo2 I.kIn O (c.get f) c.hd n hu (b77 ru) (h u _ (I.tok _) ru)
theorem am2 {m:Str}{g:Addr}{pl:Sem Bool}{Q:Value×List Value→Shared→Prop}(I:Inv X pins σ H s) (e:H a=some (.ins C dx fs)) (c:Cls X.K C) (k:Meth X.K C m g) (l:fs.lookup m=none)
 (h:Q (.ref g,[.ref a]) s):wpAny (model X.prog X.w) A (getMethod (.ref a) m pl) Q E s:=by
 obtain ⟨mA,O,r,_,_,_⟩:=ao6 I.hok e
 have hn:mA m=none:=RelO.none_of (by rw [← l]; exact r m)
 exact bf2 I.kIn O (c.get m) k.at_ k.fn hn h
theorem b42 {y:V}{u:Value}{Q:Unit→Shared→Prop}(I:Inv X pins σ H s) (e:H a=some (.ins C dx fs)) (c:Cls X.K C) (n:NoAttr X.K C f) (hl:fs.length<1000) (ry:RelV y u)
 (h:∀ s',Inv X pins σ (upd H a (.ins C dx (putF f y fs))) s'→Q () s'):wpAny (model X.prog X.w) A (setAttr (.ref a) f u) Q E s:=by
 obtain ⟨mA,O,r,wi,_,ho⟩:=ao6 I.hok e
 have hz:(fs.map (·.1)).length≤sizeLine:=by rw [gL,sizeLine_eq]; omega
 refine bo3 I.kIn O c.sa c.po n.taker c.hd wi hz fun h' O' sb=>h _ ?_
 have hd:∃ o,h'.get? dx=some o:=let ⟨o,_,_,e',_⟩:=O'.ns; ⟨o,e'⟩
 refine I.write (x:=a) (e:=dx) (by rw [e]; exact True.intro) (.inr ho) (fun b q hb z=>(sb.2 b hb).trans z) hd ?_
 refine ⟨by rw [a09 O.ne]; exact ho,?_,O.ne,O'.obj,_,O'.ns,fun g=>?_,fun g hg=>?_⟩
 · have:=aa1 f y fs; omega
 · show RelO ((putF f y fs).lookup g) (if g=f then some u else mA g)
   rw [a56]
   by_cases q:g=f
   · rw [if_pos q,if_pos q]; exact ry
   · rw [if_neg q,if_neg q]; exact r g
 · by_cases q:g=f
   · rw [q]; exact (aj6 f y fs).1
   · refine (aj6 f y fs).2 g (wi g fun z=>hg ?_)
     show (if g=f then some u else mA g)=none
     rw [if_neg q]; exact z
theorem Inv.made (I:Inv X pins σ H s):Inv X pins σ (upd (upd H s.heap.objs.size (.own (s.heap.objs.size+1))) (s.heap.objs.size+1) (.ins C s.heap.objs.size []))
 { s with heap:=(s.heap.push W.emptyDict).push (W.instObj C s.heap.objs.size) }:=by
 have e1:(s.heap.push W.emptyDict).get? s.heap.objs.size=some W.emptyDict:=Heap.get?_push_size s.heap rfl
 have e2:((s.heap.push W.emptyDict).push (W.instObj C s.heap.objs.size)).get? (s.heap.objs.size+1)=some (W.instObj C s.heap.objs.size):=by
  have:=Heap.get?_push_size (s.heap.push W.emptyDict) (o:=W.instObj C s.heap.objs.size) rfl
  rwa [Heap.size_push] at this
 have e3:(s.heap.push W.emptyDict).Ns s.heap.objs.size (fun _=>none):=⟨W.emptyDict,#[],_,e1,rfl,(fun e he=>absurd he (by simp)),fun _=>rfl⟩
 have I1:=I.laid (a:=s.heap.objs.size) (o:=.own (s.heap.objs.size+1)) (h':=s.heap.push W.emptyDict) (t':=s.toks) (fun b u q=>gP _ q) (Nat.le_refl _) ⟨_,e1⟩
 refine I1.laid (a:=s.heap.objs.size+1) (o:=.ins C s.heap.objs.size []) (t':=s.toks) (fun b u q=>gP _ q) (Nat.le_of_eq (Heap.size_push _ _)) ?_
 have ne:s.heap.objs.size≠s.heap.objs.size+1:=Nat.ne_of_lt (Nat.lt_succ_self _)
 refine ⟨by rw [a09 ne,a33],Nat.zero_le _,ne,e2,fun _=>none,(Heap.Ns1.of_empty e3).at fun o q=>gP _ q,fun _=>True.intro,fun y hy=>absurd rfl hy⟩
theorem bo4 {prog:Program}{w:World}{env:Env}{e:Expr}{f:Str}{pos:Pos}{s:Shared}{Q:Value→Shared→Prop}(hb:attributeBase e f env (eval e env)=eval e env)
 (h:wpAny (model prog w) A (eval e env) (fun o s₁=>wpAny (model prog w) A (getAttr o f true) Q E s₁) E s):wpAny (model prog w) A (eval (.Attribute e f pos) env) Q E s :=
 Attribute_any_ h (by rw [arm_eval_Attribute,hb])
end
def tFld (K:W.Frag) (ta:TE) (f:Str):TE:=fun σ H Q=>ta σ H fun x H1=>∃ a C dx fs v,x=.ref a∧H1 a=some (.ins C dx fs)∧Cls K C∧NoAttr K C f∧fs.lookup f=some v∧Q v H1
def sFld (K:W.Frag) (ta tv:TE) (f:Str):TS:=fun D σ H=>tv σ H fun y H1=>ta σ H1 fun x H2=>∃ a C dx fs,x=.ref a∧H2 a=some (.ins C dx fs)∧Cls K C∧NoAttr K C f∧fs.length<1000 ∧
 D.nx σ (upd H2 a (.ins C dx (putF f y fs)))
section
variable {X:Cx}{o e value:Expr}{f:Str}{pos pos' tpos:Pos}{ta tv:TE}
theorem bw1 (he:PE X e ta) (hb:attributeBase e f X.env (eval e X.env)=eval e X.env):PE X (.Attribute e f pos) (tFld X.K ta f):=by
 intro pins s σ H Q I h
 refine bo4 hb (thn (he pins s σ H _ I h) fun u s1 ⟨x,H1,I1,rx,a,C,dx,fs,v,ex,ea,c,n,l,q⟩=>?_)
 subst ex
 obtain rfl:u=Value.ref a:=rx
 exact b41 I1 ea c n l fun u' s2 I2 ru=>⟨v,H1,I2,ru,q⟩
theorem bw2 (ha:PE X o ta) (hv:PE X value tv) (hs:swapsWith value (some (.Attribute o f pos')) pos.line X.env=pure false):PS X (.Assign [.Attribute o f pos'] value pos) (sFld X.K ta tv f):=by
 intro pins s σ H D I h
 refine plainObj_wpAny_Assign_Attribute (thn (hv pins s σ H _ I h) fun u s1 ⟨y,H1,I1,ry,q⟩=>thn (ha pins s1 σ H1 _ I1 q) fun ov s2 ⟨x,H2,I2,rx,a,C,dx,fs,ex,ea,c,n,l,q2⟩=>?_) hs
 subst ex
 obtain rfl:ov=Value.ref a:=rx
 exact b42 I2 ea c n l ry fun s3 I3=>⟨σ,_,I3,q2⟩
end
section
variable {X:Cx}{pins:List (Addr×Obj)}{σ:St} {H:Hp}{s:Shared}{A:Around}{E:Value→Shared→Prop}{Q:Value→Shared→Prop}{c:Value}{b:Bool}
inductive TyOf (K:W.Frag) (H:Hp):V→Value→Prop where
 | non:TyOf K H .non (.type "NoneType")
 | bl (x:Bool):TyOf K H (.bl x) (.type "bool")
 | int (i:Int):TyOf K H (.int i) (.type "int")
 | str (x:Str):TyOf K H (.str x) (.type "str")
 | flt (x:UInt64):TyOf K H (.flt x) (.type "float")
 | lst {a:Addr}{xs:List V}(e:H a=some (.lst xs)):TyOf K H (.ref a) (.type "list")
 | frz {a:Addr}{o:Obj}{xs:List V}(e:H a=some (.frz o (.lst xs))):TyOf K H (.ref a) (.type "list")
 | tup {a:Addr}{xs:List V}(e:H a=some (.tup xs)):TyOf K H (.ref a) (.type "tuple")
 | dK {a:Addr}{kvs:List (Key×V)}(e:H a=some (.dK kvs)):TyOf K H (.ref a) (.type "dict")
 | dT {a:Addr}{kvs:List (List Key×V)}(e:H a=some (.dT kvs)):TyOf K H (.ref a) (.type "dict")
 | ins {a C dx:Addr}{fs:List (Str×V)}(e:H a=some (.ins C dx fs)) (cl:Cls K C) (ha:W.findIn K (.ref C) "__class__"=some (some (.builtin "object.__class__")))
  (hn:W.specialIn K (.builtin "object.__class__") "__get__"=some (some (.builtin "getset_descriptor.__get__"))) (htk:W.takesIn K (.builtin "object.__class__")=some true)
  (hm:W.mroIn K C (.type "object")=some true):TyOf K H (.ref a) (.ref C)
theorem b78 {x:V}{u t:Value}(I:Inv X pins σ H s) (rx:RelV x u) (ty:TyOf X.K H x t) (e:W.kitOne X.K t c=some b) (h:∀ tk,Q (.bool b) { s with toks:=tk }) :
 wpAny (model X.prog X.w) A (call (.builtin "isinstance") [u,c]) Q E s:=by
 cases ty with
 | non=>cases (show u=Value.none from rx); exact W.kia_one W.kitx_none I.kIn True.intro e (fun z=>nomatch z) h
 | bl y=>cases (show u=Value.bool y from rx); exact W.kia_one W.kitx_bool I.kIn True.intro e (fun z=>nomatch z) h
 | int i=>obtain ⟨t,q⟩:=(show ∃ t,u=Value.int i t from rx); cases q; exact W.kia_one W.kitx_int I.kIn True.intro e (fun z=>nomatch z) h
 | str y=>obtain ⟨t,q⟩:=(show ∃ t,u=Value.str y t from rx); cases q; exact W.kia_one W.kitx_str I.kIn True.intro e (fun z=>nomatch z) h
 | flt y=>obtain ⟨t,q⟩:=(show ∃ t,u=Value.float y t from rx); cases q; exact W.kia_one W.kitx_float I.kIn True.intro e (fun z=>nomatch z) h
 | @lst a xs ea =>
   cases (show u=Value.ref a from rx)
   obtain ⟨_,_,n,_,h1⟩:=(show ObjOk X.prog X.w H s.heap a (.lst xs) from I.hok a _ ea)
   exact W.kia_one W.kitx_list I.kIn ⟨_,h1,rfl⟩ e (fun z=>nomatch z) h
 | @frz a ob xs ea =>
   cases (show u=Value.ref a from rx)
   obtain ⟨_,_,_,n,_,h1⟩:=(show ObjOk X.prog X.w H s.heap a (.frz ob (.lst xs)) from I.hok a _ ea)
   exact W.kia_one W.kitx_list I.kIn ⟨_,h1,rfl⟩ e (fun z=>nomatch z) h
 | @tup a xs ea =>
   cases (show u=Value.ref a from rx)
   obtain ⟨_,_,_,p⟩:=(show ObjOk X.prog X.w H s.heap a (.tup xs) from I.hok a _ ea)
   obtain ⟨o,h1,h2,_⟩:=p
   exact W.kia_one W.kitx_tuple I.kIn ⟨o,h1,h2⟩ e (fun z=>nomatch z) h
 | @dK a kvs ea =>
   cases (show u=Value.ref a from rx)
   obtain ⟨_,_,vs,_,p⟩:=(show ObjOk X.prog X.w H s.heap a (.dK kvs) from I.hok a _ ea)
   obtain ⟨o,es,ep,h1,h2,_⟩:=p
   exact W.kia_one W.kitx_dict I.kIn ⟨o,h1,h2.1⟩ e (fun z=>nomatch z) h
 | @dT a kvs ea =>
   cases (show u=Value.ref a from rx)
   obtain ⟨_,_,xs,_,o,es,ep,h1,h2,_⟩:=(show ObjOk X.prog X.w H s.heap a (.dT kvs) from I.hok a _ ea)
   exact W.kia_one W.kitx_dict I.kIn ⟨o,h1,h2.1⟩ e (fun z=>nomatch z) h
 | @ins a C dx fs ea cl ha hn htk hm =>
   cases (show u=Value.ref a from rx)
   obtain ⟨mA,O,_⟩:=ao6 I.hok ea
   obtain ⟨od,J,_⟩:=O.look
   exact W.kia_one (W.kitx_own (cl.get _) cl.hd ha hn htk hm) I.kIn J e (fun z=>nomatch z) h
end
structure Room (k:Nat) (A:Around):Prop where
 hd:A.handled=none
 dp:A.depth+3*k+5<recursionLimit
 un:A.units+16*k+200<cLine
theorem Room.mono {j k:Nat}{A:Around}(r:Room k A) (h:j≤k):Room j A:=⟨r.hd,by have:=r.dp; omega,by have:=r.un; omega⟩
theorem Room.deeper {k:Nat}{A:Around}(r:Room (k+1) A) (env:Env):Room k (A.deeper env) :=
 ⟨r.hd,by have:=r.dp; show A.depth+1+3*k+5<_; omega,by have:=r.un; show A.units+3+16*k+200<_; omega⟩
theorem b43 {A:Around}{C:Addr}{us:List Value}{kw:List (Str×Value)}:(A.under (.builtin "type.__call__" ⟨.ref C::us,kw⟩)).depth=A.depth+1:=by
 first | rfl | simp [Around.under,Code.weight,Code.isCreation,Code.isGuard,Code.isCaller,Code.frames,Code.isFrame,guardIds]
theorem b44 {A:Around}{C:Addr}{us:List Value}{kw:List (Str×Value)}:(A.under (.builtin "type.__call__" ⟨.ref C::us,kw⟩)).units=A.units+1:=by
 first | rfl | simp [Around.under,Code.cUnits,Code.frames,Code.isFrame]
theorem Room.make {k:Nat}{A:Around}(r:Room (k+1) A) (C:Addr) (us:List Value) (kw:List (Str×Value)):Room k (A.under (.builtin "type.__call__" ⟨.ref C::us,kw⟩)) :=
 ⟨r.hd,by have:=r.dp; rw [b43]; omega,by have:=r.un; rw [b44]; omega⟩
theorem Room.depth {k:Nat}{A:Around}(r:Room k A):A.depth<recursionLimit:=by have:=r.dp; omega
theorem Room.units {k:Nat}{A:Around}(r:Room k A):A.units+64<cLine:=by have:=r.un; omega
def tNil:TA:=fun _ H Q=>Q [] H
def tCons (ta:TE) (tr:TA):TA:=fun σ H Q=>ta σ H fun x H1=>tr σ H1 fun xs H2=>Q (x::xs) H2
section
variable {X:Cx}{e:Expr}{es:List Expr}{te:TE}{t:TA}{pos:Pos}
theorem a01:PA X [] tNil:=fun _ _ _ _ H Q I h=>Calls.spliced_nil ⟨[],H,I,.nil,h⟩
theorem a00 (ha:PE X e te) (hr:PA X es t) (hs:starEach (e::es) X.env=(false,eval e X.env)::starEach es X.env:=by rfl):PA X (e::es) (tCons te t):=by
 intro pos pins s σ H Q I h
 rw [hs]
 show wpAny _ _ (spliced ((false,eval e X.env)::backTo pos (starEach es X.env))) _ _ s
 refine Calls.spliced_cons (thn (ha pins s σ H _ I h) fun u s1 ⟨x,H1,I1,r1,q1⟩=>?_)
 exact thn (hr pos pins s1 σ H1 _ I1 q1) fun us s2 ⟨xs,H2,I2,r2,q2⟩=>⟨x::xs,H2,I2,.cons r1 r2,q2⟩
end
abbrev Sp:=List V→Hp→VK→XK→Prop
abbrev CXT:=List Env→Hp→Shared→XK→Value→Shared→Prop
structure Env0 (P:Program) (w:World) (K:W.Frag) (mg:Str→Option Value) (base:Heap) (A:Around) (outer:List Env) (s:Shared) (H:Hp):Prop where
 frames:A.frames=some outer
 mod:Mod K mg base
 bs:∀ b o,base.get? b=some o→s.heap.get? b=some o∧H b=none
 bsz:base.objs.size≤s.heap.objs.size
 funs:s.heap.FunFrames base outer
 frf:∀ b∈frs outer,H b=none
 hok:HOk P w H s.heap
 bare:AllBare s.gens
def CE (outer:List Env) (P:Program) (w:World) (H:Hp) (s:Shared) (Q:VK) (u:Value) (s':Shared):Prop :=
 ∃ v H',s'.os=s.os∧AllBare s'.gens∧Un (frs outer) [] H H' s.heap s'.heap∧HOk P w H' s'.heap∧RelV v u∧Q v H'
def CR (CX:CXT) (outer:List Env) (P:Program) (w:World) (H:Hp) (s:Shared) (Q:VK) (E:XK) (r:Result) (s':Shared):Prop :=
 match r with
 | .ok (.ret u)=>CE outer P w H s Q u s'
 | .ok _=>False
 | .error e=>CX outer H s E e s'
structure FnOk (P:Program) (w:World) (K:W.Frag) (mg:Str→Option Value) (base:Heap) (CX:CXT) (k:Nat) (f:Addr) (fd:FuncData) (ps:List Str) (sp:Sp):Prop where
 len:∀ vs H Q E,sp vs H Q E→vs.length=ps.length
 run:∀ (A:Around) (outer:List Env) (s:Shared) (H:Hp) (args:Args) (us:List Value) (vs:List V) (Q:VK) (E:XK),Room k A→Env0 P w K mg base A outer s H→BindsTo s fd args (ps.zip us)→Vals vs us→sp vs H Q E →
  codeAny (model P w) A (.call (.ref f) args) (CR CX outer P w H s Q E) s
theorem Env0.make {P:Program}{w:World}{K:W.Frag}{mg:Str→Option Value}{base:Heap}{A:Around}{outer:List Env}{s:Shared}{H:Hp}(e:Env0 P w K mg base A outer s H) (C:Addr) (us:List Value) (kw:List (Str×Value)) :
 Env0 P w K mg base (A.under (.builtin "type.__call__" ⟨.ref C::us,kw⟩)) outer s H:=⟨by first | exact e.frames | (simpa [Around.under,Code.envs,Code.isFrame,pushEnvs] using e.frames),e.mod,e.bs,e.bsz,e.funs,e.frf,e.hok,e.bare⟩
section
variable {X:Cx}{pins:List (Addr×Obj)}{σ:St} {H:Hp}{s s':Shared}
theorem Inv.env0 (I:Inv X pins σ H s):Env0 X.prog X.w X.K X.mg X.base X.A X.stack s H :=
 ⟨I.ok.frames,I.ok.mod,I.bs,Nat.le_trans I.ok.bsz I.sz,I.stack,I.stkFree,I.hok,I.bare⟩
theorem Inv.after {Q:VK}{u:Value}(I:Inv X pins σ H s) (h:CE X.stack X.prog X.w H s Q u s'):EP X pins σ Q u s':=by
 obtain ⟨v,H',os,bare,un,hok,r,q⟩:=h
 obtain ⟨hh,g,d,t,os'⟩:=s'
 obtain rfl:os'=s.os:=os
 exact ⟨v,H',I.call (h':=hh) (g':=g) (d':=d) (t':=t) (ch:=[]) un hok bare (fun b z=>absurd z (by simp)),r,q⟩
end
def tCall (sp:Sp) (dvs:List V) (E:XK) (t:TA):TE:=fun σ H Q=>t σ H fun vs H1=>sp (vs++dvs) H1 Q E
def tMeth (C:Addr) (m:Str) (sp:Sp) (dvs:List V) (E:XK) (ta:TE) (t:TA):TE:=fun σ H Q=>ta σ H fun x H1=>∃ a dx fs,x=.ref a∧H1 a=some (.ins C dx fs)∧fs.lookup m=none ∧
 t σ H1 fun vs H2=>sp (x::(vs++dvs)) H2 Q E
def tMake (C:Addr) (sp:Sp) (dvs:List V) (E:XK) (t:TA):TE:=fun σ H Q=>t σ H fun vs H1=>∀ x dx,H1 x=none→H1 dx=none→dx≠x →
 sp (.ref x::(vs++dvs)) (upd (upd H1 dx (.own x)) x (.ins C dx [])) (fun v H2=>v=.non∧Q (.ref x) H2) E
def Binds (K:W.Frag) (fd:FuncData) (ps:List Str) (ds:List Value):Prop :=
 ∀ (s:Shared) (us:List Value),K.In s.heap→(us++ds).length=ps.length→BindsTo s fd ⟨us,[]⟩ (ps.zip (us++ds))
theorem Binds.all {K:W.Frag}{fd:FuncData}{ps:List Str}(h:∀ us:List Value,us.length=ps.length→bindArgs fd ⟨us,[]⟩=pure (ps.zip us)):Binds K fd ps []:=fun s us _ hl=>by
 rw [List.append_nil] at hl ⊢
 exact .of_eq (h us hl)
def Passes (CX:CXT) (X:Cx) (E:XK):Prop:=∀ (pins:List (Addr×Obj)) (σ:St) (H:Hp) (s:Shared) (e:Value) (s':Shared),Inv X pins σ H s→CX X.stack H s E e s'→X.xe e s'
section
variable {X:Cx}{CX:CXT}{k:Nat}{f C:Addr}{fd:FuncData}{ps:List Str}{sp:Sp}{dvs:List V}{ds:List Value}{E:XK}{x m:Str}{p pos apos:Pos}{e o:Expr}{es:List Expr}{ta:TE}{t:TA}
theorem b79 {pins:List (Addr×Obj)}{σ:St} {H:Hp}{s:Shared}{Q:VK}{us:List Value}{vs:List V}(F:FnOk X.prog X.w X.K X.mg X.base CX k f fd ps sp) (hr:Room k X.A) (hb:Binds X.K fd ps ds) (hd:Vals dvs ds) (hx:Passes CX X E)
 (I:Inv X pins σ H s) (r:Vals vs us) (h:sp (vs++dvs) H Q E):wpAny (model X.prog X.w) X.A (call (.ref f) us) (EP X pins σ Q) X.xe s:=by
 have r2:Vals (vs++dvs) (us++ds):=r.append hd
 have hl:(us++ds).length=ps.length:=by rw [← r2.length]; exact F.len _ _ _ _ h
 refine wpAny_call (codeAny_mono (F.run X.A X.stack s H ⟨us,[]⟩ (us++ds) (vs++dvs) Q E hr I.env0 (hb s us I.kIn hl) r2 h) fun r s' hq=>?_)
 cases r with
 | error e=>exact hx pins σ H s e s' I hq
 | ok fl =>
   cases fl with
   | ret u=>exact I.after hq
   | next=>exact False.elim hq
   | brk=>exact False.elim hq
   | cont=>exact False.elim hq
theorem a32 (F:FnOk X.prog X.w X.K X.mg X.base CX k f fd ps sp) (hr:Room k X.A) (hg:Gl X x) (hm:X.mg x=some (.ref f)) (hk:W.keepIn X.K (.ref f)=true) (hb:Binds X.K fd ps ds) (hd:Vals dvs ds) (hx:Passes CX X E)
 (ha:PA X (e::es) t) (hdb:(x == ("__debug__":Str))=false:=by decide) (he:starEach (e::es) X.env=(false,eval e X.env)::starEach es X.env:=by rfl) (hpl:(backTo pos (starEach es X.env)).any (·.1)=false:=by rfl) :
 PE X (.Call (.Name x p) (e::es) [] pos) (tCall sp dvs E t):=by
 intro pins s σ H Q I h
 refine wpAny_Call_Name_kw (aj3 I hg hm ?_ hdb)
 refine W.callWith_K (h₀:=X.base) I.ok.mod.kin hk (thn (ha pos pins s σ H _ I h) fun us s1 ⟨vs,H1,I1,r,q⟩=>⟨I1.kIn,?_⟩) he hpl
 exact b79 F hr hb hd hx I1 r q
theorem aj7 {pl:Sem Bool}(he:PE X o ta) (c:Cls X.K C) (hm:Meth X.K C m f) (F:FnOk X.prog X.w X.K X.mg X.base CX k f fd ps sp) (hr:Room k X.A) (hb:Binds X.K fd ps ds) (hd:Vals dvs ds) (hx:Passes CX X E) (ha:PA X (e::es) t)
 (hst:starEach (e::es) X.env=(false,eval e X.env)::starEach es X.env:=by rfl) (hpl:(backTo pos (starEach es X.env)).any (·.1)=false:=by rfl)
 (ht:eval (.Call (.Attribute o m apos) (e::es) [] pos) X.env=(do
  let ov←eval o X.env
  standAt apos.atName
  let (f,first)←holding [ov] (getMethod ov m pl)
  callWith pos f first (backTo pos (starEach (e::es) X.env)) (backToKw pos (keywordEach [] X.env))):=by rfl) :
 PE X (.Call (.Attribute o m apos) (e::es) [] pos) (tMeth C m sp dvs E ta t):=by
 intro pins s σ H Q I h
 refine W.methodCall_KW (pl:=pl) (thn (he pins s σ H _ I h) fun u s1 ⟨x,H1,I1,rx,a,dx,fs,ex,ea,l,q⟩=>?_) ht
 subst ex
 obtain rfl:u=Value.ref a:=rx
 refine am2 I1 ea c hm l ?_
 refine W.callWith_K (first:=[.ref a]) (h₀:=X.base) I.ok.mod.kin hm.kp (thn (ha pos pins s1 σ H1 _ I1 q) fun us s2 ⟨vs,H2,I2,r,q2⟩=>⟨I2.kIn,?_⟩) hst hpl
 exact b79 (us:=.ref a::us) (vs:=.ref a::vs) F hr hb hd hx I2 (.cons rfl r) q2
theorem ay2 {pl:Sem Bool}(he:PE X o ta) (c:Cls X.K C) (hm:Meth X.K C m f) (F:FnOk X.prog X.w X.K X.mg X.base CX k f fd ps sp) (hr:Room k X.A) (hb:Binds X.K fd ps ds) (hd:Vals dvs ds) (hx:Passes CX X E)
 (ht:eval (.Call (.Attribute o m apos) [] [] pos) X.env=(do
  let ov←eval o X.env
  standAt apos.atName
  let (f,first)←holding [ov] (getMethod ov m pl)
  callWith pos f first (backTo pos (starEach [] X.env)) (backToKw pos (keywordEach [] X.env))):=by rfl) :
 PE X (.Call (.Attribute o m apos) [] [] pos) (tMeth C m sp dvs E ta tNil):=by
 intro pins s σ H Q I h
 refine W.methodCall_KW (pl:=pl) (thn (he pins s σ H _ I h) fun u s1 ⟨x,H1,I1,rx,a,dx,fs,ex,ea,l,q⟩=>?_) ht
 subst ex
 obtain rfl:u=Value.ref a:=rx
 refine am2 I1 ea c hm l ?_
 exact W.callWith_K0 (first:=[.ref a]) I1.kIn hm.kp (b79 (us:=[.ref a]) (vs:=[.ref a]) F hr hb hd hx I1 (.cons rfl .nil) q)
structure Mk (K:W.Frag) (C f:Addr):Prop where
 makes:W.makesIn K C=true
 init:W.findIn K (.ref C) "__init__"=some (some (.ref f))
 fn:W.isFn K (.ref f)=true
 kp:W.keepIn K (.ref C)=true
theorem bf4 {pins:List (Addr×Obj)}{σ:St} {H:Hp}{s:Shared}{Q:VK}{us:List Value}{vs:List V}(M:Mk X.K C f) (F:FnOk X.prog X.w X.K X.mg X.base CX k f fd ps sp) (hr:Room (k+1) X.A) (hb:Binds X.K fd ps ds) (hd:Vals dvs ds)
 (hx:Passes CX X E) (I:Inv X pins σ H s) (r:Vals vs us)
 (h:∀ x dx,H x=none→H dx=none→dx≠x→sp (.ref x::(vs++dvs)) (upd (upd H dx (.own x)) x (.ins C dx [])) (fun v H2=>v=.non∧Q (.ref x) H2) E) :
 wpAny (model X.prog X.w) X.A (call (.ref C) us) (EP X pins σ Q) X.xe s:=by
 have hq:=h (s.heap.objs.size+1) s.heap.objs.size (I.hok.fresh (Nat.le_succ _)) (I.hok.fresh (Nat.le_refl _)) (Nat.ne_of_lt (Nat.lt_succ_self _))
 have I2:=Inv.made (C:=C) I
 have r2:Vals (V.ref (s.heap.objs.size+1)::(vs++dvs)) (Value.ref (s.heap.objs.size+1)::(us++ds)):=.cons rfl (r.append hd)
 have hl:(Value.ref (s.heap.objs.size+1)::us++ds).length=ps.length:=by
  have e:=r2.length
  rw [F.len _ _ _ _ hq] at e
  exact e.symm
 refine wpAny_call (bf3 (f:=f) I.kIn M.makes M.init (beq_iff_eq.mp M.fn) (codeAny_mono (F.run _ X.stack _ _ ⟨Value.ref (s.heap.objs.size+1)::us,[]⟩ (Value.ref (s.heap.objs.size+1)::(us++ds)) _ _ E (hr.make C us [])
  (I2.env0.make C us []) (hb _ (Value.ref (s.heap.objs.size+1)::us) I2.kIn hl) r2 hq) fun r s' hq'=>?_))
 cases r with
 | error e=>exact hx pins σ _ _ e s' I2 hq'
 | ok fl =>
   cases fl with
   | ret u =>
     obtain ⟨v,H',I3,rv,ev,q3⟩:=I2.after hq'
     subst ev
     exact ⟨rv,⟨V.ref (s.heap.objs.size+1),H',I3,rfl,q3⟩⟩
   | next=>exact False.elim hq'
   | brk=>exact False.elim hq'
   | cont=>exact False.elim hq'
theorem ao7 (M:Mk X.K C f) (F:FnOk X.prog X.w X.K X.mg X.base CX k f fd ps sp) (hr:Room (k+1) X.A) (hg:Gl X x) (hm:X.mg x=some (.ref C)) (hb:Binds X.K fd ps ds) (hd:Vals dvs ds) (hx:Passes CX X E)
 (ha:PA X (e::es) t) (hdb:(x == ("__debug__":Str))=false:=by decide) (he:starEach (e::es) X.env=(false,eval e X.env)::starEach es X.env:=by rfl) (hpl:(backTo pos (starEach es X.env)).any (·.1)=false:=by rfl) :
 PE X (.Call (.Name x p) (e::es) [] pos) (tMake C sp dvs E t):=by
 intro pins s σ H Q I h
 refine wpAny_Call_Name_kw (aj3 I hg hm ?_ hdb)
 refine W.callWith_K (h₀:=X.base) I.ok.mod.kin M.kp (thn (ha pos pins s σ H _ I h) fun us s1 ⟨vs,H1,I1,r,q⟩=>⟨I1.kIn,?_⟩) he hpl
 exact bf4 M F hr hb hd hx I1 r q
end
section
variable {X:Cx}{CX:CXT}{k:Nat}{f C:Addr}{fd:FuncData}{ps ks:List Str}{sp:Sp}{E:XK}{x m:Str}{p pos apos kpos:Pos}{e o:Expr}{es:List Expr}{kws:List Keyword}{te ta:TE}{t tk:TA}{nm:Option Str}
variable {g:List Value→List Value→List Value}{gV:List V→List V→List V}
end
structure FnScope (N P:List Str) (sc:Scope):Prop where
 kind:sc.kind=.function
 co:sc.isCoroutine=false
 gen:sc.isGenerator=false
 nd:N.Nodup
 pre:N.take P.length=P
 par:∀ x∈P,sc.names.lookup x=some .local∨sc.names.lookup x=some .cell
 nofree:∀ y∈sc.names,y.2≠.free
theorem ar0 {kindOf:Str→Option NameKind}{x:Str}:∀ {binds:List (Str×Value)}{m:Str→Option Value},(∀ v,(x,v)∉binds)→bindL kindOf binds m x=m x
 | [],_,_=>rfl
 | (n,v)::r,m,h=>by
   unfold bindL
   rw [ar0 fun w hw=>h w (List.mem_cons_of_mem _ hw)]
   split
   · have:x≠n:=by rintro rfl; exact h v List.mem_cons_self
     simp [this]
   · rfl
theorem ar1 {kindOf:Str→Option NameKind}{x:Str}:∀ {binds:List (Str×Value)}{m:Str→Option Value},(∀ v,(x,v)∉binds)→bindC kindOf binds m x=m x
 | [],_,_=>rfl
 | (n,v)::r,m,h=>by
   unfold bindC
   rw [ar1 fun w hw=>h w (List.mem_cons_of_mem _ hw)]
   split
   · rfl
   · have:x≠n:=by rintro rfl; exact h v List.mem_cons_self
     simp [this]
theorem ar2 {kindOf:Str→Option NameKind}{x:Str}{v:Value}:∀ {P:List Str}{vs:List Value}{i:Nat}{m:Str→Option Value},P.Nodup→P[i]?=some x→vs[i]?=some v→kindOf x=some .local →
 bindL kindOf (P.zip vs) m x=some v
 | [],_,_,_,_,h,_,_=>by simp at h
 | _::_,[],_,_,_,_,h,_=>by simp at h
 | p::P,w::vs,0,m,nd,h1,h2,hk=>by
   simp at h1 h2; subst h1; subst h2
   show bindL kindOf ((p,w)::P.zip vs) m p=_
   unfold bindL
   rw [ar0 fun v hv=>(List.nodup_cons.mp nd).1 (List.of_mem_zip hv).1,if_pos hk]
   simp
 | p::P,w::vs,i+1,m,nd,h1,h2,hk=>by
   show bindL kindOf ((p,w)::P.zip vs) m x=_
   unfold bindL
   exact ar2 (i:=i) (List.nodup_cons.mp nd).2 (by simpa using h1) (by simpa using h2) hk
theorem ar3 {kindOf:Str→Option NameKind}{x:Str}{v:Value}:∀ {P:List Str}{vs:List Value}{i:Nat}{m:Str→Option Value},P.Nodup→P[i]?=some x→vs[i]?=some v→kindOf x≠some .local →
 bindC kindOf (P.zip vs) m x=some v
 | [],_,_,_,_,h,_,_=>by simp at h
 | _::_,[],_,_,_,_,h,_=>by simp at h
 | p::P,w::vs,0,m,nd,h1,h2,hk=>by
   simp at h1 h2; subst h1; subst h2
   show bindC kindOf ((p,w)::P.zip vs) m p=_
   unfold bindC
   rw [ar1 fun v hv=>(List.nodup_cons.mp nd).1 (List.of_mem_zip hv).1,if_neg hk]
   simp
 | p::P,w::vs,i+1,m,nd,h1,h2,hk=>by
   show bindC kindOf ((p,w)::P.zip vs) m x=_
   unfold bindC
   exact ar3 (i:=i) (List.nodup_cons.mp nd).2 (by simpa using h1) (by simpa using h2) hk
def start (N:List Str) (vs:List V):St:=vs.map some++List.replicate (N.length - vs.length) none
def cxOf (CX:CXT) (P:Program) (w:World) (K:W.Frag) (mg:Str→Option Value) (base:Heap) (N:List Str) (qual:Str) (scope:Scope) (f:Addr) (cd:Value) (A:Around) (outer:List Env) (s:Shared) (H:Hp) (E:XK):Cx where
 prog:=P
 w:=w
 K:=K
 mg:=mg
 base:=base
 A:=A.deeper (envOfC qual scope s.heap.objs.size f cd)
 N:=N
 s₀:=s
 H₀:=H
 env:=envOfC qual scope s.heap.objs.size f cd
 outer:=outer
 stack:=envOfC qual scope s.heap.objs.size f cd::outer
 ex:=[]
 calm:=true
 fn:=fun _=>true
 pn:=[]
 xe:=fun e s'=>wpAny (model P w) (A.deeper (envOfC qual scope s.heap.objs.size f cd)) (leaving (envOfC qual scope s.heap.objs.size f cd) e) (fun _ s''=>CX outer H s E e s'') (fun e' s''=>CX outer H s E e' s'') s'
theorem ay3 {sc:Scope}{n:Nat}{x:Str}(h:sc.names.lookup x=some .cell):∃ c,(cellsFrom n sc.names []).lookup x=some c:=by
 have q:=W.cellsFrom_some sc.names n [] (.inl h)
 exact Option.isSome_iff_exists.mp q
theorem b80 {CX:CXT}{P:Program}{w:World}{K:W.Frag}{mg:Str→Option Value}{base:Heap}{N ps:List Str}{qual:Str}{scope:Scope}{f:Addr}{cd:Value}{A:Around}{outer:List Env}{s s1:Shared}{H:Hp}{E:XK}{us:List Value}{vs:List V}
 (S:FnScope N ps scope) (hd:A.handled=none) (e0:Env0 P w K mg base A outer s H) (hl:vs.length=ps.length) (r:Vals vs us)
 (x:InCallC s s.heap.objs.size (bindL (envOfC qual scope s.heap.objs.size f cd).kindOf (ps.zip us) fun _=>none) (cellsFrom (s.heap.objs.size+1) scope.names []) (bindC (envOfC qual scope s.heap.objs.size f cd).kindOf (ps.zip us) fun _=>none) s1) :
 Inv (cxOf CX P w K mg base N qual scope f cd A outer s H E) [] (start N vs) H s1:=by
 have hpl:ps.length≤N.length:=by have:=congrArg List.length S.pre; rw [List.length_take] at this; omega
 obtain ⟨h1,tk,rfl,hk⟩:=x.done
 have noA:∀ b:Addr,b∉(cxOf CX P w K mg base N qual scope f cd A outer s H E).ex:=fun b z=>absurd (show b∈([]:List Addr) from z) (by simp)
 refine ⟨⟨e0.mod,S.kind,rfl,rfl,Nat.le_refl _,fun y z c h1 h2=>?_,fun y hy=>?_,fun y c _ h=>?_,fun _=>hd,Around.frames_deeper e0.frames,.inr ⟨rfl,rfl⟩,fun b z=>absurd z (noA b),e0.bs,e0.bsz,fun b _ _=>noA b,fun b z=>absurd z (noA b),e0.funs,e0.frf⟩,
  rfl,e0.bare,Un.kept hk,⟨_,x.toInCall.ns,fun i y v h1 h2 h3=>?_⟩,fun y c h=>⟨_,x.cell y c h⟩,e0.hok.fresh (Nat.le_refl _),fun y c h=>?_,fun p hp=>absurd (show p∈([]:List (Addr×Obj)) from hp) (by simp),e0.hok.kept hk,?_⟩
 · exact name_of_addr x.apart (PySem.mem_of_lookup h1) (PySem.mem_of_lookup h2)
 · have hy:scope.names.lookup y=some .cell∨scope.names.lookup y=some .free:=hy
   rcases hy with hy | hy
   · exact ay3 hy
   · exact absurd rfl (S.nofree _ (PySem.mem_of_lookup hy))
 · exact Nat.le_of_lt (x.above y c (PySem.mem_of_lookup h))
 · have hi:i<vs.length:=by
    unfold start at h2
    by_cases hi:i<vs.length
    · exact hi
    · rw [List.getElem?_append_right (by simpa using hi)] at h2
      rw [List.getElem?_replicate] at h2
      split at h2 <;> cases h2
   have ha:vs[i]?=some v:=by
    unfold start at h2
    rw [List.getElem?_append_left (by simpa using hi),gM] at h2
    cases e:vs[i]? with
    | none=>rw [e] at h2; cases h2
    | some a=>rw [e] at h2; cases h2; rfl
   obtain ⟨u,hu,rv⟩:=r.get ha
   have hp:ps[i]?=some y:=by
    rw [← S.pre,List.getElem?_take_of_lt (by omega)]; exact h1
   have ndP:ps.Nodup:=by rw [← S.pre]; exact S.nd.sublist (List.take_sublist _ _)
   refine ⟨u,rv,?_⟩
   rcases S.par y (gI hp) with k | k
   · exact .inl ⟨k,ar2 ndP hp hu k⟩
   · obtain ⟨c,e⟩:=ay3 (n:=s.heap.objs.size+1) k
     refine .inr ⟨.inl k,c,e,?_⟩
     have q:=x.cell y c e
     rw [ar3 ndP hp hu (by show scope.names.lookup y≠_; rw [k]; decide)] at q
     exact q
 · exact e0.hok.fresh (Nat.le_of_lt (x.above y c (PySem.mem_of_lookup h)))
 · unfold start
   show _=N.length
   rw [List.length_append,gL,List.length_replicate]
   omega
theorem bw3 {CX:CXT}{P:Program}{w:World}{K:W.Frag}{mg:Str→Option Value}{base:Heap}{k:Nat}{f:Addr}{name qual:Str}{params:Arguments}{body:List Stmt}{scope:Scope}{dV kV doc pm cdv ct oc:Value}{an od:Option Addr}
 {osl:Array (Option Value)}{N ps:List Str}{sp:Sp}(lk:K.lookup f=some ⟨oc,od,.func (W.fnOf name qual params body scope dV kV doc pm an cdv ct),osl⟩) (hcd:W.codeIn K cdv qual=true) (S:FnScope N ps scope)
 (len:∀ vs H Q E,sp vs H Q E→vs.length=ps.length)
 (hbody:∀ (A:Around) (outer:List Env) (s:Shared) (H:Hp) (vs:List V) (Q:VK) (E:XK),Room k (A.deeper (envOfC qual scope s.heap.objs.size f cdv))→sp vs H Q E →
  ∃ t,PSs (cxOf CX P w K mg base N qual scope f cdv A outer s H E) body t∧t { nx:=fun _ H'=>Q .non H',rt:=Q } (start N vs) H) :
 FnOk P w K mg base CX (k+1) f (W.fnOf name qual params body scope dV kV doc pm an cdv ct) ps sp:=by
 refine ⟨len,fun A outer s H args us vs Q E hr e0 hb r hsp=>?_⟩
 have hl:=len _ _ _ _ hsp
 have KX:K.In s.heap:=e0.mod.kin.keeps fun b o e=>(e0.bs b o e).1
 have lim:s.heap.NoLimit:=e0.mod.nolimit.keeps fun b o e=>(e0.bs b o e).1
 have hkind:∀ y∈ps.zip us,scope.names.lookup y.1=some .local∨(scope.names.lookup y.1=some .cell∧((cellsFrom (s.heap.objs.size+1) scope.names []).lookup y.1).isSome=true):=fun ⟨n,v⟩ hy=>by
  rcases S.par n (List.of_mem_zip hy).1 with q | q
  · exact .inl q
  · exact .inr ⟨q,W.cellsFrom_some _ _ _ (.inl q)⟩
 refine codeAny_call_function hr.depth (KX _ _ lk) rfl S.co S.gen rfl (W.codeRec_of KX hcd) (hb _ _ _ _ ?_)
 refine wpAny_newFunctionEnv_cells S.kind hkind fun env he s1 x=>?_
 subst he
 refine ⟨lim.keeps x.toInCall.keep,codeAny_func ?_⟩
 obtain ⟨t,ht,hq⟩:=hbody A outer s H vs Q E (hr.deeper _) hsp
 have I:Inv (cxOf CX P w K mg base N qual scope f cdv A outer s H E) [] (start N vs) H s1:=b80 S hr.hd e0 hl r x
 refine wpAny_mono (ht [] s1 (start N vs) H _ I hq) (fun fl s' hs=>?_) fun e s' hs=>hs
 have fin:∀ {σ':St} {H':Hp}{v:V}{u:Value},Inv (cxOf CX P w K mg base N qual scope f cdv A outer s H E) [] σ' H' s'→RelV v u→Q v H'→CE outer P w H s Q u s' :=
  fun {σ' H' v u} J rv q=>⟨v,H',J.os,J.bare,J.base,J.hok,rv,q⟩
 cases fl with
 | ret u =>
   obtain ⟨v,σ',H',J,rv,q⟩:=hs
   exact fin J rv q
 | next =>
   obtain ⟨σ',H',J,q⟩:=hs
   exact fin (v:=V.non) (u:=Value.none) J rfl q
 | brk =>
   obtain ⟨_,_,_,q⟩:=hs
   exact False.elim q
 | cont =>
   obtain ⟨_,_,_,q⟩:=hs
   exact False.elim q
section
variable {X:Cx}{x:Str}{p pos:Pos}{e:Expr}{es:List Expr}{t:TA}{id T:String}{r:List V→Hp→VK→Prop}
def tCB (r:List V→Hp→VK→Prop) (t:TA):TE:=fun σ H Q=>t σ H fun vs H1=>r vs H1 Q
theorem a45 (hc:CallR X (.builtin id) r) (hg:Gl X x) (hm:X.mg x=none) (hv:bootBuiltins x=some (.builtin id)) (ha:PA X (e::es) t) (hn:x≠"__name__":=by decide) (hdb:(x == ("__debug__":Str))=false:=by decide)
 (he:starEach (e::es) X.env=(false,eval e X.env)::starEach es X.env:=by rfl) (hpl:(backTo pos (starEach es X.env)).any (·.1)=false:=by rfl):PE X (.Call (.Name x p) (e::es) [] pos) (tCB r t):=by
 intro pins s σ H Q I h
 refine wpAny_Call_Name_kw (ae7 I hg hm hv ?_ hn hdb)
 exact PyProof.Rows.callWith_builtin1 (thn (ha pos pins s σ H _ I h) fun us s1 ⟨vs,H1,I1,r1,q1⟩=>hc pins s1 σ H1 vs us Q I1 r1 q1) he hpl
theorem a37 (hc:CallR X (.type T) r) (hg:Gl X x) (hm:X.mg x=none) (hv:bootBuiltins x=some (.type T)) (ha:PA X (e::es) t) (hn:x≠"__name__":=by decide) (hdb:(x == ("__debug__":Str))=false:=by decide)
 (he:starEach (e::es) X.env=(false,eval e X.env)::starEach es X.env:=by rfl) (hpl:(backTo pos (starEach es X.env)).any (·.1)=false:=by rfl):PE X (.Call (.Name x p) (e::es) [] pos) (tCB r t):=by
 intro pins s σ H Q I h
 refine wpAny_Call_Name_kw (ae7 I hg hm hv ?_ hn hdb)
 exact PyProof.Rows.callWith_type1 (thn (ha pos pins s σ H _ I h) fun us s1 ⟨vs,H1,I1,r1,q1⟩=>hc pins s1 σ H1 vs us Q I1 r1 q1) he hpl
end
end L2
namespace HT
open PySem PyProof.Rows
section
open PySem.SeqAt
open PySem.AutoSeq1 (wpAny_loadPart')
open PySem.MeetsSeq PySem.MeetsSeq2 PySem.MeetsSeq3
end
section
variable {prog:Program}{w:World}{A:Around}{E:Value→Shared→Prop}{s:Shared}
def sIx (n d:Nat):Option Int→Nat
 | none=>d
 | some v=>if v<0 then (v+(n:Int)).toNat else min v.toNat n
theorem sIx_none (n d:Nat):sIx n d none=d:=rfl
theorem sIx_nat (n d k:Nat):sIx n d (some (k:Int))=min k n:=by
 show (if (k:Int)<0 then ((k:Int)+(n:Int)).toNat else min (k:Int).toNat n)=min k n
 rw [if_neg (by omega),Int.toNat_natCast]
theorem bw4 (n d:Nat) (hd:d≤n) (o:Option Int):sIx n d o≤n:=by
 cases o with
 | none=>exact hd
 | some v =>
   show (if v<0 then (v+(n:Int)).toNat else min v.toNat n)≤n
   by_cases hv:v<0
   · rw [if_pos hv]; omega
   · rw [if_neg hv]; exact Nat.min_le_right _ _
theorem b81 (v:Int) (n d:Nat):(if v<0 then max (v+(n:Int)) 0 else min v (n:Int))=((sIx n d (some v):Nat):Int):=by
 show (if v<0 then max (v+(n:Int)) 0 else min v (n:Int))=(((if v<0 then (v+(n:Int)).toNat else min v.toNat n):Nat):Int)
 by_cases hv:v<0
 · simp only [if_pos hv]; omega
 · simp only [if_neg hv]; omega
theorem b45 (lo hi:Option Int) (n:Nat):Builtin.Slice.sliceAdjust lo hi 1 (n:Int)=(((sIx n 0 lo:Nat):Int),((sIx n n hi:Nat):Int)):=by
 have h1:¬ ((1:Int)<0):=by omega
 unfold Builtin.Slice.sliceAdjust
 simp only [h1,if_false]
 refine Prod.ext ?_ ?_
 · cases lo with
   | none=>rfl
   | some v=>exact b81 v n 0
 · cases hi with
   | none=>rfl
   | some v=>exact b81 v n n
theorem b46 (i j:Nat):Builtin.Slice.slicePlaces (i:Int) (j:Int) 1=j - i:=by
 unfold Builtin.Slice.slicePlaces
 have h1:(1:Int) > 0:=by omega
 simp only [h1,if_true,Int.ediv_one]
 split <;> omega
theorem am3 {v:Value}{o:Option Int}{Q:Option Int→Shared→Prop}(p:IsPart v o) (h:Q o s):wpAny (model prog w) A (Builtin.Slice.slicePartIndex v) Q E s:=by
 cases p with
 | none=>exact slicePart_none h
 | int i t=>exact slicePart_int h
theorem sliceApplied_gen {sl:Addr}{vl vu:Value}{lo hi:Option Int}{n:Nat}{Q:Int×Int×Nat→Shared→Prop}(hs:s.heap.IsSliceOf sl vl vu .none) (pl:IsPart vl lo) (pu:IsPart vu hi)
 (h:Q (((sIx n 0 lo:Nat):Int),1,sIx n n hi - sIx n 0 lo) s):wpAny (model prog w) A (Builtin.Slice.sliceApplied (.ref sl) (pure (n:Int))) Q E s:=by
 obtain ⟨os,hos,hcs,hds⟩:=id hs
 unfold Builtin.Slice.sliceApplied Builtin.Slice.sliceFields
 refine wpAny_bind (wpAny_bind (wpAny_field hos hds (x:=vl) rfl (wpAny_bind (wpAny_field hos hds (x:=vu) rfl (wpAny_bind (wpAny_field hos hds (x:=.none) rfl (wpAny_pure ?_)))))))
 refine wpAny_bind (slicePart_none ?_)
 show wpAny _ _ (if ((1:Int) == 0)=true then _ else _) _ _ s
 rw [if_neg (by decide)]
 refine wpAny_bind (am3 pl (wpAny_bind (am3 pu (wpAny_bind (wpAny_pure ?_)))))
 show wpAny _ _ (match Builtin.Slice.sliceAdjust lo hi 1 (n:Int) with | (lo,hi)=>pure (lo,(1:Int),Builtin.Slice.slicePlaces lo hi 1)) _ _ s
 rw [b45 lo hi n]
 show wpAny _ _ (pure (((sIx n 0 lo:Nat):Int),(1:Int),Builtin.Slice.slicePlaces ((sIx n 0 lo:Nat):Int) ((sIx n n hi:Nat):Int) 1)) _ _ s
 rw [b46]
 exact wpAny_pure h
theorem bf5 (xs:Array Value) (i k:Nat):((List.range k).filterMap fun (m:Nat)=>xs[((i:Int)+(m:Int)*1).toNat]?).toArray=((xs.toList.drop i).take k).toArray:=by
 have e:(fun (m:Nat)=>xs[((i:Int)+(m:Int)*1).toNat]?)=fun m=>xs[i+m]?:=by
  funext m
  have:((i:Int)+(m:Int)*1).toNat=i+m:=by omega
  rw [this]
 rw [e]
 have:=pick_run xs i k
 rw [List.filterMap_map] at this
 have e2:((fun x=>xs[x]?)∘fun x=>i+x)=fun m=>xs[i+m]?:=rfl
 rw [e2] at this
 rw [this]
theorem getItem_tuple_cut {t sl:Addr}{items:Array Value}{vl vu:Value}{lo hi:Option Int}{Q:Value→Shared→Prop}(ht:IsTup s.heap t items) (hs:s.heap.IsSliceOf sl vl vu .none) (pl:IsPart vl lo) (pu:IsPart vu hi)
 (hw:¬ (sIx items.size 0 lo=0∧sIx items.size items.size hi=items.size))
 (h:Q (.ref s.heap.objs.size) { s with heap:=s.heap.push { cls:=.type "tuple",data:=.seq ((items.toList.drop (sIx items.size 0 lo)).take (sIx items.size items.size hi - sIx items.size 0 lo)).toArray } })
 (hsz:items.size≤sizeLine):wpAny (model prog w) A (getItem (.ref t) (.ref sl)) Q E s:=by
 have htake:sizeOk (.seq ((items.toList.drop (sIx items.size 0 lo)).take (sIx items.size items.size hi - sIx items.size 0 lo)).toArray):=by
  show ((items.toList.drop (sIx items.size 0 lo)).take (sIx items.size items.size hi - sIx items.size 0 lo)).toArray.size≤sizeLine
  rw [List.size_toArray,List.length_take,List.length_drop,Array.length_toList]
  omega
 have hj:sIx items.size items.size hi≤items.size:=bw4 _ _ (Nat.le_refl _) hi
 obtain ⟨os,hos,hcs,hds⟩:=id hs
 have hTs:s.TypeIs (.ref sl) "slice":=⟨os,hos,hcs⟩
 unfold getItem
 try with_reducible refine wpAny_holding ?_
 first | refine wpAny_bind (wpAny_pure ?_) | skip
 refine wpAny_bind (wpAny_sequenceKey ht.typeIs (by decide) ?_)
 refine wpAny_bind (wpAny_callSpecial?_slot (name:=Str.ofString "__getitem__") ht.typeIs PyProof.Rows.slot_tuple_getitem
  (wpAny_call_entry PyProof.Rows.slot_tuple_getitem ht.typeIs entry_tuple_getitem ?_ (args_tuple_getitem _ _)))
 show wpAny _ _ (Builtin.Tuple.tupleItemsOf (.ref t) >>= _) _ _ s
 refine wpAny_bind (tupleItemsOf_ ht ?_)
 refine wpAny_bind (wpAny_typeOf hTs ?_)
 rw [if_pos (by decide)]
 refine wpAny_bind (sliceApplied_gen hs pl pu ?_)
 have hno:¬ ((((sIx items.size 0 lo:Nat):Int) == 0 && (1:Int) == 1 && (sIx items.size items.size hi - sIx items.size 0 lo) == items.size)=true):=by
  intro q
  rw [Bool.and_eq_true,Bool.and_eq_true] at q
  have q1:((sIx items.size 0 lo:Nat):Int)=0:=eq_of_beq q.1.1
  have q2:sIx items.size items.size hi - sIx items.size 0 lo=items.size:=eq_of_beq q.2
  exact hw ⟨by omega,by omega⟩
 show wpAny _ _ (if (((sIx items.size 0 lo:Nat):Int) == 0 && (1:Int) == 1 && (sIx items.size items.size hi - sIx items.size 0 lo) == items.size)=true then _ else _) _ _ s
 rw [if_neg hno,bf5]
 first
  | exact wpAny_bind (m:=Builtin.Tuple.tupleExact _) (wpAny_newObj_type (wpAny_pure ⟨_,rfl,wpAny_pure h⟩) htake)
  | exact wpAny_bind (m:=Builtin.Tuple.tupleExact _) (wpAny_newObj_type (wpAny_bind (wpAny_pure (wpAny_pure ⟨_,rfl,wpAny_pure h⟩))) htake)
  | exact wpAny_bind (wpAny_bind (m:=Builtin.Tuple.tupleExact _) (wpAny_newObj_type (wpAny_pure (wpAny_pure ⟨_,rfl,wpAny_pure h⟩)) htake))
  | exact wpAny_bind (wpAny_bind (m:=Builtin.Tuple.tupleExact _) (wpAny_newObj_type (wpAny_pure ⟨_,rfl,wpAny_pure h⟩) htake))
end
end HT
namespace L2
open PySem PySem.Spec PyProof.Rows
abbrev TO:=St→Hp→(Option Int→Hp→Prop)→Prop
def PO (X:Cx) (e:Option Expr) (t:TO):Prop :=
 ∀ (pins:List (Addr×Obj)) (s:Shared) (σ:St) (H:Hp) (Q:Option Int→Hp→Prop),Inv X pins σ H s→t σ H Q →
  wpAny (model X.prog X.w) X.A (evalPart e X.env) (fun u s'=>∃ o H',Inv X pins σ H' s'∧IsPart u o∧Q o H') X.xe s
def tNoPart:TO:=fun _ H Q=>Q none H
def tPart (t:TE):TO:=fun σ H Q=>t σ H fun x H1=>∃ i,x=.int i∧Q (some i) H1
theorem b47 {ns:List Int}:∀ {us:List Value},Vals (ns.map V.int) us→IntsAre us ns:=by
 induction ns with
 | nil=>intro us r; rw [List.map_nil] at r; cases r; exact .nil
 | cons n ns ih =>
   intro us r
   rw [List.map_cons] at r
   cases r with
   | cons r1 r2 =>
     obtain ⟨t,e⟩:=r1
     subst e
     exact .cons n t (ih r2)
section
variable {X:Cx}{e:Expr}{te:TE}{lo hi:Option Expr}{tl th:TO}{pos p2:Pos}
theorem ae1:PO X none tNoPart:=by
 intro pins s σ H Q I h
 rw [evalPart_none]
 exact wpAny_pure ⟨none,H,I,.none,h⟩
theorem ae2 (h:PE X e te):PO X (some e) (tPart te):=by
 intro pins s σ H Q I hw
 rw [evalPart_some]
 refine thn (h pins s σ H _ I hw) fun u s1 ⟨x,H1,I1,r1,q1⟩=>?_
 obtain ⟨i,rfl,q⟩:=q1
 obtain ⟨t,rfl⟩:=r1
 exact ⟨some i,H1,I1,.int i t,q⟩
def SlR (X:Cx) (r:V→Option Int→Option Int→Hp→VK→Prop):Prop :=
 ∀ (pins:List (Addr×Obj)) (s:Shared) (σ:St) (H:Hp) (x:V) (v vl vu:Value) (lo hi:Option Int) (sl:Addr) (Q:VK),Inv X pins σ H s→RelV x v→s.heap.IsSliceOf sl vl vu .none→IsPart vl lo→IsPart vu hi→r x lo hi H Q →
  ∃ T id,typeLookup (.type T) "__getitem__"=pure (some (.builtin id))∧s.TypeIs v T∧wpAny (model X.prog X.w) X.A (getItem v (.ref sl)) (EP X pins σ Q) X.xe s
def tSl (r:V→Option Int→Option Int→Hp→VK→Prop) (te:TE) (tl th:TO):TE:=fun σ H Q=>te σ H fun x H1=>tl σ H1 fun l H2=>th σ H2 fun u H3=>r x l u H3 Q
theorem ab5 {r:V→Option Int→Option Int→Hp→VK→Prop}(hr:SlR X r) (he:PE X e te) (hl:PO X lo tl) (hu:PO X hi th):PE X (.Subscript e (.Slice lo hi none p2) pos) (tSl r te tl th):=by
 intro pins s σ H Q I h
 refine Subscript_ (thn (he pins s σ H _ I h) fun v s1 ⟨x,H1,I1,r1,q1⟩=>?_)
 refine wpAny_Slice (thn (hl pins s1 σ H1 _ I1 q1) fun vl s2 ⟨l,H2,I2,pl,q2⟩=>thn (hu pins s2 σ H2 _ I2 q2) fun vu s3 ⟨u,H3,I3,pu,q3⟩=>?_)
 rw [evalPart_none]
 refine wpAny_pure ?_
 have I4:Inv X pins σ H3 { s3 with heap:=s3.heap.push { cls:=.type "slice",data:=.fields #[vl,vu,.none] } }:=I3.kept (t':=s3.toks) fun b ob q=>gP _ q
 obtain ⟨T,id,hT,ht,hg⟩:=hr pins { s3 with heap:=s3.heap.push { cls:=.type "slice",data:=.fields #[vl,vu,.none] } } σ H3 x v vl vu l u s3.heap.objs.size Q I4 r1 (Heap.IsSliceOf.new ..) pl pu q3
 show wpAny (model X.prog X.w) X.A (subscriptTail e (.Slice lo hi none p2) v (.ref s3.heap.objs.size)) (EP X pins σ Q) X.xe { s3 with heap:=s3.heap.push { cls:=.type "slice",data:=.fields #[vl,vu,.none] } }
 exact tail_any (ops:=[.ref s3.heap.objs.size,v]) ht hT hg (by with_unfolding_all rfl)
def cutV (xs:List V) (lo hi:Option Int):List V:=(xs.drop (HT.sIx xs.length 0 lo)).take (HT.sIx xs.length xs.length hi - HT.sIx xs.length 0 lo)
theorem aj8 (xs:List V) (lo hi:Option Int):(cutV xs lo hi).length≤xs.length:=by
 unfold cutV
 rw [List.length_take,List.length_drop]
 omega
def rSlT (K:W.Frag):V→Option Int→Option Int→Hp→VK→Prop:=fun x lo hi H Q=>∃ a xs,x=.ref a∧SqT K H a xs ∧
 ¬ (HT.sIx xs.length 0 lo=0∧HT.sIx xs.length xs.length hi=xs.length)∧∀ p,H p=none→Q (.ref p) (upd H p (.tup (cutV xs lo hi)))
theorem bw5:SlR X (rSlT X.K):=by
 intro pins s σ H x v vl vu lo hi sl Q I rx hs pl pu h
 obtain ⟨a,xs,rfl,hx,hw,q⟩:=h
 cases rx
 obtain ⟨its,r,ht,hz⟩:=I.tuple hx
 have hlen:its.toArray.size=xs.length:=by rw [List.size_toArray]; exact r.length.symm
 refine ⟨"tuple",_,PyProof.Rows.slot_tuple_getitem.lookup,ht.typeIs,?_⟩
 refine HT.getItem_tuple_cut ht hs pl pu (by rw [hlen]; exact hw) ?_ (by rw [hlen]; exact hz)
 rw [hlen]
 refine ⟨.ref s.heap.objs.size,_,I.laid (t':=s.toks) (o:=.tup (cutV xs lo hi)) (fun b ob q=>gP _ q) (Nat.le_refl _) ?_,rfl,q _ (I.hok.fresh (Nat.le_refl _))⟩
 exact ⟨Nat.le_trans (aj8 xs lo hi) hz,_,(r.drop (HT.sIx xs.length 0 lo)).take (HT.sIx xs.length xs.length hi - HT.sIx xs.length 0 lo),IsTup.new _ _⟩
theorem Vals.nil_iff {xs:List V}{us:List Value}(r:Vals xs us):us=[]↔xs=[]:=by
 cases r with
 | nil=>simp
 | cons _ _=>simp
end
def ixN (n:Nat) (i:Int):Option Nat:=if 0≤i then (if i<n then some i.toNat else none) else if -(n:Int)≤i then some (i+n).toNat else none
def atI {α:Type}(xs:List α) (i:Int):Option α:=(ixN xs.length i).bind fun j=>xs[j]?
theorem b82 {n:Nat}{i:Int}{j:Nat}(h:ixN n i=some j):seqIndex? i n=some j∧j<n∧-(n:Int)≤i∧i<n:=by
 unfold ixN at h
 by_cases h0:0≤i
 · rw [if_pos h0] at h
   by_cases h1:i<n
   · rw [if_pos h1] at h
     have e:i.toNat=j:=Option.some.inj h
     exact ⟨by rw [seqIndex_of h0 h1,e],by omega,by omega,h1⟩
   · rw [if_neg h1] at h; cases h
 · rw [if_neg h0] at h
   by_cases h1:-(n:Int)≤i
   · rw [if_pos h1] at h
     have e:(i+n).toNat=j:=Option.some.inj h
     exact ⟨by rw [seqIndex_neg (by omega) h1,e],by omega,h1,by omega⟩
   · rw [if_neg h1] at h; cases h
theorem av6 {α:Type}{xs:List α}{i:Int}{v:α}(h:atI xs i=some v):∃ j,seqIndex? i xs.length=some j∧xs[j]?=some v∧j<xs.length∧-(xs.length:Int)≤i∧i<xs.length:=by
 unfold atI at h
 cases e:ixN xs.length i with
 | none=>rw [e] at h; cases h
 | some j =>
   rw [e] at h
   obtain ⟨h1,h2,h3,h4⟩:=b82 e
   exact ⟨j,h1,h,h2,h3,h4⟩
theorem a05 {α:Type}{xs:List α}{j:Nat}{v:α}(h:xs[j]?=some v):atI xs (j:Int)=some v:=by
 have hj:j<xs.length:=(gS h).1
 have e:ixN xs.length (j:Int)=some j:=by
  unfold ixN
  rw [if_pos (by omega),if_pos (by omega)]; simp
 unfold atI; rw [e]; exact h
def PlainIx (b:Expr):Prop:=∀ o i,subscripted b false o i=operate [o,i] (getItem o i)
def IxR (X:Cx) (r:R2):Prop :=
 ∀ (value slice:Expr) (pins:List (Addr×Obj)) (s:Shared) (σ:St) (H:Hp) (x y:V) (v u:Value) (Q:VK),Inv X pins σ H s→RelV x v→RelV y u→r x y H Q →
  subscripted slice false v u=operate [v,u] (getItem v u)→wpAny (model X.prog X.w) X.A (subscriptTail value slice v u) (EP X pins σ Q) X.xe s
def MtR (X:Cx) (id:String) (r:V→List V→Hp→VK→Prop):Prop :=
 ∀ (pins:List (Addr×Obj)) (s:Shared) (σ:St) (H:Hp) (x:V) (xs:List V) (v:Value) (us:List Value) (Q:VK),Inv X pins σ H s→RelV x v→Vals xs us→r x xs H Q →
  wpAny (model X.prog X.w) X.A (call (.builtin id) (v::us)) (EP X pins σ Q) X.xe s
section
variable {X:Cx}{a b:Expr}{ta tb:TE}{pos:Pos}
theorem IxR.or {r r':R2}(h:IxR X r) (h':IxR X r'):IxR X (fun x y H Q=>r x y H Q∨r' x y H Q):=by
 intro value slice pins s σ H x y v u Q I rx ry q hs
 rcases q with q | q
 · exact h value slice pins s σ H x y v u Q I rx ry q hs
 · exact h' value slice pins s σ H x y v u Q I rx ry q hs
theorem a40 {r:R2}(hr:IxR X r) (ha:PE X a ta) (hb:PE X b tb) (hs:PlainIx b):PE X (.Subscript a b pos) (tOp r ta tb):=by
 intro pins s σ H Q I h
 exact Subscript_ (binT ha hb I h fun v u s2 x y H2 I2 rx ry q=>hr a b pins s2 σ H2 x y v u Q I2 rx ry q (hs _ _))
def rIxL (K:W.Frag):R2:=fun x y H Q=>∃ p xs i v,x=.ref p∧y=.int i∧SqL K H p xs∧atI xs i=some v∧Q v H
def rIxT (K:W.Frag):R2:=fun x y H Q=>∃ p xs i v,x=.ref p∧y=.int i∧SqT K H p xs∧atI xs i=some v∧Q v H
def rIxS:R2:=fun x y H Q=>∃ z i c,x=.str z∧y=.int i∧z.length≤sizeLine∧atI z.cps.toList i=some c∧Q (.str ⟨#[c]⟩) H
theorem ix_list:IxR X (rIxL X.K):=by
 intro value slice pins s σ H x y v u Q I rx ry h hs
 obtain ⟨p,xs,i,z,rfl,rfl,hq,he,q⟩:=h
 cases rx
 obtain ⟨t,rfl⟩:=ry
 obtain ⟨its,r,pl,hz⟩:=I.list hq
 obtain ⟨j,h1,h2,h3,h4,h5⟩:=av6 he
 obtain ⟨w,ew,rw'⟩:=r.get h2
 have hl:=r.length
 have hn:=am1
 have fin:EP X pins σ Q w s:=⟨z,H,I,rw',q⟩
 by_cases h0:0≤i
 · have hj:i.toNat=j:=by
    rw [seqIndex_of h0 h5] at h1
    exact Option.some.inj h1
   exact item_listR pl.isList h0 (by omega) (by rw [hj]; simpa using ew) fin hs
 · have hj:(i+(its.toArray.size:Int)).toNat=j:=by
    rw [seqIndex_neg (by omega) h4] at h1
    rw [List.size_toArray,←hl]
    exact Option.some.inj h1
   exact subscriptTail_builtinR (x:=w) pl.isList.typeIs slot_list_getitem.lookup
    (wpAny_getItem_list_neg (Q:=fun r s'=>r=w∧EP X pins σ Q r s') pl.isList (by omega) (by rw [List.size_toArray] <;> omega) (by omega) (by rw [hj]; simpa using ew) ⟨rfl,fin⟩) hs
theorem ix_tup:IxR X (rIxT X.K):=by
 intro value slice pins s σ H x y v u Q I rx ry h hs
 obtain ⟨p,xs,i,z,rfl,rfl,hq,he,q⟩:=h
 cases rx
 obtain ⟨t,rfl⟩:=ry
 obtain ⟨its,r,pl,hz⟩:=I.tuple hq
 obtain ⟨j,h1,h2,h3,h4,h5⟩:=av6 he
 obtain ⟨w,ew,rw'⟩:=r.get h2
 have hl:=r.length
 have hn:=am1
 have fin:EP X pins σ Q w s:=⟨z,H,I,rw',q⟩
 exact subscriptTail_builtinR (x:=w) pl.typeIs slot_tuple_getitem.lookup
  (getItem_tuple (j:=j) (Q:=fun r s'=>r=w∧EP X pins σ Q r s') pl (by omega) (by omega) (by rw [List.size_toArray,←hl]; exact h1) (by simpa using ew) ⟨rfl,fin⟩) hs
theorem bw6:IxR X rIxS:=by
 intro value slice pins s σ H x y v u Q I rx ry h hs
 obtain ⟨z,i,c,rfl,rfl,hz,he,q⟩:=h
 obtain ⟨t,rfl⟩:=rx
 obtain ⟨t',rfl⟩:=ry
 obtain ⟨j,h1,h2,h3,h4,h5⟩:=av6 he
 have hl:z.cps.toList.length=z.length:=by simp [Str.length]
 rw [hl] at h1 h4 h5
 have hn:=am1
 exact tail_any (typeIs_str s z t) slot_str_getitem.lookup (getItem_str (c:=c) (by
  have e1:decide (i < -(2 ^ 63:Int))=false:=decide_eq_false (by omega)
  have e2:decide (i ≥ 2 ^ 63)=false:=decide_eq_false (by omega)
  rw [e1,e2,Bool.or_false]) (by rw [h1]; simpa using h2) ⟨.str ⟨#[c]⟩,H,I.tok _,⟨_,rfl⟩,q⟩) hs
def rIx (K:W.Frag):R2:=fun x y H Q=>rIxL K x y H Q∨rIxT K x y H Q∨rIxS x y H Q
theorem bw7:IxR X (rIx X.K):=ix_list.or (ix_tup.or bw6)
theorem b48 (its:List Value) (n j:Nat) (u:Value):Obj.mapSeq (·.setIfInBounds j u) { cls:=.type "list",data:=.seq its.toArray n }={ cls:=.type "list",data:=.seq (its.set j u).toArray n }:=by
 simp [Obj.mapSeq]
theorem Inv.lst {pins:List (Addr×Obj)}{σ:St} {H:Hp}{s:Shared}{p:Addr}{xs:List V}(I:Inv X pins σ H s) (h:H p=some (.lst xs)) :
 ∃ (its:List Value) (n:Nat),Vals xs its∧s.heap.get? p=some { cls:=.type "list",data:=.seq its.toArray n }∧xs.length≤sizeLine:=by
 obtain ⟨z,its,n,r,e⟩:=I.hok p _ h
 exact ⟨its,n,r,e,z⟩
theorem Inv.lstUpd {pins:List (Addr×Obj)}{σ:St} {H:Hp}{s:Shared}{p:Addr}{xs ys:List V}{its its':List Value}{n n':Nat}{f:Obj→Obj}(I:Inv X pins σ H s) (h:H p=some (.lst xs))
 (ho:s.heap.get? p=some { cls:=.type "list",data:=.seq its.toArray n }) (hf:f { cls:=.type "list",data:=.seq its.toArray n }={ cls:=.type "list",data:=.seq its'.toArray n' }) (r:Vals ys its') (hz:ys.length≤sizeLine) (t:Nat) :
 Inv X pins σ (upd H p (.lst ys)) { s with heap:=s.heap.update p f,toks:=t }:=by
 have e:(s.heap.update p f).get? p=some { cls:=.type "list",data:=.seq its'.toArray n' }:=by
  rw [Heap.get?_update_self f ho (by rw [hf] <;> rfl),hf]
 refine I.write (x:=p) (e:=p) (by rw [h]; trivial) (.inl rfl) (fun b u hb q=>(Heap.get?_update_other _ _ (Ne.symm hb)).trans q) ⟨_,e⟩ ?_
 exact ⟨hz,its',n',r,e⟩
def rSetL:V→V→V→Hp→(Hp→Prop)→Prop:=fun o i v H Q=>∃ p xs k j,o=.ref p∧i=.int k∧H p=some (.lst xs)∧ixN xs.length k=some j∧Q (upd H p (.lst (xs.set j v)))
theorem ae9:PSet X rSetL:=by
 intro pins s σ H o i v ov iv u Q I ro ri rv h
 obtain ⟨p,xs,k,j,rfl,rfl,hp,hj,q⟩:=h
 cases ro
 obtain ⟨t,rfl⟩:=ri
 obtain ⟨its,n,r,ho,hz⟩:=I.lst hp
 obtain ⟨h1,h2,h3,h4⟩:=b82 hj
 have hl:=r.length
 have hn:=am1
 have I':Inv X pins σ (upd H p (.lst (xs.set j v))) { s with heap:=s.heap.update p (Obj.mapSeq (·.setIfInBounds j u)) } :=
  I.lstUpd hp ho (b48 its n j u) (r.set rv j) (by rw [List.length_set]; exact hz) s.toks
 by_cases h0:0≤k
 · have hk:k.toNat=j:=by
    rw [seqIndex_of h0 h4] at h1
    exact Option.some.inj h1
   exact W.ki_setAt ho h0 (by omega) (by rw [List.size_toArray,←hl]; exact h4) (by rw [hk]; exact ⟨_,I',q⟩)
 · have hk:(k+(its.toArray.size:Int)).toNat=j:=by
    rw [seqIndex_neg (by omega) h3] at h1
    rw [List.size_toArray,←hl]
    exact Option.some.inj h1
   exact W.ki_setBack ho (by omega) (by rw [List.size_toArray,←hl]; exact h3) (by omega) (by rw [hk]; exact ⟨_,I',q⟩)
theorem ar4 (lo hi:Option Int) (n:Nat):(sliceBounds lo hi none n).1=((HT.sIx n 0 lo:Nat):Int)∧(sliceBounds lo hi none n).2.1=((HT.sIx n n hi:Nat):Int)∧(sliceBounds lo hi none n).2.2=1:=by
 refine ⟨?_,?_,rfl⟩
 · cases lo with
   | none=>simp [sliceBounds,HT.sIx]
   | some i =>
     simp only [sliceBounds,HT.sIx,Option.getD_none,show (1:Int) > 0 by decide,if_true]
     by_cases h:i<0
     · simp only [h,if_true] <;> omega
     · simp only [h,if_false] <;> omega
 · cases hi with
   | none=>simp [sliceBounds,HT.sIx]
   | some i =>
     simp only [sliceBounds,HT.sIx,Option.getD_none,show (1:Int) > 0 by decide,if_true]
     by_cases h:i<0
     · simp only [h,if_true] <;> omega
     · simp only [h,if_false] <;> omega
theorem ao8 (its:List Value) (lo hi:Option Int):slicePick its.toArray lo hi none=((its.drop (HT.sIx its.length 0 lo)).take (HT.sIx its.length its.length hi - HT.sIx its.length 0 lo)).toArray:=by
 obtain ⟨h1,h2,h3⟩:=ar4 lo hi its.toArray.size
 unfold slicePick
 rw [h1,h2,h3]
 simp only [sliceRange_one,pick_run,List.size_toArray] <;> rfl
def rSlL (K:W.Frag):V→Option Int→Option Int→Hp→VK→Prop:=fun x lo hi H Q=>∃ a xs,x=.ref a∧SqL K H a xs∧∀ p,H p=none→Q (.ref p) (upd H p (.lst (cutV xs lo hi)))
theorem bo5:SlR X (rSlL X.K):=by
 intro pins s σ H x v vl vu lo hi sl Q I rx hs pl pu h
 obtain ⟨a,xs,rfl,hx,q⟩:=h
 cases rx
 obtain ⟨its,r,ht,hz⟩:=I.list hx
 have hlen:=r.length
 refine ⟨"list",_,slot_list_getitem.lookup,ht.isList.typeIs,?_⟩
 refine wpAny_getItem_list_slice ht.isList hs pl pu .none (by simp) ?_ (by rw [List.size_toArray] <;> omega)
 rw [ao8,←hlen]
 refine ⟨.ref s.heap.objs.size,_,I.laid (t':=s.toks) (o:=.lst (cutV xs lo hi)) (fun b ob q=>gP _ q) (Nat.le_refl _) ?_,rfl,q _ (I.hok.fresh (Nat.le_refl _))⟩
 exact ⟨Nat.le_trans (aj8 xs lo hi) hz,_,0,(r.drop (HT.sIx xs.length 0 lo)).take (HT.sIx xs.length xs.length hi - HT.sIx xs.length 0 lo),Heap.get?_push_size _ rfl⟩
theorem ar5:CallR X (.type "list") (fun xs H Q=>∃ p ys,xs=[.ref p]∧(SqL X.K H p ys∨SqT X.K H p ys)∧∀ l,H l=none→Q (.ref l) (upd H l (.lst ys))):=by
 intro pins s σ H xs us Q I r h
 obtain ⟨p,ys,rfl,hq,q⟩:=h
 obtain ⟨u,rfl,rx⟩:=b40 r
 cases rx
 have fin:∀ (its:List Value),Vals ys its→ys.length≤sizeLine→∀ (h':Heap) (c':Nat),(∀ b o',s.heap.get? b=some o'→h'.get? b=some o') →
  h'.get? s.heap.objs.size=some { cls:=.type "list",dict:=none,data:=.seq its.toArray c',slots:=#[] }→EP X pins σ Q (.ref s.heap.objs.size) { s with heap:=h' }:=fun its r' hz h' c' kp e =>
  ⟨.ref s.heap.objs.size,_,I.laid (t':=s.toks) kp (Nat.le_refl _) (show ObjOk X.prog X.w _ h' _ (.lst ys) from ⟨hz,its,c',r',e⟩),rfl,q _ (I.hok.fresh (Nat.le_refl _))⟩
 rcases hq with hq | hq
 · obtain ⟨its,r',pl,hz⟩:=I.list hq
   have hlen:=r'.length
   obtain ⟨o,ho,hc,n,hd⟩:=pl.isList
   exact call_list_seq p (.inl rfl) ho hc hd (fun h' c' kp e=>fin its r' hz h' c' kp e) (by simp only [List.size_toArray] <;> omega)
 · obtain ⟨its,r',pl,hz⟩:=I.tuple hq
   have hlen:=r'.length
   obtain ⟨o,ho,hc,n,hd⟩:=pl
   exact call_list_seq p (.inr rfl) ho hc hd (fun h' c' kp e=>fin its r' hz h' c' kp e) (by simp only [List.size_toArray] <;> omega)
theorem ao9:CallR X (.type "tuple") (fun xs H Q=>∃ p ys,xs=[.ref p]∧((SqL X.K H p ys∧∀ l,H l=none→Q (.ref l) (upd H l (.tup ys)))∨(SqT X.K H p ys∧Q (.ref p) H))):=by
 intro pins s σ H xs us Q I r h
 obtain ⟨p,ys,rfl,h⟩:=h
 obtain ⟨u,rfl,rx⟩:=b40 r
 cases rx
 rcases h with ⟨hq,q⟩ | ⟨hq,q⟩
 · obtain ⟨its,r',pl,hz⟩:=I.list hq
   have hlen:=r'.length
   refine call_tuple_list pl.isList (fun h' kp=>?_) (by simp only [List.size_toArray] <;> omega)
   have I1:Inv X pins σ H { s with heap:=h' }:=I.kept (t':=s.toks) kp
   have I2:Inv X pins σ (upd H h'.objs.size (.tup ys)) { s with heap:=h'.push { cls:=.type "tuple",data:=.seq its.toArray } } :=
    I1.laid (t':=s.toks) (fun b o e=>gP _ e) (Nat.le_refl _) (show ObjOk X.prog X.w _ _ _ (.tup ys) from ⟨hz,its,r',IsTup.new _ _⟩)
   exact ⟨.ref h'.objs.size,_,I2,rfl,q _ (I1.hok.fresh (Nat.le_refl _))⟩
 · obtain ⟨its,r',pl,hz⟩:=I.tuple hq
   exact call_tuple_same pl ⟨.ref p,H,I,rfl,q⟩
def tyV (K:W.Frag) (T:String) (x:V) (H:Hp):Prop:=match x with
 | .str _=>T="str"
 | .int _=>T="int"
 | .ref p=>(T="list"∧∃ xs,SqL K H p xs)∨(T="tuple"∧∃ o,K.lookup p=some o∧o.cls=.type "tuple"∧o.dict=none) ∨
  (T="dict"∧((∃ kvs,H p=some (.dK kvs))∨∃ kvs,H p=some (.dT kvs)))∨(T="set"∧∃ S n,H p=some (.set S n))
 | _=>False
theorem bw8 {pins:List (Addr×Obj)}{σ:St} {H:Hp}{s:Shared}{T:String}{x:V}{v:Value}(I:Inv X pins σ H s) (r:RelV x v) (ty:tyV X.K T x H) :
 s.TypeIs v T∧∀ a,v=.ref a→∃ ob,s.heap.get? a=some ob∧ob.dict=none:=by
 cases x with
 | str z =>
   obtain ⟨t,rfl⟩:=r
   cases (show T="str" from ty)
   exact ⟨typeIs_str s z t,fun _ e=>nomatch e⟩
 | int i =>
   obtain ⟨t,rfl⟩:=r
   cases (show T="int" from ty)
   exact ⟨typeIs_int s i t,fun _ e=>nomatch e⟩
 | ref p =>
   cases r
   rcases ty with ⟨rfl,xs,hq⟩ | ⟨rfl,o,hk,hc,hd⟩ | ⟨rfl,hk⟩ | ⟨rfl,S,n,hk⟩
   · obtain ⟨its,_,pl,_⟩:=I.list hq
     refine ⟨pl.isList.typeIs,fun a e=>?_⟩
     cases e
     obtain ⟨o,n,e,c,hd,_⟩:=pl
     exact ⟨o,e,hd⟩
   · refine ⟨⟨o,I.kIn p o hk,hc⟩,fun a e=>?_⟩
     cases e
     exact ⟨o,I.kIn _ o hk,hd⟩
   · have z:∃ o,s.heap.get? p=some o∧o.ExactDict:=by
      rcases hk with ⟨kvs,hk⟩ | ⟨kvs,hk⟩
      · obtain ⟨_,_,_,_,o,_,_,e,ex,_⟩:=I.hok p _ hk
        exact ⟨o,e,ex⟩
      · obtain ⟨_,_,_,_,o,_,_,e,ex,_⟩:=I.hok p _ hk
        exact ⟨o,e,ex⟩
     obtain ⟨o,e,ex⟩:=z
     refine ⟨⟨o,e,ex.1⟩,fun a e2=>?_⟩
     cases e2
     exact ⟨o,e,ex.2.1⟩
   · obtain ⟨o,_,_,_,e,ex,_⟩:=I.hok p _ hk
     refine ⟨⟨o,e,ex.1⟩,fun a e2=>?_⟩
     cases e2
     exact ⟨o,e,ex.2.1⟩
 | _=>exact False.elim ty
def tBM (K:W.Frag) (T:String) (r:V→List V→Hp→VK→Prop) (to:TE) (t:TA):TE:=fun σ H Q=>to σ H fun x H1=>tyV K T x H1∧t σ H1 fun xs H2=>r x xs H2 Q
variable {o e:Expr}{es:List Expr}{to:TE}{t:TA}{name:Str}{apos cpos:Pos}{T id:String}{r:V→List V→Hp→VK→Prop}
theorem c62 (pa:PlainAttrs T) (slot:Slot T name id) (hty:typeOf (.builtin id)=pure (.type "method_descriptor")) (hm:MtR X id r) (ho:PE X o to) (ha:PA X (e::es) t)
 (hbase:attributeBase o name X.env (eval o X.env)=eval o X.env:=by rfl)
 (hfew:((backTo cpos (starEach (e::es) X.env)).all (fun x=>!x.1) && (backToKw cpos (keywordEach [] X.env)).all (fun x=>x.1.isSome)
  && decide ((e::es).length+([]:List Keyword).length+(if ([]:List Keyword).isEmpty then 0 else 1)<30))=true:=by rfl)
 (hline:(apos.endLine == cpos.line)=true:=by rfl) (hs:starEach (e::es) X.env=(false,eval e X.env)::starEach es X.env:=by rfl) (hplain:(backTo cpos (starEach es X.env)).any (·.1)=false:=by rfl) :
 PE X (.Call (.Attribute o name apos) (e::es) [] cpos) (tBM X.K T r to t):=by
 intro pins s σ H Q I h
 refine wpAny_Call_method_late hbase hfew hline rfl (thn (ho pins s σ H _ I h) fun v s1 ⟨x,H1,I1,r1,ty,q1⟩=>?_)
 obtain ⟨h1,h2⟩:=bw8 I1 r1 ty
 refine ⟨T,id,pa,slot,hty,h1,h2,?_⟩
 have hA:=ha cpos pins s1 σ H1 _ I1 q1
 rw [hs] at hA ⊢
 refine Calls.callWith_builtin (by show (false || (backTo cpos (starEach es X.env)).any (·.1))=false; rw [hplain] <;> rfl) (Calls.evalArgs_plain ?_)
 exact thn hA fun us s2 ⟨vs,H2,I2,r2,q2⟩=>hm pins s2 σ H2 x vs v us Q I2 r1 r2 q2
/- xs.append(e),list.index on a module's tuple .. are MtR facts of 06m -/
end
def MtM (X:Cx) (id:String) (r:V→List V→Hp→VK→Prop):Prop :=
 ∀ (pins:List (Addr×Obj)) (s:Shared) (σ:St) (H:Hp) (x:V) (xs:List V) (v:Value) (us:List Value) (Q:VK),Inv X pins σ H s→RelV x v→Vals xs us→r x xs H Q →
  wpAny (model X.prog X.w) X.A (call (.builtin id) (v::us)) (EP X pins σ Q) X.xe s
theorem Vals.one:∀ {x:V}{us:List Value},Vals [x] us→∃ u,us=[u]∧RelV x u
 | _,_,.cons r .nil=>⟨_,rfl,r⟩
theorem Vals.reverse {xs:List V}{us:List Value}(h:Vals xs us):Vals xs.reverse us.reverse:=by
 induction h with
 | nil=>exact .nil
 | cons r t ih=>rw [List.reverse_cons,List.reverse_cons]; exact Vals.append ih (.cons r .nil)
theorem Vals.rep {xs:List V}{us:List Value}(h:Vals xs us):∀ k:Nat,Vals (List.replicate k xs).flatten (List.replicate k us).flatten
 | 0=>.nil
 | k+1=>by
   rw [List.replicate_succ,List.replicate_succ,List.flatten_cons,List.flatten_cons]
   exact Vals.append h (Vals.rep h k)
theorem ar6 (its:List Value):∀ (k:Nat) (acc:List Value),
 List.foldl (fun x1 x2=>x1++x2) acc.toArray (List.replicate k its.toArray)=(acc++(List.replicate k its).flatten).toArray
 | 0,acc=>by simp
 | k+1,acc=>by
   have e:acc.toArray++its.toArray=(acc++its).toArray:=by simp
   have e2:(acc++its)++(List.replicate k its).flatten=acc++(List.replicate (k+1) its).flatten:=by
    rw [List.replicate_succ,List.flatten_cons,List.append_assoc]
   rw [← e2,←ar6 its k (acc++its),←e,List.replicate_succ,List.foldl_cons]
section
variable {X:Cx}{pins:List (Addr×Obj)}{σ:St} {H:Hp}{s:Shared}{l b:Addr}{xs ys zs:List V}
theorem Inv.lset {its its':List Value}{n:Nat}{f:Array Value→Array Value}{t':Nat}(I:Inv X pins σ H s) (hH:H l=some (.lst xs))
 (e:s.heap.get? l=some { cls:=.type "list",data:=.seq its.toArray n }) (hf:f its.toArray=its'.toArray) (hv:Vals ys its') (hz:ys.length≤sizeLine) :
 Inv X pins σ (upd H l (.lst ys)) { s with heap:=s.heap.update l (Obj.mapSeq f),toks:=t' }:=by
 have q:=PySem.IsL.update e f
 rw [hf] at q
 refine I.write (x:=l) (e:=l) (by rw [hH]; exact trivial) (.inl rfl) (fun b' u hb hu=>(Heap.get?_update_other s.heap (Obj.mapSeq f) (Ne.symm hb)).trans hu) ⟨_,q⟩ ?_
 exact ⟨hz,its',_,hv,q⟩
theorem Inv.lnew {its:List Value}{t':Nat}(I:Inv X pins σ H s) (hv:Vals ys its) (hz:ys.length≤sizeLine) :
 Inv X pins σ (upd H s.heap.objs.size (.lst ys)) { s with heap:=s.heap.push { cls:=.type "list",data:=.seq its.toArray },toks:=t' } :=
 I.laid (fun _ _ q=>gP _ q) (Nat.le_refl _) ⟨hz,its,0,hv,Heap.get?_push_size _ rfl⟩
theorem Inv.fresh (I:Inv X pins σ H s):H s.heap.objs.size=none:=I.hok.fresh (Nat.le_refl _)
theorem Inv.lstM (I:Inv X pins σ H s) (hH:H l=some (.lst xs)):xs.length≤sizeLine∧∃ (its:List Value) (n:Nat),Vals xs its∧xs.length=its.length∧s.heap.get? l=some { cls:=.type "list",data:=.seq its.toArray n }:=by
 obtain ⟨z,its,n,r,e⟩:=I.hok l _ hH
 exact ⟨z,its,n,r,r.length,e⟩
theorem notLongL {n:Nat}(h:n≤sizeLine):Builtin.List.listTooLong n=false:=by
 unfold Builtin.List.listTooLong
 exact decide_eq_false (by omega)
end
section
variable {X:Cx}
def rAppend:V→List V→Hp→VK→Prop:=fun x vs H Q=>∃ l xs y,x=.ref l∧vs=[y]∧H l=some (.lst xs)∧xs.length<sizeLine∧Q .non (upd H l (.lst (xs++[y])))
theorem a84:MtM X "list.append" rAppend:=by
 intro pins s σ H x vs v us Q I rx rv h
 obtain ⟨l,xs,y,rfl,rfl,hH,hz,q⟩:=h
 cases rx
 obtain ⟨u,rfl,ru⟩:=rv.one
 obtain ⟨z,its,n,r,hl,e⟩:=I.lstM hH
 refine call_meets F.slot_list_append ⟨_,e,rfl⟩ F.entry_list_append (F.args_list_append_2 _ _) (PySem.list_append l its.toArray n u (by rw [List.size_toArray]; omega)) ⟨e,?_⟩
 refine ⟨.non,_,I.lset (its':=its++[u]) hH e (by simp) (r.append (.cons ru .nil)) ?_,rfl,q⟩
 rw [List.length_append,List.length_singleton]
 omega
def rCat:R2:=fun x y H Q=>∃ l b xs zs,x=.ref l∧y=.ref b∧H l=some (.lst xs)∧H b=some (.lst zs)∧xs.length+zs.length≤sizeLine∧∀ p,H p=none→Q (.ref p) (upd H p (.lst (xs++zs)))
theorem bw9:OpR X (binaryOp .Add) rCat:=by
 intro pins s σ H x y v u Q I rx ry h
 obtain ⟨l,b,xs,zs,rfl,rfl,hH,hB,hz,q⟩:=h
 cases rx
 cases ry
 obtain ⟨z,its,n,r,hl,e⟩:=I.lstM hH
 obtain ⟨z2,its2,n2,r2,hl2,e2⟩:=I.lstM hB
 refine PySem.P.add_list e e2 ?_ (by rw [List.size_toArray,List.size_toArray]; omega)
 have ea:its.toArray++its2.toArray=(its++its2).toArray:=by simp
 rw [ea]
 exact ⟨.ref _,_,I.lnew (t':=s.toks) (r.append r2) (by rw [List.length_append]; omega),rfl,q _ I.fresh⟩
def rRep:R2:=fun x y H Q=>∃ l k xs,x=.ref l∧y=.int k∧H l=some (.lst xs)∧-(2 ^ 63)≤k∧k<2 ^ 63∧xs.length*k.toNat≤sizeLine ∧
 ∀ p,H p=none→Q (.ref p) (upd H p (.lst (List.replicate k.toNat xs).flatten))
theorem bo6 {α:Type}(xs:List α) (k:Nat):(List.replicate k xs).flatten.length=k*xs.length:=by
 induction k with
 | zero=>simp
 | succ k ih=>rw [List.replicate_succ,List.flatten_cons,List.length_append,ih,Nat.succ_mul,Nat.add_comm]
theorem bx0:OpR X (binaryOp .Mult) rRep:=by
 intro pins s σ H x y v u Q I rx ry h
 obtain ⟨l,k,xs,rfl,rfl,hH,h1,h2,hz,q⟩:=h
 cases rx
 obtain ⟨t,rfl⟩:=ry
 obtain ⟨z,its,n,r,hl,e⟩:=I.lstM hH
 have hlen:its.toArray.size*k.toNat≤sizeLine:=by rw [List.size_toArray,←hl]; exact hz
 have hcap:¬ its.toArray.size*k.toNat > (2 ^ 63 - 1) / 8:=by
  have:(sizeLine:Nat)≤(2 ^ 63 - 1) / 8:=by decide
  omega
 have hfit:¬ (!Builtin.List.listFitsIndex k)=true:=by
  rw [fitsIndex_both h1 h2]
  exact Bool.false_ne_true
 have hlong:¬ Builtin.List.listTooLong (its.toArray.size*k.toNat)=true:=by
  rw [notLongL hlen]
  exact Bool.false_ne_true
 have hnew:List.foldl (fun x1 x2=>x1++x2) #[] (List.replicate (if its.toArray.isEmpty=true then 0 else k.toNat) its.toArray)=(List.replicate k.toNat its).flatten.toArray:=by
  have f0:∀ m:Nat,List.foldl (fun x1 x2=>x1++x2) #[] (List.replicate m its.toArray)=(List.replicate m its).flatten.toArray:=fun m=>by
   have:=ar6 its m []
   rw [List.nil_append] at this
   exact this
  rw [f0]
  cases its with
  | nil=>simp
  | cons a r'=>rw [if_neg (by simp)]
 refine wpAny_binaryOp_repeat_ref (T:="list") (U:="int") (by decide) ⟨_,e,rfl⟩ (fun s'=>typeIs_int s' k t) noFill_list_mul F.fills_int_mul F.slot_int_rmul repeat_list F.slot_int_index.lookup
  (call_meets F.slot_int_rmul (typeIs_int s k t) F.entry_int_rmul (F.args_int_rmul_2 _ _) (int___rmul___int_list k t l its.toArray n)
   ⟨e,rfl,⟨_,e,rfl⟩,call_meets F.slot_list_mul ⟨_,e,rfl⟩ F.entry_list_mul (F.args_list_mul_2 _ _) (AutoListH.list___mul___list_int_3 l its.toArray n k t hfit hcap hlong) ⟨e,?_⟩⟩)
 rw [hnew]
 exact ⟨.ref _,_,I.lnew (t':=s.toks) (r.rep k.toNat) (by rw [bo6,Nat.mul_comm]; exact hz),rfl,q _ I.fresh⟩
end
section
variable {prog:Program}{w:World}{A:Around}{E:Value→Shared→Prop}{s:Shared}
set_option maxRecDepth 100000 in
end
section
variable {X:Cx}
end
end L2
namespace Att
open PySem PySem.W PySem.Calls PyProof.Rows
theorem aj9 {P:Params}{h:Heap}:∀ (ns:List Int) (vs:List Value),WellAll P h vs (ns.map WData.int)→IntsAre vs ns:=by
 intro ns
 induction ns with
 | nil =>
   intro vs w
   rw [List.map_nil] at w
   cases w
   exact .nil
 | cons n ns ih =>
   intro vs w
   rw [List.map_cons] at w
   cases w with
   | cons a b =>
     cases a
     exact .cons _ _ (ih _ b)
theorem b83 {l:OpenLaw}{n:Nat}(hn:l.most=some n) {P:Params}{h:Heap}{args:List WData}{vals:List Value}
 (hpre:l.row.toRowW.claim.pre args=true) (hwl:WellAll P h vals args) :
 ∃ a vs ns,vals=[Value.ref a]∧args=[WData.list (ns.map WData.int)]∧h.get? a=some { cls:=.type "list",data:=.seq vs.toArray }∧IntsAre vs ns∧ns.length≤n:=by
 have hsh:WShape.hasAll [] args [.list .int]=true:=(pre_splitW hpre).1
 have hc:l.pre.holds [] { args:=args }=true:=(pre_splitW hpre).2
 obtain ⟨d,r,rfl,h1,h2⟩:=hasAllW_cons hsh
 obtain rfl:=hasAllW_nil h2
 obtain ⟨xs,rfl,h3⟩:=hasW_list h1
 obtain ⟨ns,rfl⟩:=items_int h3
 have hlen:ns.length≤n:=by
  unfold OpenLaw.pre at hc
  have h4:(WTm.not (.lt (.lit (.int (n:Int))) (.len (.arg 0)))).holds [] { args:=[.list (ns.map .int)] }=true:=by
   have h4:=(holds_andW hc).1
   rw [hn] at h4
   exact h4
  have h5:=condW_of h4 (w_not (w_lt w_lit (w_len_list (w_arg rfl))))
  rw [List.length_map] at h5
  refine Nat.le_of_not_lt fun q=>?_
  have q':(n:Int)<((ns.length:Nat):Int):=by omega
  first
   | (rw [decide_eq_true q'] at h5; exact absurd h5 (by decide))
   | (simp at h5; omega)
 cases hwl with
 | cons w1 w2 =>
   cases w2
   cases w1 with
   | list ho hall=>exact ⟨_,_,ns,rfl,rfl,ho,aj9 ns _ hall,hlen⟩
theorem b84 (l:OpenLaw) (args:List WData):l.row.toRowW.claim.post args (.bool true) args=true :=
 postW_of (r:=l.row.toRowW) (X:=(true == true))
  (show WShape.has [] (.bool true) .bool=true by first | rfl | decide | simp [WShape.has,WShape.arms,WShape.armsAll])
  (show (WTm.eq .res (.lit (.bool true))).value [] { args:=args,res:=some (.bool true),after:=args }=some (.bool (true == true)) from w_eq_bool (w_res rfl) w_lit) rfl
theorem attach_call {l:OpenLaw}{n:Nat}{q:Program}{loose:List Str}{XP:(Str→Option Value)→Heap→Prop}{YP:World→Heap→Prop}{d:DefRec}
 (hn:l.most=some n) (hdf:d.params.defaults=[])
 (call:∀ (w:World) (s₀ s₁:Shared) (mg mb:Str→Option Value) (fa:Addr) (o:Obj) (pm cd doc:Value) (a:Addr) (vs:List Value) (ns:List Int),
  Ground q loose [] XP w s₀ mg mb s₁.heap→YP w s₁.heap →
  s₁.heap.get? fa=some o→o.data=.func (docDef d.name d.params d.body d.scope pm cd doc)→s₁.heap.CodeRec cd d.name→mg d.name=some (.ref fa) →
  s₁.heap.get? a=some { cls:=.type "list",data:=.seq vs.toArray }→IntsAre vs ns→ns.length≤n→s₁.gens=#[] →
  codeAny (model l.prog w) callerA (.call (.ref fa) ⟨[.ref a],[]⟩) (fun r s'=>r=.ok (.ret (.bool true))∧OldK s₁.heap s'.heap∧s'.os=s₁.os∧AllBare s'.gens) s₁) :
 WalkO q loose XP YP l.row.toRowW d [] (fun f vs=>PySem.call f vs):=by
 intro w s₀ s₁ mg mb G Y fa o pm cd doc dV kV ho hd hcd hD hmg hg args vals as hpre hlay hrd hwl hlo
 obtain rfl:dV=.none:=Dflts.none hD hdf
 obtain rfl:kV=.none:=Dflts.noKw hD
 obtain ⟨a,vs,ns,rfl,rfl,hobj,hints,hlen⟩:=b83 hn hpre hwl
 refine enter_call (codeAny_mono (call w s₀ s₁ mg mb fa o pm cd doc a vs ns G Y ho (fd_plain hd) hcd hmg hobj hints hlen hg) fun r s' hq=>?_)
 obtain ⟨rfl,h2,h3,h4⟩:=hq
 exact ⟨.inl ⟨.bool true,.bool true,[],rfl,fun _=>rfl,.bool true,b84 l _,fun _=>⟨List.Pairwise.nil,fun _ hm=>(nomatch hm)⟩⟩,h2,h3,h4⟩
section
variable {prog:Program}{w:World}{A:Around}{E:Value→Shared→Prop}{s:Shared}{K:Frag}
end
end Att
namespace L2
open PySem PySem.Spec PyProof.Rows
theorem ar7:∀ {vs:List Value}{ns:List Int},IntsAre vs ns→Vals (ns.map V.int) vs
 | _,_,.nil=>.nil
 | _,_,.cons n t h=>.cons ⟨t,rfl⟩ (ar7 h)
def Only (H:Hp):Prop:=∀ b,H b=none∨∃ o xs,H b=some (.frz o (.lst xs))
theorem bf6 {P:Program}{w:World}{K:W.Frag}{mg mb:Str→Option Value}{CX:CXT}{k:Nat}{fa a:Addr}{fd:FuncData}{x:Str}{sp:Sp}{s₁:Shared}{vs:List Value}{ns:List Int}
 (KX:K.In s₁.heap) (hns:s₁.heap.Ns mainGlobals mg) (hb:s₁.heap.Ns builtinsNs mb) (hbb:∀ x:Str,x≠"__name__"→mb x=bootBuiltins x) (hlim:s₁.heap.NoLimit) (hg:s₁.gens=#[])
 (ha:s₁.heap.get? a=some { cls:=.type "list",data:=.seq vs.toArray }) (hi:IntsAre vs ns) (hl:ns.length≤sizeLine) (hr:Room k callerA)
 (F:∀ base:Heap,K.In base→base.Ns mainGlobals mg→FnOk P w K mg base CX k fa fd [x] sp) (hbind:∀ (s:Shared) (u:Value),BindsTo s fd ⟨[u],[]⟩ [(x,u)])
 (hsp:∀ H:Hp,Only H→SqL K H a (ns.map V.int)→sp [.ref a] H (fun v _=>v=.bl true) fun _ _ _=>False)
 (hCX:∀ H e s',CX [] H s₁ (fun _ _ _=>False) e s'→False) :
 codeAny (model P w) callerA (.call (.ref fa) ⟨[.ref a],[]⟩) (fun r s'=>r=.ok (.ret (.bool true))∧OldK s₁.heap s'.heap∧s'.os=s₁.os∧AllBare s'.gens) s₁:=by
 have rv:=ar7 hi
 have lenV:=hi.length
 have core:∀ H:Hp,Only H→SqL K H a (ns.map V.int)→HOk P w H s₁.heap→(∀ b,H b≠none→b=a)→(H a≠none→K.lookup a=none) →
  codeAny (model P w) callerA (.call (.ref fa) ⟨[.ref a],[]⟩) (fun r s'=>r=.ok (.ret (.bool true))∧OldK s₁.heap s'.heap∧s'.os=s₁.os∧AllBare s'.gens) s₁:=by
  intro H hO hS hok hA hK
  have base_of:∀ {b:Addr}{o:Obj},s₁.heap.get? b=some o→H b=none→(hidT s₁.heap H).get? b=some o:=fun e n=>be7 e n
  have noA:∀ {b:Addr}{o:Obj}{es:Array DictEntry}{ep:Nat},s₁.heap.get? b=some o→o.data=.dict es ep→H b=none:=fun {b o es ep} e d=>by
   cases q:H b with
   | none=>rfl
   | some u =>
     have e':b=a:=hA b (by rw [q]; simp)
     subst e'
     rw [ha] at e; cases e
     have d':Data.seq vs.toArray _=Data.dict es ep:=d
     cases d'
  have nsK:∀ {b:Addr}{m:Str→Option Value},s₁.heap.Ns b m→(hidT s₁.heap H).Ns b m:=fun {b m} ⟨o,es,ep,e,d,r⟩=>⟨o,es,ep,base_of e (noA e d),d,r⟩
  have hKb:K.In (hidT s₁.heap H):=fun b o e=>base_of (KX b o e) (by
   cases q:H b with
   | none=>rfl
   | some u =>
     have e':b=a:=hA b (by rw [q]; simp)
     subst e'
     rw [hK (by rw [q]; simp)] at e; cases e)
  have hM:Mod K mg (hidT s₁.heap H):=⟨hKb,nsK hns,⟨mb,nsK hb,hbb⟩,let ⟨mc,h1,h2⟩:=hlim; ⟨mc,nsK h1,h2⟩⟩
  have e0:Env0 P w K mg (hidT s₁.heap H) callerA [] s₁ H:=⟨rfl,hM,fun b o e=>bn7 e,Nat.le_of_eq (b64 _ _),trivial,fun b hb=>absurd (show b∈([]:List Addr) from hb) (by simp),hok,.of_eq hg⟩
  refine codeAny_mono ((F _ hKb (nsK hns)).run callerA [] s₁ H ⟨[.ref a],[]⟩ [.ref a] [.ref a] _ _ hr e0 (hbind s₁ (.ref a)) (.cons rfl .nil) (hsp H hO hS)) fun r s' h=>?_
  cases r with
  | error e=>exact (hCX H e s' h).elim
  | ok fl =>
    cases fl with
    | next=>exact False.elim h
    | brk=>exact False.elim h
    | cont=>exact False.elim h
    | ret u =>
      obtain ⟨v,H',os,bare,un,hok',r',q⟩:=h
      have q':v=.bl true:=q
      subst q'
      obtain rfl:u=Value.bool true:=r'
      refine ⟨rfl,OldK.of_keep fun b o e=>?_,os,bare⟩
      cases q:H b with
      | none=>exact un.keep b o e q (by intro z; exact absurd (show b∈([]:List Addr) from z) (by simp)) (by simp)
      | some u =>
        rcases hO b with z | ⟨ob,xs,z⟩
        · rw [q] at z; cases z
        · have z2:=un.frzs b ob _ z
          obtain ⟨e1,_⟩:=hok b _ z
          obtain ⟨e2,_⟩:=hok' b _ z2
          rw [e] at e1; cases e1
          exact e2
 cases hk:K.lookup a with
 | some o =>
   have e:=KX a o hk
   rw [ha] at e
   cases e
   refine core (fun _=>none) (fun _=>.inl rfl) (.inr ⟨_,vs.toArray,_,hk,rfl,rfl,rfl,by rw [List.size_toArray,lenV]; exact hl,by simpa using rv⟩) (fun b u z=>by have z':(none:Option HO)=some u:=z; cases z') (fun b z=>absurd rfl z) fun z=>absurd rfl z
 | none =>
   refine core (fun b=>if b=a then some (.frz { cls:=.type "list",data:=.seq vs.toArray } (.lst (ns.map V.int))) else none) (fun b=>?_) (.inl (.inr ⟨{ cls:=.type "list",data:=.seq vs.toArray },if_pos rfl⟩)) (fun b u z=>?_) (fun b z=>?_) fun _=>hk
   · by_cases hb:b=a
     · exact .inr ⟨_,_,if_pos hb⟩
     · exact .inl (if_neg hb)
   · by_cases hb:b=a
     · have z':=(if_pos hb).symm.trans z
       cases z'
       subst hb
       exact ⟨ha,by rw [gL]; exact hl,vs,_,rv,ha⟩
     · have z':=(if_neg hb).symm.trans z
       cases z'
   · by_cases hb:b=a
     · exact hb
     · exact absurd (if_neg hb) z
theorem walk_of {l:W.OpenLaw}{n k:Nat}{q:Program}{loose:List Str}{XP:(Str→Option Value)→Heap→Prop}{YP:World→Heap→Prop}{d:DefRec}{K:Params→W.Frag}{CX:World→CXT}{sp:World→Sp}{x:Str}
 (hn:l.most=some n) (hn2:n≤sizeLine) (hdf:d.params.defaults=[]) (hr:Room k callerA)
 (hY:∀ (w:World) (h:Heap),YP w h→(K w.params).In h)
 (F:∀ (w:World) (mg:Str→Option Value) (fa:Addr) (h:Heap),(K w.params).In h→h.Ns mainGlobals mg→mg d.name=some (.ref fa) →
  ∃ fd:FuncData,(∀ (s:Shared) (u:Value),BindsTo s fd ⟨[u],[]⟩ [(x,u)]) ∧
   ∀ base:Heap,(K w.params).In base→base.Ns mainGlobals mg→FnOk l.prog w (K w.params) mg base (CX w) k fa fd [x] (sp w))
 (hsp:∀ (w:World) (H:Hp) (a:Addr) (ns:List Int),ns.length≤n→Only H→SqL (K w.params) H a (ns.map V.int)→sp w [.ref a] H (fun v _=>v=.bl true) fun _ _ _=>False)
 (hCX:∀ (w:World) (H:Hp) (s:Shared) (e:Value) (s':Shared),CX w [] H s (fun _ _ _=>False) e s'→False) :
 W.WalkO q loose XP YP l.row.toRowW d [] (fun f vs=>PySem.call f vs):=by
 refine Att.attach_call hn hdf fun w s₀ s₁ mg mb fa o pm cd doc a vs ns G Y ho hd hcd hmg hobj hints hlen hg=>?_
 have KX:=hY w _ Y
 obtain ⟨fd,hb,hF⟩:=F w mg fa _ KX G.T.g hmg
 exact bf6 KX G.T.g G.T.b G.T.builtins G.T.nolimit hg hobj hints (Nat.le_trans hlen hn2) hr hF hb (fun H hO hS=>hsp w H a ns hlen hO hS) fun H e s'=>hCX w H s₁ e s'
def inClass (s:Stmt) (j:Nat):Stmt:=match s with
 | .ClassDef _ _ _ body _ _ _ _ _ _ _=>body.getD j (.Pass ⟨0,0,0,0⟩)
 | _=>.Pass ⟨0,0,0,0⟩
def defArgs (s:Stmt):Arguments:=match s with
 | .FunctionDef _ a _ _ _ _ _ _ _ _=>a
 | _=>{ posonlyargs:=[],args:=[],vararg:=none,kwonlyargs:=[],kw_defaults:=[],kwarg:=none,defaults:=[] }
def defBody (s:Stmt):List Stmt:=match s with
 | .FunctionDef _ _ b _ _ _ _ _ _ _=>b
 | _=>[]
def defScope (s:Stmt):Scope:=match s with
 | .FunctionDef _ _ _ _ _ _ sc _ _ _=>sc
 | _=>{ kind:=.function,names:=[],isGenerator:=false,isCoroutine:=false }
abbrev CX0:CXT:=fun _ _ _ _ _ _=>False
abbrev E0:XK:=fun _ _ _=>False
theorem a61 {X:Cx}:Passes CX0 X E0:=fun _ _ _ _ _ _ _ h=>h.elim
structure Fun (K:W.Frag) (x qual:Str) (st:Stmt) (f:Addr) (fd:FuncData):Prop where
 ex:∃ (oc:Value) (od:Option Addr) (kV doc pm:Value) (an:Option Addr) (cdv ct:Value) (osl:Array (Option Value)),
  fd=W.fnOf x qual (defArgs st) (defBody st) (defScope st) .none kV doc pm an cdv ct∧K.lookup f=some ⟨oc,od,.func fd,osl⟩∧W.codeIn K cdv qual=true
 kp:W.keepIn K (.ref f)=true
section
variable {P:Program}{w:World}{K:W.Frag}{mg:Str→Option Value}{base:Heap}
theorem Fun.ok {x qual:Str}{st:Stmt}{f:Addr}{fd:FuncData}{N ps:List Str}{k:Nat}{sp:Sp}(F:Fun K x qual st f fd) (S:FnScope N ps (defScope st)) (len:∀ vs H Q E,sp vs H Q E→vs.length=ps.length)
 (hbody:∀ (cdv:Value) (A:Around) (outer:List Env) (s:Shared) (H:Hp) (vs:List V) (Q:VK) (E:XK),Room k (A.deeper (envOfC qual (defScope st) s.heap.objs.size f cdv))→sp vs H Q E →
  ∃ t,PSs (cxOf CX0 P w K mg base N qual (defScope st) f cdv A outer s H E).nox (defBody st) t∧t { nx:=fun _ H'=>Q .non H',rt:=Q } (start N vs) H):FnOk P w K mg base CX0 (k+1) f fd ps sp:=by
 obtain ⟨oc,od,kV,doc,pm,an,cdv,ct,osl,rfl,lk,hcd⟩:=F.ex
 refine bw3 lk hcd S len fun A outer s H vs Q E hr hsp=>?_
 obtain ⟨t,h,q⟩:=hbody cdv A outer s H vs Q E hr hsp
 exact ⟨t,h.nox,q⟩
theorem Fun.binds {x qual:Str}{st:Stmt}{f:Addr}{fd:FuncData}{ps:List Str}(F:Fun K x qual st f fd)
 (h:∀ (kV doc pm:Value) (an:Option Addr) (cdv ct:Value) (us:List Value),us.length=ps.length→bindArgs (W.fnOf x qual (defArgs st) (defBody st) (defScope st) .none kV doc pm an cdv ct) ⟨us,[]⟩=pure (ps.zip us)):Binds K fd ps []:=by
 obtain ⟨oc,od,kV,doc,pm,an,cdv,ct,osl,rfl,lk,hcd⟩:=F.ex
 exact .all (h kV doc pm an cdv ct)
theorem a67 {x qual:Str}{st:Stmt}{f:Addr}{oc:Value}{od an:Option Addr}{osl:Array (Option Value)}{kV doc pm cdv ct:Value}(l:K.lookup f=some ⟨oc,od,.func (W.fnOf x qual (defArgs st) (defBody st) (defScope st) .none kV doc pm an cdv ct),osl⟩)
 (c:W.codeIn K cdv qual=true) (k:W.keepIn K (.ref f)=true):Fun K x qual st f (W.fnOf x qual (defArgs st) (defBody st) (defScope st) .none kV doc pm an cdv ct):=⟨⟨oc,od,kV,doc,pm,an,cdv,ct,osl,rfl,l,c⟩,k⟩
end
theorem small1000 {n:Nat}(h:n≤1000):n<sizeLine:=Nat.lt_of_le_of_lt h (by decide)
section
variable {X:Cx}
theorem pv (i:Nat) {x:Str}{pos:Pos}(hN:X.N[i]?=some x:=by rfl) (hv:Vis X.env.scope x:=by first | exact Or.inl rfl | exact Or.inr (Or.inl rfl) | exact Or.inr (Or.inr rfl)) (hd:(x == ("__debug__":Str))=false:=by decide)
 (hcd:(x == ("__classdict__":Str))=false:=by decide):PE X (.Name x pos) (tVar i):=bu8 hN hv hd hcd
end
theorem iteF {A B:Prop}(h:B):if false=true then A else B:=by
 rw [if_neg Bool.false_ne_true]
 exact h
theorem iteT {A B:Prop}(h:A):if true=true then A else B:=by
 rw [if_pos rfl]
 exact h
theorem ite2 {c A B:Prop} [Decidable c] (h1:c→A) (h2:¬ c→B):if c then A else B:=by
 by_cases h:c
 · rw [if_pos h]
   exact h1 h
 · rw [if_neg h]
   exact h2 h
def Same (H H':Hp):Prop:=∀ b o,H b=some o→H' b=some o
theorem Same.refl (H:Hp):Same H H:=fun _ _ h=>h
theorem Same.trans {H H1 H2:Hp}(a:Same H H1) (b:Same H1 H2):Same H H2:=fun c o h=>b c o (a c o h)
theorem Same.free {H H':Hp}(e:Same H H') {l:Addr}(h:H' l=Option.none):H l=Option.none:=by
 cases q:H l with
 | none=>rfl
 | some o =>
   rw [e l o q] at h
   cases h
theorem Same.seq {K:W.Frag}{H H':Hp}{a:Addr}{xs:List V}(e:Same H H') (h:SqL K H a xs):SqL K H' a xs:=by
 rcases h with (h | ⟨o,h⟩) | h
 · exact .inl (.inl (e _ _ h))
 · exact .inl (.inr ⟨o,e _ _ h⟩)
 · exact .inr h
end L2
namespace K90
open PySem L2
def top (i:Nat):Stmt:=PySem.Challenge.pw_callmill_k90_first_fall.main.body.getD i (.Pass ⟨0,0,0,0⟩)
def view:Program:={ PySem.Challenge.pw_callmill_k90_first_fall with main:={ PySem.Challenge.pw_callmill_k90_first_fall.main with body:=[top 1,top 2,top 4,top 5,top 6,top 8,top 9,top 11,top 12,top 13,top 14,top 15,top 17,top 18,top 19,top 20,top 22,top 23,top 24,top 25,top 26,top 27,top 28,top 29,top 30,top 31,top 32,top 33,top 34,top 35] } }
abbrev a47:Stmt:=top 8
abbrev a70:Stmt:=top 9
abbrev a57:Stmt:=inClass (top 12) 0
abbrev a65:Stmt:=inClass (top 12) 1
abbrev a80:Stmt:=inClass (top 12) 2
abbrev a42:Stmt:=inClass (top 12) 3
abbrev aa8:Stmt:=top 13
abbrev a71:Stmt:=top 14
abbrev a49:Stmt:=top 15
abbrev a73:Stmt:=top 17
abbrev a81:Stmt:=top 18
abbrev a88:Stmt:=top 19
abbrev a31:Stmt:=inClass (top 20) 0
abbrev a39:Stmt:=inClass (top 20) 1
abbrev a43:Stmt:=inClass (top 20) 2
abbrev a44:Stmt:=inClass (top 20) 3
abbrev a89:Stmt:=top 22
abbrev a90:Stmt:=top 23
abbrev a91:Stmt:=top 24
abbrev a63:Stmt:=top 25
abbrev a74:Stmt:=top 26
abbrev a92:Stmt:=top 27
abbrev a55:Stmt:=top 28
abbrev a66:Stmt:=top 29
abbrev a85:Stmt:=top 30
abbrev a82:Stmt:=top 31
abbrev a93:Stmt:=top 32
abbrev a75:Stmt:=top 33
abbrev a58:Stmt:=top 34
abbrev af0:Stmt:=top 35
def am4 (K:W.Frag):Sp:=fun vs H Q _=>∃ (a:Addr) (ns:List Int),vs=[.ref a]∧SqL K H a (ns.map V.int)∧ns.length≤63∧∀ H',Q (.bl true) H'
theorem walk {l:W.OpenLaw}{q:Program}{loose:List Str}{XP:(Str→Option Value)→Heap→Prop}{YP:World→Heap→Prop}{d:DefRec}{K:Params→W.Frag}(hn:l.most=some 63) (hdf:d.params.defaults=[])
 (hY:∀ (w:World) (h:Heap),YP w h→(K w.params).In h)
 (F:∀ (w:World) (mg:Str→Option Value) (fa:Addr) (h:Heap),(K w.params).In h→h.Ns mainGlobals mg→mg d.name=some (.ref fa) →
  ∃ fd:FuncData,(∀ (s:Shared) (u:Value),BindsTo s fd ⟨[u],[]⟩ [("script",u)])∧∀ base:Heap,(K w.params).In base→base.Ns mainGlobals mg→FnOk l.prog w (K w.params) mg base CX0 7 fa fd ["script"] (am4 (K w.params))) :
 W.WalkO q loose XP YP l.row.toRowW d [] (fun f vs=>PySem.call f vs) :=
 L2.walk_of (n:=63) (k:=7) (x:="script") (CX:=fun _=>CX0) (sp:=fun w=>am4 (K w.params)) hn (by decide) hdf ⟨rfl,by decide,by decide⟩ hY F (fun _ _ a ns hl _ hS=>⟨a,ns,rfl,hS,hl,fun _=>rfl⟩) fun _ _ _ _ _ z=>z
def HF (P:Params) (K:W.Frag):Prop:=∀ R:Prop,(∀
 {C_MillError:Addr}(aC_MillError:W.nsIn K mainGlobals "MillError"=some (some (.ref C_MillError)))
 {C_TooMany:Addr}(aC_TooMany:W.nsIn K mainGlobals "TooMany"=some (some (.ref C_TooMany)))
 {C_Machine:Addr}(aC_Machine:W.nsIn K mainGlobals "Machine"=some (some (.ref C_Machine)))
 {C_Hall:Addr}(aC_Hall:W.nsIn K mainGlobals "Hall"=some (some (.ref C_Hall)))
 (pg_Hall:W.plainGet K C_Hall Str.empty=true) (hd_Hall:W.hasDictIn K C_Hall=true) (po_Hall:W.plainOver K C_Hall=true) (sa_Hall:W.findIn K (.ref C_Hall) "__setattr__"=some (some (.builtin "object.__setattr__"))) (mk_Hall:W.makesIn K C_Hall=true) (kc_Hall:W.keepIn K (.ref C_Hall)=true)
 (nF_Hall_lines:W.findIn K (.ref C_Hall) "lines"=some none)
 (nF_Hall_machines:W.findIn K (.ref C_Hall) "machines"=some none)
 {C_TableMachine:Addr}(aC_TableMachine:W.nsIn K mainGlobals "TableMachine"=some (some (.ref C_TableMachine)))
 (pg_TableMachine:W.plainGet K C_TableMachine Str.empty=true) (hd_TableMachine:W.hasDictIn K C_TableMachine=true) (po_TableMachine:W.plainOver K C_TableMachine=true) (sa_TableMachine:W.findIn K (.ref C_TableMachine) "__setattr__"=some (some (.builtin "object.__setattr__"))) (mk_TableMachine:W.makesIn K C_TableMachine=true) (kc_TableMachine:W.keepIn K (.ref C_TableMachine)=true)
 (nF_TableMachine_places:W.findIn K (.ref C_TableMachine) "places"=some none)
 (nF_TableMachine_rooms:W.findIn K (.ref C_TableMachine) "rooms"=some none)
 (nF_TableMachine_saying:W.findIn K (.ref C_TableMachine) "saying"=some none)
 {f0:Addr}{od0 an0:Option Addr}{sl0:Array (Option Value)}{oc0 kV0 dc0 pm0 cd0 ct0:Value}
 {f1:Addr}{od1 an1:Option Addr}{sl1:Array (Option Value)}{oc1 kV1 dc1 pm1 cd1 ct1:Value}
 {f2:Addr}{od2 an2:Option Addr}{sl2:Array (Option Value)}{oc2 kV2 dc2 pm2 cd2 ct2:Value}
 {f3:Addr}{od3 an3:Option Addr}{sl3:Array (Option Value)}{oc3 kV3 dc3 pm3 cd3 ct3:Value}
 {f4:Addr}{od4 an4:Option Addr}{sl4:Array (Option Value)}{oc4 kV4 dc4 pm4 cd4 ct4:Value}
 {f5:Addr}{od5 an5:Option Addr}{sl5:Array (Option Value)}{oc5 kV5 dc5 pm5 cd5 ct5:Value}
 {f6:Addr}{od6 an6:Option Addr}{sl6:Array (Option Value)}{oc6 kV6 dc6 pm6 cd6 ct6:Value}
 {f7:Addr}{od7 an7:Option Addr}{sl7:Array (Option Value)}{oc7 kV7 dc7 pm7 cd7 ct7:Value}
 {f8:Addr}{od8 an8:Option Addr}{sl8:Array (Option Value)}{oc8 kV8 dc8 pm8 cd8 ct8:Value}
 {f9:Addr}{od9 an9:Option Addr}{sl9:Array (Option Value)}{oc9 kV9 dc9 pm9 cd9 ct9:Value}
 {f10:Addr}{od10 an10:Option Addr}{sl10:Array (Option Value)}{oc10 kV10 dc10 pm10 cd10 ct10:Value}
 {f11:Addr}{od11 an11:Option Addr}{sl11:Array (Option Value)}{oc11 kV11 dc11 pm11 cd11 ct11:Value}
 {f12:Addr}{od12 an12:Option Addr}{sl12:Array (Option Value)}{oc12 kV12 dc12 pm12 cd12 ct12:Value}
 {f13:Addr}{od13 an13:Option Addr}{sl13:Array (Option Value)}{oc13 kV13 dc13 pm13 cd13 ct13:Value}
 {f14:Addr}{od14 an14:Option Addr}{sl14:Array (Option Value)}{oc14 kV14 dc14 pm14 cd14 ct14:Value}
 {f15:Addr}{od15 an15:Option Addr}{sl15:Array (Option Value)}{oc15 kV15 dc15 pm15 cd15 ct15:Value}
 {f16:Addr}{od16 an16:Option Addr}{sl16:Array (Option Value)}{oc16 kV16 dc16 pm16 cd16 ct16:Value}
 {f17:Addr}{od17 an17:Option Addr}{sl17:Array (Option Value)}{oc17 kV17 dc17 pm17 cd17 ct17:Value}
 {f18:Addr}{od18 an18:Option Addr}{sl18:Array (Option Value)}{oc18 kV18 dc18 pm18 cd18 ct18:Value}
 {f19:Addr}{od19 an19:Option Addr}{sl19:Array (Option Value)}{oc19 kV19 dc19 pm19 cd19 ct19:Value}
 {f20:Addr}{od20 an20:Option Addr}{sl20:Array (Option Value)}{oc20 kV20 dc20 pm20 cd20 ct20:Value}
 {f21:Addr}{od21 an21:Option Addr}{sl21:Array (Option Value)}{oc21 kV21 dc21 pm21 cd21 ct21:Value}
 {f22:Addr}{od22 an22:Option Addr}{sl22:Array (Option Value)}{oc22 kV22 dc22 pm22 cd22 ct22:Value}
 {f23:Addr}{od23 an23:Option Addr}{sl23:Array (Option Value)}{oc23 kV23 dc23 pm23 cd23 ct23:Value}
 {f24:Addr}{od24 an24:Option Addr}{sl24:Array (Option Value)}{oc24 kV24 dc24 pm24 cd24 ct24:Value}
 {f25:Addr}{od25 an25:Option Addr}{sl25:Array (Option Value)}{oc25 kV25 dc25 pm25 cd25 ct25:Value}
 {f26:Addr}{od26 an26:Option Addr}{sl26:Array (Option Value)}{oc26 kV26 dc26 pm26 cd26 ct26:Value}
 {f27:Addr}{od27 an27:Option Addr}{sl27:Array (Option Value)}{oc27 kV27 dc27 pm27 cd27 ct27:Value}
 {f28:Addr}{od28 an28:Option Addr}{sl28:Array (Option Value)}{oc28 kV28 dc28 pm28 cd28 ct28:Value}
 {f29:Addr}{od29 an29:Option Addr}{sl29:Array (Option Value)}{oc29 kV29 dc29 pm29 cd29 ct29:Value}
 (a0:W.nsIn K mainGlobals "still_lines"=some (some (.ref f0))) (l0:K.lookup f0=some ⟨oc0,od0,.func (W.fnOf "still_lines" "still_lines" (defArgs a47) (defBody a47) (defScope a47) .none kV0 dc0 pm0 an0 cd0 ct0),sl0⟩) (c0:W.codeIn K cd0 "still_lines"=true) (k0:W.keepIn K (.ref f0)=true)
 (a1:W.nsIn K mainGlobals "first_fall"=some (some (.ref f1))) (l1:K.lookup f1=some ⟨oc1,od1,.func (W.fnOf "first_fall" "first_fall" (defArgs a70) (defBody a70) (defScope a70) .none kV1 dc1 pm1 an1 cd1 ct1),sl1⟩) (c1:W.codeIn K cd1 "first_fall"=true) (k1:W.keepIn K (.ref f1)=true)
 (a2:W.findIn K (.ref C_Hall) "__init__"=some (some (.ref f2))) (i2:W.isFn K (.ref f2)=true) (l2:K.lookup f2=some ⟨oc2,od2,.func (W.fnOf "__init__" "Hall.__init__" (defArgs a57) (defBody a57) (defScope a57) .none kV2 dc2 pm2 an2 cd2 ct2),sl2⟩) (c2:W.codeIn K cd2 "Hall.__init__"=true) (k2:W.keepIn K (.ref f2)=true)
 (a3:W.findIn K (.ref C_Hall) "begin"=some (some (.ref f3))) (i3:W.isFn K (.ref f3)=true) (l3:K.lookup f3=some ⟨oc3,od3,.func (W.fnOf "begin" "Hall.begin" (defArgs a65) (defBody a65) (defScope a65) .none kV3 dc3 pm3 an3 cd3 ct3),sl3⟩) (c3:W.codeIn K cd3 "Hall.begin"=true) (k3:W.keepIn K (.ref f3)=true)
 (a4:W.findIn K (.ref C_Hall) "step"=some (some (.ref f4))) (i4:W.isFn K (.ref f4)=true) (l4:K.lookup f4=some ⟨oc4,od4,.func (W.fnOf "step" "Hall.step" (defArgs a80) (defBody a80) (defScope a80) .none kV4 dc4 pm4 an4 cd4 ct4),sl4⟩) (c4:W.codeIn K cd4 "Hall.step"=true) (k4:W.keepIn K (.ref f4)=true)
 (a5:W.findIn K (.ref C_Hall) "ended_lines"=some (some (.ref f5))) (i5:W.isFn K (.ref f5)=true) (l5:K.lookup f5=some ⟨oc5,od5,.func (W.fnOf "ended_lines" "Hall.ended_lines" (defArgs a42) (defBody a42) (defScope a42) .none kV5 dc5 pm5 an5 cd5 ct5),sl5⟩) (c5:W.codeIn K cd5 "Hall.ended_lines"=true) (k5:W.keepIn K (.ref f5)=true)
 (a6:W.nsIn K mainGlobals "copied"=some (some (.ref f6))) (l6:K.lookup f6=some ⟨oc6,od6,.func (W.fnOf "copied" "copied" (defArgs aa8) (defBody aa8) (defScope aa8) .none kV6 dc6 pm6 an6 cd6 ct6),sl6⟩) (c6:W.codeIn K cd6 "copied"=true) (k6:W.keepIn K (.ref f6)=true)
 (a7:W.nsIn K mainGlobals "put_behind"=some (some (.ref f7))) (l7:K.lookup f7=some ⟨oc7,od7,.func (W.fnOf "put_behind" "put_behind" (defArgs a71) (defBody a71) (defScope a71) .none kV7 dc7 pm7 an7 cd7 ct7),sl7⟩) (c7:W.codeIn K cd7 "put_behind"=true) (k7:W.keepIn K (.ref f7)=true)
 (a8:W.nsIn K mainGlobals "settled_turn"=some (some (.ref f8))) (l8:K.lookup f8=some ⟨oc8,od8,.func (W.fnOf "settled_turn" "settled_turn" (defArgs a49) (defBody a49) (defScope a49) .none kV8 dc8 pm8 an8 cd8 ct8),sl8⟩) (c8:W.codeIn K cd8 "settled_turn"=true) (k8:W.keepIn K (.ref f8)=true)
 (a9:W.nsIn K mainGlobals "room_with"=some (some (.ref f9))) (l9:K.lookup f9=some ⟨oc9,od9,.func (W.fnOf "room_with" "room_with" (defArgs a73) (defBody a73) (defScope a73) .none kV9 dc9 pm9 an9 cd9 ct9),sl9⟩) (c9:W.codeIn K cd9 "room_with"=true) (k9:W.keepIn K (.ref f9)=true)
 (a10:W.nsIn K mainGlobals "places_by"=some (some (.ref f10))) (l10:K.lookup f10=some ⟨oc10,od10,.func (W.fnOf "places_by" "places_by" (defArgs a81) (defBody a81) (defScope a81) .none kV10 dc10 pm10 an10 cd10 ct10),sl10⟩) (c10:W.codeIn K cd10 "places_by"=true) (k10:W.keepIn K (.ref f10)=true)
 (a11:W.nsIn K mainGlobals "place_of"=some (some (.ref f11))) (l11:K.lookup f11=some ⟨oc11,od11,.func (W.fnOf "place_of" "place_of" (defArgs a88) (defBody a88) (defScope a88) .none kV11 dc11 pm11 an11 cd11 ct11),sl11⟩) (c11:W.codeIn K cd11 "place_of"=true) (k11:W.keepIn K (.ref f11)=true)
 (a12:W.findIn K (.ref C_TableMachine) "__init__"=some (some (.ref f12))) (i12:W.isFn K (.ref f12)=true) (l12:K.lookup f12=some ⟨oc12,od12,.func (W.fnOf "__init__" "TableMachine.__init__" (defArgs a31) (defBody a31) (defScope a31) .none kV12 dc12 pm12 an12 cd12 ct12),sl12⟩) (c12:W.codeIn K cd12 "TableMachine.__init__"=true) (k12:W.keepIn K (.ref f12)=true)
 (a13:W.findIn K (.ref C_TableMachine) "begin"=some (some (.ref f13))) (i13:W.isFn K (.ref f13)=true) (l13:K.lookup f13=some ⟨oc13,od13,.func (W.fnOf "begin" "TableMachine.begin" (defArgs a39) (defBody a39) (defScope a39) .none kV13 dc13 pm13 an13 cd13 ct13),sl13⟩) (c13:W.codeIn K cd13 "TableMachine.begin"=true) (k13:W.keepIn K (.ref f13)=true)
 (a14:W.findIn K (.ref C_TableMachine) "step"=some (some (.ref f14))) (i14:W.isFn K (.ref f14)=true) (l14:K.lookup f14=some ⟨oc14,od14,.func (W.fnOf "step" "TableMachine.step" (defArgs a43) (defBody a43) (defScope a43) .none kV14 dc14 pm14 an14 cd14 ct14),sl14⟩) (c14:W.codeIn K cd14 "TableMachine.step"=true) (k14:W.keepIn K (.ref f14)=true)
 (a15:W.findIn K (.ref C_TableMachine) "over"=some (some (.ref f15))) (i15:W.isFn K (.ref f15)=true) (l15:K.lookup f15=some ⟨oc15,od15,.func (W.fnOf "over" "TableMachine.over" (defArgs a44) (defBody a44) (defScope a44) .none kV15 dc15 pm15 an15 cd15 ct15),sl15⟩) (c15:W.codeIn K cd15 "TableMachine.over"=true) (k15:W.keepIn K (.ref f15)=true)
 (a16:W.nsIn K mainGlobals "_law_take"=some (some (.ref f16))) (l16:K.lookup f16=some ⟨oc16,od16,.func (W.fnOf "_law_take" "_law_take" (defArgs a89) (defBody a89) (defScope a89) .none kV16 dc16 pm16 an16 cd16 ct16),sl16⟩) (c16:W.codeIn K cd16 "_law_take"=true) (k16:W.keepIn K (.ref f16)=true)
 (a17:W.nsIn K mainGlobals "_law_cell"=some (some (.ref f17))) (l17:K.lookup f17=some ⟨oc17,od17,.func (W.fnOf "_law_cell" "_law_cell" (defArgs a90) (defBody a90) (defScope a90) .none kV17 dc17 pm17 an17 cd17 ct17),sl17⟩) (c17:W.codeIn K cd17 "_law_cell"=true) (k17:W.keepIn K (.ref f17)=true)
 (a18:W.nsIn K mainGlobals "_law_said"=some (some (.ref f18))) (l18:K.lookup f18=some ⟨oc18,od18,.func (W.fnOf "_law_said" "_law_said" (defArgs a91) (defBody a91) (defScope a91) .none kV18 dc18 pm18 an18 cd18 ct18),sl18⟩) (c18:W.codeIn K cd18 "_law_said"=true) (k18:W.keepIn K (.ref f18)=true)
 (a19:W.nsIn K mainGlobals "_law_table"=some (some (.ref f19))) (l19:K.lookup f19=some ⟨oc19,od19,.func (W.fnOf "_law_table" "_law_table" (defArgs a63) (defBody a63) (defScope a63) .none kV19 dc19 pm19 an19 cd19 ct19),sl19⟩) (c19:W.codeIn K cd19 "_law_table"=true) (k19:W.keepIn K (.ref f19)=true)
 (a20:W.nsIn K mainGlobals "_law_place"=some (some (.ref f20))) (l20:K.lookup f20=some ⟨oc20,od20,.func (W.fnOf "_law_place" "_law_place" (defArgs a74) (defBody a74) (defScope a74) .none kV20 dc20 pm20 an20 cd20 ct20),sl20⟩) (c20:W.codeIn K cd20 "_law_place"=true) (k20:W.keepIn K (.ref f20)=true)
 (a21:W.nsIn K mainGlobals "_law_turn"=some (some (.ref f21))) (l21:K.lookup f21=some ⟨oc21,od21,.func (W.fnOf "_law_turn" "_law_turn" (defArgs a92) (defBody a92) (defScope a92) .none kV21 dc21 pm21 an21 cd21 ct21),sl21⟩) (c21:W.codeIn K cd21 "_law_turn"=true) (k21:W.keepIn K (.ref f21)=true)
 (a22:W.nsIn K mainGlobals "_law_standing"=some (some (.ref f22))) (l22:K.lookup f22=some ⟨oc22,od22,.func (W.fnOf "_law_standing" "_law_standing" (defArgs a55) (defBody a55) (defScope a55) .none kV22 dc22 pm22 an22 cd22 ct22),sl22⟩) (c22:W.codeIn K cd22 "_law_standing"=true) (k22:W.keepIn K (.ref f22)=true)
 (a23:W.nsIn K mainGlobals "_law_still"=some (some (.ref f23))) (l23:K.lookup f23=some ⟨oc23,od23,.func (W.fnOf "_law_still" "_law_still" (defArgs a66) (defBody a66) (defScope a66) .none kV23 dc23 pm23 an23 cd23 ct23),sl23⟩) (c23:W.codeIn K cd23 "_law_still"=true) (k23:W.keepIn K (.ref f23)=true)
 (a24:W.nsIn K mainGlobals "_law_due"=some (some (.ref f24))) (l24:K.lookup f24=some ⟨oc24,od24,.func (W.fnOf "_law_due" "_law_due" (defArgs a85) (defBody a85) (defScope a85) .none kV24 dc24 pm24 an24 cd24 ct24),sl24⟩) (c24:W.codeIn K cd24 "_law_due"=true) (k24:W.keepIn K (.ref f24)=true)
 (a25:W.nsIn K mainGlobals "_law_found"=some (some (.ref f25))) (l25:K.lookup f25=some ⟨oc25,od25,.func (W.fnOf "_law_found" "_law_found" (defArgs a82) (defBody a82) (defScope a82) .none kV25 dc25 pm25 an25 cd25 ct25),sl25⟩) (c25:W.codeIn K cd25 "_law_found"=true) (k25:W.keepIn K (.ref f25)=true)
 (a26:W.nsIn K mainGlobals "_law_ring"=some (some (.ref f26))) (l26:K.lookup f26=some ⟨oc26,od26,.func (W.fnOf "_law_ring" "_law_ring" (defArgs a93) (defBody a93) (defScope a93) .none kV26 dc26 pm26 an26 cd26 ct26),sl26⟩) (c26:W.codeIn K cd26 "_law_ring"=true) (k26:W.keepIn K (.ref f26)=true)
 (a27:W.nsIn K mainGlobals "_law_keyed"=some (some (.ref f27))) (l27:K.lookup f27=some ⟨oc27,od27,.func (W.fnOf "_law_keyed" "_law_keyed" (defArgs a75) (defBody a75) (defScope a75) .none kV27 dc27 pm27 an27 cd27 ct27),sl27⟩) (c27:W.codeIn K cd27 "_law_keyed"=true) (k27:W.keepIn K (.ref f27)=true)
 (a28:W.nsIn K mainGlobals "_law_known"=some (some (.ref f28))) (l28:K.lookup f28=some ⟨oc28,od28,.func (W.fnOf "_law_known" "_law_known" (defArgs a58) (defBody a58) (defScope a58) .none kV28 dc28 pm28 an28 cd28 ct28),sl28⟩) (c28:W.codeIn K cd28 "_law_known"=true) (k28:W.keepIn K (.ref f28)=true)
 (a29:W.nsIn K mainGlobals "law"=some (some (.ref f29))) (l29:K.lookup f29=some ⟨oc29,od29,.func (W.fnOf "law" "law" (defArgs af0) (defBody af0) (defScope af0) .none kV29 dc29 pm29 an29 cd29 ct29),sl29⟩) (c29:W.codeIn K cd29 "law"=true) (k29:W.keepIn K (.ref f29)=true)
 (z_bool:W.nsIn K mainGlobals "bool"=some none)
 (z_enumerate:W.nsIn K mainGlobals "enumerate"=some none)
 (z_int:W.nsIn K mainGlobals "int"=some none)
 (z_isinstance:W.nsIn K mainGlobals "isinstance"=some none)
 (z_len:W.nsIn K mainGlobals "len"=some none)
 (z_list:W.nsIn K mainGlobals "list"=some none)
 (z_min:W.nsIn K mainGlobals "min"=some none)
 (z_range:W.nsIn K mainGlobals "range"=some none)
 (z_sum:W.nsIn K mainGlobals "sum"=some none)
 (z_tuple:W.nsIn K mainGlobals "tuple"=some none)
 (z_zip:W.nsIn K mainGlobals "zip"=some none)
 (xe_TooMany:W.excIn K C_TooMany [.type "ValueError",.type "Exception",.type "BaseException",.type "object"] "ValueError.__new__"=true)
 {u_QUIET:Value}(m_QUIET:W.nsIn K mainGlobals "QUIET"=some (some u_QUIET))
 {ad_QUIET:Addr}(r_QUIET:RelV (.ref ad_QUIET) u_QUIET)
 {u_MOST_STANDINGS:Value}(m_MOST_STANDINGS:W.nsIn K mainGlobals "MOST_STANDINGS"=some (some u_MOST_STANDINGS))
 (r_MOST_STANDINGS:RelV (.int 2000) u_MOST_STANDINGS)
 {u_MOST_WAITING:Value}(m_MOST_WAITING:W.nsIn K mainGlobals "MOST_WAITING"=some (some u_MOST_WAITING))
 (r_MOST_WAITING:RelV (.int 3) u_MOST_WAITING)
 {its_QUIET:Array Value}{nn_QUIET:Nat}{od_QUIET:Option Addr}{sl_QUIET:Array (Option Value)}(l_QUIET:K.lookup ad_QUIET=some ⟨.type "tuple",od_QUIET,.seq its_QUIET nn_QUIET,sl_QUIET⟩) (h_QUIET:its_QUIET.size≤sizeLine∧Vals [.str "quiet"] its_QUIET.toList),R)→R
theorem walk2 {l:W.OpenLaw}{q:Program}{loose:List Str}{XP:(Str→Option Value)→Heap→Prop}{YP:World→Heap→Prop}{d:DefRec}{K:Params→W.Frag}(hn:l.most=some 63) (hdf:d.params.defaults=[]) (hd:d.name="law") (hl:l=PySem.Challenge.rw_callmill_k90_first_fall) (hY:∀ (w:World) (h:Heap),YP w h→(K w.params).In h) (hF:∀ P,HF P (K P)) (G:∀ K:Params→W.Frag,(∀ P,HF P (K P))→(∀ (w:World) (mg:Str→Option Value) (fa:Addr) (h:Heap),(K w.params).In h→h.Ns mainGlobals mg→mg "law"=some (.ref fa)→∃ fd:FuncData,(∀ (s:Shared) (u:Value),BindsTo s fd ⟨[u],[]⟩ [("script",u)])∧∀ base:Heap,(K w.params).In base→base.Ns mainGlobals mg→FnOk PySem.Challenge.rw_callmill_k90_first_fall.prog w (K w.params) mg base CX0 7 fa fd ["script"] (am4 (K w.params)))):W.WalkO q loose XP YP l.row.toRowW d [] (fun f vs=>PySem.call f vs):=walk hn hdf hY (by rw [hd,hl]; exact G K hF)
section
open PySem PySem.W PyProof.Rows
local macro_rules | `(tactic| o_head $H) => `(tactic| refine holds_open (q := K90.view) (loose := []) (Xt := fun s => xlAt K90.view [] s && recOk (RowW.records _) s) (XP := XL K90.view []) (Yf := Hook.obs $H) (Ya := Hook.val $H) (YP := Hook.says $H) (N := 8000) ?hl (Hook.of $H) (Hook.keeps $H) (fun s e => xl_of s (Bool.and_eq_true_iff.mp e).1) XL.keeps (by rfl) (by rfl) (by rfl) (fun s e => recFacts_of (Bool.and_eq_true_iff.mp e).2) (by rfl) (by first | assumption | decide +kernel) (by decide +kernel) ⟨rfl, rfl, rfl, rfl, rfl, by decide +kernel⟩ ?hw ?hc)
set_option maxRecDepth 100000 in
set_option maxHeartbeats 0 in
theorem head (G:∀ K:Params→W.Frag,(∀ P,HF P (K P))→(∀ (w:World) (mg:Str→Option Value) (fa:Addr) (h:Heap),(K w.params).In h→h.Ns mainGlobals mg→mg "law"=some (.ref fa)→∃ fd:FuncData,(∀ (s:Shared) (u:Value),BindsTo s fd ⟨[u],[]⟩ [("script",u)])∧∀ base:Heap,(K w.params).In base→base.Ns mainGlobals mg→FnOk PySem.Challenge.rw_callmill_k90_first_fall.prog w (K w.params) mg base CX0 7 fa fd ["script"] (am4 (K w.params)))):PySem.Challenge.rw_callmill_k90_first_fall.Holds:=by
 w_on; o_law; k_head; (case hw=>w_witness2); (case hl=>intro w; kernel_rfl)
 k_fill
 refine K90.walk2 (l:=PySem.Challenge.rw_callmill_k90_first_fall) rfl rfl rfl rfl (fun w h Y=>W.kIn_of Y) ?facts G
 case facts =>
  intro P R kk
  refine' kk ?aC_MillError ?aC_TooMany ?aC_Machine ?aC_Hall ?pg_Hall ?hd_Hall ?po_Hall ?sa_Hall ?mk_Hall ?kc_Hall ?nF_Hall_lines ?nF_Hall_machines ?aC_TableMachine ?pg_TableMachine ?hd_TableMachine ?po_TableMachine ?sa_TableMachine ?mk_TableMachine ?kc_TableMachine ?nF_TableMachine_places ?nF_TableMachine_rooms ?nF_TableMachine_saying ?a0 ?l0 ?c0 ?k0 ?a1 ?l1 ?c1 ?k1 ?a2 ?i2 ?l2 ?c2 ?k2 ?a3 ?i3 ?l3 ?c3 ?k3 ?a4 ?i4 ?l4 ?c4 ?k4 ?a5 ?i5 ?l5 ?c5 ?k5 ?a6 ?l6 ?c6 ?k6 ?a7 ?l7 ?c7 ?k7 ?a8 ?l8 ?c8 ?k8 ?a9 ?l9 ?c9 ?k9 ?a10 ?l10 ?c10 ?k10 ?a11 ?l11 ?c11 ?k11 ?a12 ?i12 ?l12 ?c12 ?k12 ?a13 ?i13 ?l13 ?c13 ?k13 ?a14 ?i14 ?l14 ?c14 ?k14 ?a15 ?i15 ?l15 ?c15 ?k15 ?a16 ?l16 ?c16 ?k16 ?a17 ?l17 ?c17 ?k17 ?a18 ?l18 ?c18 ?k18 ?a19 ?l19 ?c19 ?k19 ?a20 ?l20 ?c20 ?k20 ?a21 ?l21 ?c21 ?k21 ?a22 ?l22 ?c22 ?k22 ?a23 ?l23 ?c23 ?k23 ?a24 ?l24 ?c24 ?k24 ?a25 ?l25 ?c25 ?k25 ?a26 ?l26 ?c26 ?k26 ?a27 ?l27 ?c27 ?k27 ?a28 ?l28 ?c28 ?k28 ?a29 ?l29 ?c29 ?k29 ?z_bool ?z_enumerate ?z_int ?z_isinstance ?z_len ?z_list ?z_min ?z_range ?z_sum ?z_tuple ?z_zip ?xe_TooMany ?m_QUIET ?r_QUIET ?m_MOST_STANDINGS ?r_MOST_STANDINGS ?m_MOST_WAITING ?r_MOST_WAITING ?l_QUIET ?h_QUIET
  (case aC_MillError=>k_is)
  (case aC_TooMany=>k_is)
  (case aC_Machine=>k_is)
  (case aC_Hall=>k_is)
  (case pg_Hall=>k_is)
  (case hd_Hall=>k_is)
  (case po_Hall=>k_is)
  (case sa_Hall=>k_is)
  (case mk_Hall=>k_is)
  (case kc_Hall=>k_is)
  (case nF_Hall_lines=>k_is)
  (case nF_Hall_machines=>k_is)
  (case aC_TableMachine=>k_is)
  (case pg_TableMachine=>k_is)
  (case hd_TableMachine=>k_is)
  (case po_TableMachine=>k_is)
  (case sa_TableMachine=>k_is)
  (case mk_TableMachine=>k_is)
  (case kc_TableMachine=>k_is)
  (case nF_TableMachine_places=>k_is)
  (case nF_TableMachine_rooms=>k_is)
  (case nF_TableMachine_saying=>k_is)
  (case a0=>k_is)
  (case l0=>k_is)
  (case c0=>k_is)
  (case k0=>k_is)
  (case a1=>k_is)
  (case l1=>k_is)
  (case c1=>k_is)
  (case k1=>k_is)
  (case a2=>k_is)
  (case i2=>k_is)
  (case l2=>k_is)
  (case c2=>k_is)
  (case k2=>k_is)
  (case a3=>k_is)
  (case i3=>k_is)
  (case l3=>k_is)
  (case c3=>k_is)
  (case k3=>k_is)
  (case a4=>k_is)
  (case i4=>k_is)
  (case l4=>k_is)
  (case c4=>k_is)
  (case k4=>k_is)
  (case a5=>k_is)
  (case i5=>k_is)
  (case l5=>k_is)
  (case c5=>k_is)
  (case k5=>k_is)
  (case a6=>k_is)
  (case l6=>k_is)
  (case c6=>k_is)
  (case k6=>k_is)
  (case a7=>k_is)
  (case l7=>k_is)
  (case c7=>k_is)
  (case k7=>k_is)
  (case a8=>k_is)
  (case l8=>k_is)
  (case c8=>k_is)
  (case k8=>k_is)
  (case a9=>k_is)
  (case l9=>k_is)
  (case c9=>k_is)
  (case k9=>k_is)
  (case a10=>k_is)
  (case l10=>k_is)
  (case c10=>k_is)
  (case k10=>k_is)
  (case a11=>k_is)
  (case l11=>k_is)
  (case c11=>k_is)
  (case k11=>k_is)
  (case a12=>k_is)
  (case i12=>k_is)
  (case l12=>k_is)
  (case c12=>k_is)
  (case k12=>k_is)
  (case a13=>k_is)
  (case i13=>k_is)
  (case l13=>k_is)
  (case c13=>k_is)
  (case k13=>k_is)
  (case a14=>k_is)
  (case i14=>k_is)
  (case l14=>k_is)
  (case c14=>k_is)
  (case k14=>k_is)
  (case a15=>k_is)
  (case i15=>k_is)
  (case l15=>k_is)
  (case c15=>k_is)
  (case k15=>k_is)
  (case a16=>k_is)
  (case l16=>k_is)
  (case c16=>k_is)
  (case k16=>k_is)
  (case a17=>k_is)
  (case l17=>k_is)
  (case c17=>k_is)
  (case k17=>k_is)
  (case a18=>k_is)
  (case l18=>k_is)
  (case c18=>k_is)
  (case k18=>k_is)
  (case a19=>k_is)
  (case l19=>k_is)
  (case c19=>k_is)
  (case k19=>k_is)
  (case a20=>k_is)
  (case l20=>k_is)
  (case c20=>k_is)
  (case k20=>k_is)
  (case a21=>k_is)
  (case l21=>k_is)
  (case c21=>k_is)
  (case k21=>k_is)
  (case a22=>k_is)
  (case l22=>k_is)
  (case c22=>k_is)
  (case k22=>k_is)
  (case a23=>k_is)
  (case l23=>k_is)
  (case c23=>k_is)
  (case k23=>k_is)
  (case a24=>k_is)
  (case l24=>k_is)
  (case c24=>k_is)
  (case k24=>k_is)
  (case a25=>k_is)
  (case l25=>k_is)
  (case c25=>k_is)
  (case k25=>k_is)
  (case a26=>k_is)
  (case l26=>k_is)
  (case c26=>k_is)
  (case k26=>k_is)
  (case a27=>k_is)
  (case l27=>k_is)
  (case c27=>k_is)
  (case k27=>k_is)
  (case a28=>k_is)
  (case l28=>k_is)
  (case c28=>k_is)
  (case k28=>k_is)
  (case a29=>k_is)
  (case l29=>k_is)
  (case c29=>k_is)
  (case k29=>k_is)
  (case z_bool=>k_is)
  (case z_enumerate=>k_is)
  (case z_int=>k_is)
  (case z_isinstance=>k_is)
  (case z_len=>k_is)
  (case z_list=>k_is)
  (case z_min=>k_is)
  (case z_range=>k_is)
  (case z_sum=>k_is)
  (case z_tuple=>k_is)
  (case z_zip=>k_is)
  (case xe_TooMany=>kernel_rfl)
  (case m_QUIET=>k_is)
  (case r_QUIET=>exact rfl)
  (case m_MOST_STANDINGS=>k_is)
  (case r_MOST_STANDINGS=>exact ⟨_,rfl⟩)
  (case m_MOST_WAITING=>k_is)
  (case r_MOST_WAITING=>exact ⟨_,rfl⟩)
  (case l_QUIET=>k_is)
  (case h_QUIET=>exact ⟨Nat.le_of_lt (L2.small1000 (by decide)),.cons ⟨_,rfl⟩ (.nil)⟩)
end
end K90
namespace L2
open PySem PySem.Spec PyProof.Rows
section
variable {κ:Type} [DecidableEq κ]
def valV (kvs:List (κ×V)) (k:κ):Option V:=(kvs.find? fun kv=>decide (kv.1=k)).map (·.2)
def putK (kvs:List (κ×V)) (k:κ) (v:V):List (κ×V) :=
 if (kvs.any fun kv=>decide (kv.1=k))=true then kvs.map (fun kv=>if kv.1=k then (kv.1,v) else kv) else kvs++[(k,v)]
theorem aa2 {p:κ×V}{r:List (κ×V)}{k:κ}(e:p.1=k):valV (p::r) k=some p.2:=by simp [valV,List.find?_cons,e]
theorem aa3 {p:κ×V}{r:List (κ×V)}{k:κ}(e:¬ p.1=k):valV (p::r) k=valV r k:=by simp [valV,List.find?_cons,e]
theorem ai7 (k:κ):∀ kvs:List (κ×V),(kvs.any fun kv=>decide (kv.1=k))=(valV kvs k).isSome
 | []=>rfl
 | p::r=>by
   rw [List.any_cons]
   by_cases e:p.1=k
   · simp only [aa2 e,decide_eq_true e,Bool.true_or,Option.isSome_some]
   · rw [aa3 e,decide_eq_false e,Bool.false_or]; exact ai7 k r
theorem ay4 (k j:κ) (y:V):∀ kvs:List (κ×V),valV (kvs.map fun kv=>if kv.1=k then (kv.1,y) else kv) j=(valV kvs j).map fun x=>if j=k then y else x
 | []=>rfl
 | p::r=>by
   have ih:=ay4 k j y r
   rw [List.map_cons]
   by_cases h:p.1=k
   · rw [if_pos h]
     by_cases e:p.1=j
     · rw [aa2 (p:=(p.1,y)) e,aa2 e,Option.map_some,if_pos (e.symm.trans h)]
     · rw [aa3 (p:=(p.1,y)) e,aa3 e,ih]
   · rw [if_neg h]
     by_cases e:p.1=j
     · rw [aa2 (p:=p) e,aa2 e,Option.map_some,if_neg (fun z=>h (e.trans z))]
     · rw [aa3 (p:=p) e,aa3 e,ih]
theorem af1 (k j:κ) (y:V):∀ kvs:List (κ×V),valV kvs k=none→valV (kvs++[(k,y)]) j=if j=k then some y else valV kvs j
 | [],_=>by
   by_cases e:k=j
   · rw [if_pos e.symm]; exact aa2 (p:=(k,y)) e
   · rw [if_neg (fun z=>e z.symm)]; exact aa3 (p:=(k,y)) e
 | p::r,hn=>by
   rw [List.cons_append]
   have hk:¬ p.1=k:=fun z=>by rw [aa2 z] at hn; cases hn
   rw [aa3 hk] at hn
   have ih:=af1 k j y r hn
   by_cases e:p.1=j
   · rw [aa2 e,aa2 e,if_neg (fun z=>hk (e.trans z))]
   · rw [aa3 e,aa3 e,ih]
theorem ay5 (kvs:List (κ×V)) (k j:κ) (y:V):valV (putK kvs k y) j=if j=k then some y else valV kvs j:=by
 unfold putK
 by_cases a:(kvs.any fun kv=>decide (kv.1=k))=true
 · rw [if_pos a,ay4]
   rw [ai7] at a
   by_cases e:j=k
   · obtain ⟨x,hx⟩:=Option.isSome_iff_exists.mp a
     rw [if_pos e,e,hx,Option.map_some,if_pos rfl]
   · rw [if_neg e]
     cases valV kvs j with
     | none=>rfl
     | some x=>rw [Option.map_some,if_neg e]
 · rw [if_neg a]
   refine af1 k j y kvs ?_
   rw [ai7] at a
   cases q:valV kvs k with
   | none=>rfl
   | some x=>rw [q] at a; exact (a rfl).elim
theorem ae3 (kvs:List (κ×V)) (k:κ) (v:V):(putK kvs k v).length≤kvs.length+1:=by
 unfold putK
 split
 · rw [gL]; omega
 · rw [List.length_append,List.length_cons,List.length_nil]; omega
theorem ay6 {kvs:List (κ×V)}{k:κ}(v:V) (h:valV kvs k=none):putK kvs k v=kvs++[(k,v)]:=by
 unfold putK
 rw [ai7,h]
 exact if_neg (by decide)
theorem RelO.isSome_eq {o:Option V}{u:Option Value}(r:RelO o u):o.isSome=u.isSome:=by
 cases o with
 | none=>cases u with
   | none=>rfl
   | some _=>exact (show False from r).elim
 | some _=>cases u with
   | none=>exact (show False from r).elim
   | some _=>rfl
theorem RelO.getD {o:Option V}{u:Option Value}{d:V}{d':Value}(r:RelO o u) (rd:RelV d d'):RelV (o.getD d) (u.getD d'):=by
 cases o with
 | none=>cases u with
   | none=>exact rd
   | some _=>exact (show False from r).elim
 | some _=>cases u with
   | none=>exact (show False from r).elim
   | some _=>exact r
end
section
variable {P:Program}{w:World}{H:Hp}{h:Heap}{a:Addr}
end
section
variable {X:Cx}{pins:List (Addr×Obj)}{σ:St} {H:Hp}{s:Shared}{a:Addr}{y v:V}{u r:Value}{o:Option V}{A:Around}{E:Value→Shared→Prop}
theorem Inv.big (I:Inv X pins σ H s):sysModules<s.heap.objs.size:=by
 have h:mainGlobals<s.heap.objs.size:=(I.mod.glob.keeps I.bk).lt
 exact Nat.lt_trans (by decide) h
theorem b85 {h':Heap}{t':Nat}{ob:HO}(I:Inv X pins σ H s) (mu:Mut (H a)) (hs:Heap.SameBut a s.heap h') (he:∃ q,h'.get? a=some q) (new:ObjOk X.prog X.w (upd H a ob) h' a ob) :
 Inv X pins σ (upd H a ob) { s with heap:=h',toks:=t' } :=
 I.write (x:=a) (e:=a) mu (.inl rfl) (fun b q hb z=>(hs.2 b hb).trans z) he new
end
section
variable {X:Cx}{pins:List (Addr×Obj)}{σ:St} {H:Hp}{s:Shared}{a:Addr}{kvs:List (Key×V)}{k:Key}{u:Value}{A:Around}{E:Value→Shared→Prop}
end
def NoSl (i:Expr):Prop:=∀ ov iv,subscripted i false ov iv=operate [ov,iv] (getItem ov iv)
theorem b86 {prog:Program}{w:World}{A:Around}{E:Value→Shared→Prop}{s:Shared}{env:Env}{value slice:Expr}{pos:Pos}{T id:String}{Q:Value→Shared→Prop}
 (hl:typeLookup (.type T) "__getitem__"=pure (some (.builtin id))) (hs:NoSl slice)
 (h:wpAny (model prog w) A (eval value env) (fun o s₁=>wpAny (model prog w) A (eval slice env) (fun i s₂=>s₂.TypeIs o T∧wpAny (model prog w) A (getItem o i) Q E s₂) E s₁) E s) :
 wpAny (model prog w) A (eval (.Subscript value slice pos) env) Q E s:=by
 refine Subscript_ (wpAny_mono h (fun o s₁ h₁=>wpAny_mono h₁ (fun i s₂ h₂=>?_) fun _ _ x=>x) fun _ _ x=>x)
 obtain ⟨hT,h₂⟩:=h₂
 unfold subscriptTail
 refine wB ?_
 rw [getitemInPython_of_ne hT.not_modules]
 refine wB (wpAny_specialOf hT hl ?_)
 have fin:wpAny (model prog w) A (subscripted slice false o i) (fun r s₃=>wpAny (model prog w) A (letTemporaryGo value o r >>= fun _=>pure r) Q E s₃) E s₂:=by
  rw [hs o i]
  exact wpAny_operating (wpAny_mono h₂ (fun r s₃ h₃=>wB (wpAny_letTemporaryGo (wpAny_pure h₃))) fun _ _ x=>x)
 first
  | exact wpAny_pure (wB fin)
  | exact wB (wpAny_pure (wB fin))
  | exact wB fin
section
variable {X:Cx}{o i e value:Expr}{pos pos' tpos:Pos}{td ty tv:TE}
end
section
variable {X:Cx}{pos:Pos}
end
structure M2 (X:Cx) (o:Expr) (m:Str) (apos:Pos) (e f:Expr) (cpos:Pos):Prop where
 base:attributeBase o m X.env (eval o X.env)=eval o X.env
 few:((backTo cpos (starEach [e,f] X.env)).all (fun x=>!x.1) && (backToKw cpos (keywordEach [] X.env)).all (fun x=>x.1.isSome)
  && decide (([e,f]:List Expr).length+([]:List Keyword).length+(if ([]:List Keyword).isEmpty then 0 else 1)<30))=true
 line:(apos.endLine == cpos.line)=true
 trees:backTo cpos (starEach [e,f] X.env)=[(false,eval e X.env),(false,eval f X.env)]
section
variable {X:Cx}{pins:List (Addr×Obj)}{σ:St} {H:Hp}{s:Shared}{a:Addr}{y d:V}{u r:Value}{o:Option V}{A:Around}{E:Value→Shared→Prop}
end
section
variable {X:Cx}{o e f:Expr}{apos cpos:Pos}{td ty tx:TE}
end
section
variable {X:Cx}{pins:List (Addr×Obj)}{σ:St} {H:Hp}{s:Shared}{a:Addr}{kvs:List (Key×V)}{A:Around}{E:Value→Shared→Prop}
end
section
variable {X:Cx}{pins:List (Addr×Obj)}{σ:St} {H:Hp}{s:Shared}{a:Addr}{y:V}{u:Value}{A:Around}{E:Value→Shared→Prop}
end
section
variable {κ:Type} [DecidableEq κ]
theorem b87:∀ {l:List κ}{k:κ},l.Nodup→¬ k∈l→(l++[k]).Nodup
 | [],k,_,_=>by simp
 | a::r,k,h,hk=>by
   obtain ⟨h1,h2⟩:=List.nodup_cons.mp h
   show (a::(r++[k])).Nodup
   refine List.nodup_cons.mpr ⟨fun m=>?_,b87 h2 fun m=>hk (List.mem_cons.mpr (Or.inr m))⟩
   rcases gA m with q | q
   · exact h1 q
   · exact hk (List.mem_cons.mpr (Or.inl (gG q).symm))
end
def cxC (X:Cx) (N:List Str) (scope:Scope) (cl:List (Str×Addr)) (C:Addr) (s0:Shared) (H0:Hp) (ex:List Addr):Cx :=
 { X with N:=N,s₀:=s0,H₀:=H0,env:=compEnvC scope cl C X.env,outer:=X.stack,stack:=X.stack,ex:=ex,fn:=fun _=>false,pn:=[],xe:=fun _ _=>False }
theorem am5 {env : Env} (has : ∀ x, (env.kindOf x = some .cell ∨ env.kindOf x = some .free) → ∃ c, env.cells.lookup x = some c) {scope : Scope}
    (hf : ∀ y ∈ scope.names, y.2 = .free → env.kindOf y.1 = some .cell ∨ env.kindOf y.1 = some .free) :
    ∃ cl, closureFor scope env = pure cl ∧ (∀ x c, cl.lookup x = some c → env.cells.lookup x = some c) ∧ (∀ y ∈ scope.names, y.2 = .free → ∃ c, cl.lookup y.1 = some c) := by
  have gen : ∀ (names : List (Str × NameKind)) (cs : List (Str × Addr)), (∀ y ∈ names, y.2 = .free → env.kindOf y.1 = some .cell ∨ env.kindOf y.1 = some .free) →
      (∀ x c, cs.lookup x = some c → env.cells.lookup x = some c) →
      ∃ cl, (forIn (m := Sem) names cs fun p r => do
          match p with
          | (name, kind) => if kind == .free then do let c ← cellOf env name; pure (ForInStep.yield ((name, c) :: r)) else pure (ForInStep.yield r)) = pure cl ∧
        (∀ x c, cl.lookup x = some c → env.cells.lookup x = some c) ∧ (∀ x c, cs.lookup x = some c → ∃ c, cl.lookup x = some c) ∧ (∀ y ∈ names, y.2 = .free → ∃ c, cl.lookup y.1 = some c) := by
    intro names
    induction names with
    | nil => intro cs _ h; exact ⟨cs, rfl, h, fun x c e => ⟨c, e⟩, fun y hy => nomatch hy⟩
    | cons p r ih =>
      intro cs hp h
      obtain ⟨n, k⟩ := p
      by_cases hk : k = .free
      · subst hk
        obtain ⟨c, hc⟩ := has n (hp (n, .free) List.mem_cons_self rfl)
        have h' : ∀ x d, ((n, c) :: cs).lookup x = some d → env.cells.lookup x = some d := by
          intro x d e
          rw [List.lookup_cons] at e
          cases hx : x == n with
          | true =>
            rw [hx] at e
            have : x = n := by simpa using hx
            cases e; rw [this]; exact hc
          | false => rw [hx] at e; exact h x d e
        obtain ⟨cl, e1, e2, e3, e4⟩ := ih ((n, c) :: cs) (fun y hy => hp y (List.mem_cons_of_mem _ hy)) h'
        have hn : ∃ d, cl.lookup n = some d := e3 n c (by simp [List.lookup_cons])
        refine ⟨cl, ?_, e2, fun x d e => ?_, fun y hy hyk => ?_⟩
        · rw [List.forIn_cons]
          have : cellOf env n = pure c := by unfold cellOf; rw [hc]
          simp only [beq_self_eq_true, if_true, this]
          exact e1
        · by_cases hx : x = n
          · subst hx; exact hn
          · exact e3 x d (by rw [List.lookup_cons]; have : (x == n) = false := by simpa using hx
                             rw [this]; exact e)
        · rcases List.mem_cons.mp hy with rfl | hy
          · exact hn
          · exact e4 y hy hyk
      · obtain ⟨cl, e1, e2, e3, e4⟩ := ih cs (fun y hy => hp y (List.mem_cons_of_mem _ hy)) h
        refine ⟨cl, ?_, e2, e3, fun y hy hyk => ?_⟩
        · rw [List.forIn_cons]
          have : (k == NameKind.free) = false := by simpa using hk
          simp only [this]
          exact e1
        · rcases List.mem_cons.mp hy with rfl | hy
          · exact absurd hyk hk
          · exact e4 y hy hyk
  obtain ⟨cl, e1, e2, _, e4⟩ := gen scope.names [] hf (fun x c e => nomatch e)
  refine ⟨cl, ?_, e2, e4⟩
  unfold closureFor
  simp only []
  exact congrArg (· >>= fun cs => pure cs) e1 |>.trans rfl
theorem ar8 {scope:Scope}{env:Env}{x:Str}{k:NameKind}(h:(relabel scope env).names.lookup x=some k) (hk:k=.cell∨k=.free) (nc:∀ y∈scope.names,y.2≠.cell):∃ y∈scope.names,y.1=x∧y.2=.free:=by
 have gen:∀ names:List (Str×NameKind),(names.map fun (n,k)=>if (k == NameKind.free && env.scope.kind == .function && env.kindOf n == some .cell) then (n,NameKind.cell) else (n,k)).lookup x=some k→(∀ y∈names,y.2≠.cell) →
  ∃ y∈names,y.1=x∧y.2=.free:=by
  intro names
  induction names with
  | nil=>intro h _; cases h
  | cons p r ih =>
    obtain ⟨n,j⟩:=p
    intro h nc
    rw [List.map_cons,List.lookup_cons] at h
    have e1:(if (j == NameKind.free && env.scope.kind == .function && env.kindOf n == some .cell)=true then (n,NameKind.cell) else (n,j)).1=n:=by split <;> rfl
    dsimp only at h
    rw [e1] at h
    cases hx:x == n with
    | false =>
      rw [hx] at h
      obtain ⟨y,hy,q⟩:=ih h fun y hy=>nc y (List.mem_cons_of_mem _ hy)
      exact ⟨y,List.mem_cons_of_mem _ hy,q⟩
    | true =>
      rw [hx] at h
      have ex:x=n:=by simpa using hx
      have hj:j=.free:=by
       by_cases hc:(j == NameKind.free && env.scope.kind == .function && env.kindOf n == some .cell)=true
       · have:=(Bool.and_eq_true _ _).mp ((Bool.and_eq_true _ _).mp hc).1
         simpa using this.1
       · rw [if_neg hc] at h
         cases h
         rcases hk with z | z
         · exact absurd z (nc (n,j) List.mem_cons_self)
         · exact z
      exact ⟨(n,j),List.mem_cons_self,ex.symm,hj⟩
 exact gen scope.names h nc
section
variable {X:Cx}{pins:List (Addr×Obj)}{σ:St} {H:Hp}{s:Shared}{N:List Str}{scope:Scope}{cl:List (Str×Addr)}{C:Addr}{ex:List Addr}
theorem bx1 (I:Inv X pins σ H s) (hC:s.heap.objs.size≤C) (hkind:scope.kind=.function) (nc:∀ y∈scope.names,y.2≠.cell)
 (hcl:∀ x c,cl.lookup x=some c→X.env.cells.lookup x=some c) (hcf:∀ y∈scope.names,y.2=.free→∃ c,cl.lookup y.1=some c)
 (hex:∀ b∈ex,FpOk X pins H b) (hexl:∀ b∈ex,b<s.heap.objs.size):(cxC X N scope cl C s H ex).Ok where
 mod:=I.ok.mod
 kind:=hkind
 glob:=I.ok.glob
 blt:=I.ok.blt
 above:=hC
 inj:=fun x y c h1 h2=>I.ok.inj x y c (hcl x c h1) (hcl y c h2)
 has:=fun x hx=>by
  have hx':∃ k,(relabel scope X.env).names.lookup x=some k∧(k=.cell∨k=.free):=by
   rcases hx with h | h
   · exact ⟨_,h,.inl rfl⟩
   · exact ⟨_,h,.inr rfl⟩
  obtain ⟨k,h,hk⟩:=hx'
  obtain ⟨y,hy,e1,e2⟩:=ar8 h hk nc
  rw [← e1]
  exact hcf y hy e2
 cab:=fun x c h=>by cases h
 hd:=I.ok.hd
 frames:=I.ok.frames
 stk:=.inl rfl
 exf:=fun b hb=>⟨Nat.ne_of_lt (Nat.lt_of_lt_of_le (hexl b hb) hC),fun x c e=>(hex b hb).2.2.2.2.1 x c (hcl x c e)⟩
 bs:=I.bs
 bsz:=Nat.le_trans I.ok.bsz I.sz
 noex:=fun b o e hb=>by
  rcases (hex b hb).2.2.2.1 with z | z
  · exact I.ok.noex b o e z
  · have h1:=Heap.lt_size e
    have h2:=I.ok.bsz
    exact absurd (Nat.lt_of_lt_of_le h1 (Nat.le_trans h2 z)) (Nat.lt_irrefl _)
 exfs:=fun b hb z=>by
  have h1:=I.stkSub b z
  rcases List.mem_cons.mp h1 with z | z
  · exact (hex b hb).2.1 z
  · exact (hex b hb).2.2.1 z
 funs:=I.stack
 frf:=I.stkFree
def capV (caps:List Nat) (σ:St):St:=caps.map fun j=>(σ[j]?).join
def cSt (n:Nat) (caps:List Nat) (σ:St):St:=List.replicate n none++capV caps σ
theorem bo7 {caps:List Nat}{Nt Nf:List Str}{s1:Shared}{m:Str→Option Value}(I:Inv X pins σ H s) (ok:(cxC X (Nt++Nf) scope cl C s H ex).Ok)
 (hcl:∀ x c,cl.lookup x=some c→X.env.cells.lookup x=some c)
 (hcap:caps.map (fun j=>X.N[j]?)=Nf.map some)
 (hvis:∀ x∈Nf,scope.names.lookup x=some .free) (hXv:∀ x∈Nf,X.env.kindOf x=some .cell∨X.env.kindOf x=some .free) (hcf:∀ x∈Nf,∃ c,cl.lookup x=some c)
 (hos:s1.os=s.os) (hgens:s1.gens=s.gens) (hk:∀ b o,s.heap.get? b=some o→s1.heap.get? b=some o) (hns:s1.heap.Ns C m) (hC:s.heap.objs.size≤C) :
 Inv (cxC X (Nt++Nf) scope cl C s H ex) [] (cSt Nt.length caps σ) H s1:=by
 have hlen:caps.length=Nf.length:=by
  have:=congrArg List.length hcap
  simpa using this
 refine ⟨ok,hos,by rw [hgens]; exact I.bare,Un.kept hk,⟨m,hns,fun i x v h1 h2 h3=>?_⟩,fun x c e=>?_,I.hok.fresh hC,fun x c e=>I.freeC x c (hcl x c e),fun p hp=>absurd (show p∈([]:List (Addr×Obj)) from hp) (by simp),I.hok.kept hk,?_⟩
 · -- a captured name
   have hi:Nt.length≤i:=by
    refine Nat.le_of_not_lt fun q=>?_
    unfold cSt at h2
    rw [List.getElem?_append_left (by simpa using q),List.getElem?_replicate] at h2
    split at h2 <;> cases h2
   have h1':Nf[i - Nt.length]?=some x:=by
    have:(Nt++Nf)[i]?=some x:=h1
    rwa [List.getElem?_append_right hi] at this
   unfold cSt at h2
   rw [List.getElem?_append_right (by simpa using hi)] at h2
   have e0:i - (List.replicate Nt.length (none:Option V)).length=i - Nt.length:=by simp
   rw [e0] at h2
   generalize hj:i - Nt.length=j at h1' h2
   unfold capV at h2
   rw [gM] at h2
   cases hc:caps[j]? with
   | none=>rw [hc] at h2; cases h2
   | some jj =>
     rw [hc] at h2
     have h2':(σ[jj]?).join=some v:=Option.some.inj h2
     have h2'':σ[jj]?=some (some v):=by
      cases q:σ[jj]? with
      | none=>rw [q] at h2'; cases h2'
      | some z=>rw [q] at h2'; cases z with
        | none=>cases h2'
        | some z'=>cases h2'; rfl
     have hN:X.N[jj]?=some x:=by
      have q:=congrArg (fun l=>l[j]?) hcap
      simp only [gM,hc,h1',Option.map_some] at q
      exact Option.some.inj q
     have hx:x∈Nf:=gI h1'
     have hXk:=hXv x hx
     obtain ⟨mX,_,hl⟩:=I.loc
     obtain ⟨u,ru,lk⟩:=hl jj x v hN h2'' (by
      rcases hXk with z | z
      · exact .inr (.inl z)
      · exact .inr (.inr z))
     refine ⟨u,ru,.inr ?_⟩
     rcases lk with ⟨z,_⟩ | ⟨_,c,hc1,hcell⟩
     · rcases hXk with y | y <;> (rw [z] at y; cases y)
     · obtain ⟨c',hc'⟩:=hcf x hx
       have e:=hcl x c' hc'
       rw [hc1] at e; cases e
       refine ⟨?_,c,hc',?_⟩
       · rcases h3 with z | z | z
         · -- not a local of the block
           exfalso
           have hfree:=hvis x hx
           have z':(relabel scope X.env).names.lookup x=some .local:=z
           have gen:∀ names:List (Str×NameKind),names.lookup x=some .free→(names.map fun (n,k)=>if (k == NameKind.free && X.env.scope.kind == .function && X.env.kindOf n == some .cell) then (n,NameKind.cell) else (n,k)).lookup x≠some .local:=by
            intro names
            induction names with
            | nil=>intro h; cases h
            | cons p r ih =>
              obtain ⟨n,k⟩:=p
              intro h
              rw [List.map_cons,List.lookup_cons]
              rw [List.lookup_cons] at h
              have e1:(if (k == NameKind.free && X.env.scope.kind == .function && X.env.kindOf n == some .cell)=true then (n,NameKind.cell) else (n,k)).1=n:=by split <;> rfl
              dsimp only
              rw [e1]
              cases hx:x == n with
              | false=>rw [hx] at h; exact ih h
              | true =>
                rw [hx] at h
                cases h
                show some (if _ then (n,NameKind.cell) else (n,NameKind.free)).2≠some .local
                split <;> (intro q; cases q)
           exact gen scope.names hfree z'
         · exact .inl z
         · exact .inr z
       · obtain ⟨o,eo,d⟩:=hcell
         exact ⟨o,hk _ _ eo,d⟩
 · obtain ⟨v,q⟩:=I.cell x c (hcl x c e)
   obtain ⟨o,eo,d⟩:=q
   exact ⟨v,o,hk _ _ eo,d⟩
 · show (cSt Nt.length caps σ).length=(Nt++Nf).length
   unfold cSt capV
   simp [hlen]
end
abbrev askIfs (ifs:List Expr) (env:Env):Sem Bool:=forIn ifs true fun c r=>if r=true then do let ok←isTrue c env (eval c env); pure (ForInStep.yield ok) else pure (ForInStep.yield r)
abbrev NoX:Value→Shared→Prop:=fun _ _=>False
theorem ar9 {P:Program}{w:World}{B:Around}{R:Result→Shared→Prop}{s:Shared}{y tg l:Expr}{cs:List Expr}{sc:Scope}{ps:Pos}{iv av:Value}{en:Env}(G:Nat→Shared→Prop)
 (one:∀ n s,G n s→wpAny (model P w) B (pyNext iv) (fun r s1=>match r with
  | none=>R (.ok .next) s1
  | some v=>wpAny (model P w) B (letOwnedTupleGo tg iv v) (fun _ s1=>wpAny (model P w) B (assign tg en v) (fun _ s2=>wpAny (model P w) B (askIfs cs en) (fun k s3 =>
   if k=true then wpAny (model P w) B (eval y en) (fun x s4=>wpAny (model P w) B (call (.builtin "list.append") [av,x]) (fun _ s5=>∃ m,m<n∧G m s5) NoX s4) NoX s3
   else ∃ m,m<n∧G m s3) NoX s2) NoX s1) NoX s1) NoX s) (n:Nat) (h:G n s) :
 codeAny (model P w) B (.compLoop (.ListComp y [⟨tg,l,cs,0⟩] sc ps) 0 iv av en) R s:=by
 refine codeAny_loop rfl G (fun n s hG=>?_) n h
 show wpAny _ B ((compTurn (.ListComp y [⟨tg,l,cs,0⟩] sc ps) 0 iv av en).onRaise (fun x=>do noteFrame x en; theTreesLotGoes x)) _ _ s
 refine wpAny_noted ?_
 rw [compTurn_list]
 refine wB (wpAny_standAt (wB (wpAny_mono (one n s hG) (fun r s1 h1=>?_) fun _ _ z=>z.elim)))
 cases r with
 | none=>exact wpAny_pure h1
 | some v =>
   refine wB (wpAny_mono h1 (fun _ s1' h1'=>?_) fun _ _ z=>z.elim)
   refine wB (wpAny_mono h1' (fun _ s2 h2=>wB (wpAny_mono h2 (fun k s3 h3=>?_) fun _ _ z=>z.elim)) fun _ _ z=>z.elim)
   cases k with
   | false=>exact wpAny_pure ⟨rfl,h3⟩
   | true=>exact wB (wB (wpAny_mono h3 (fun x s4 h4=>wB (wpAny_mono h4 (fun _ s5 h5=>wpAny_pure (wpAny_pure ⟨rfl,h5⟩)) fun _ _ z=>z.elim)) fun _ _ z=>z.elim))
def PTs (X:Cx) (ifs:List Expr) (t:TT):Prop :=
 ∀ (pins:List (Addr×Obj)) (s:Shared) (σ:St) (H:Hp) (Q:Bool→Hp→Prop),Inv X pins σ H s→t σ H Q →
  wpAny (model X.prog X.w) X.A (askIfs ifs X.env) (TP X pins σ Q) X.xe s
def tNoIf:TT:=fun _ H Q=>Q true H
theorem a59 {X:Cx}:PTs X [] tNoIf:=fun pins s σ H Q I h=>wpAny_tests_nil ⟨H,I,h⟩
theorem av7 {X:Cx}{c:Expr}{t:TT}(h:PT X c t):PTs X [c] t:=fun pins s σ H Q I q=>wpAny_tests_one (h pins s σ H Q I q)
section
variable {X:Cx}{pins:List (Addr×Obj)}{σ:St} {H:Hp}{s:Shared}
theorem Inv.adopt {D:Addr}{o:HO}(I:Inv X pins σ H s) (hD:H D=none) (h1:X.s₀.heap.objs.size≤D) (h2:D≠X.env.locals) (h3:∀ x c,X.env.cells.lookup x=some c→c≠D) (h4:∀ p∈X.pn++pins,p.1≠D)
 (new:ObjOk X.prog X.w (upd H D o) s.heap D o):Inv X pins σ (upd H D o) s:=by
 have old:∀ {b:Addr}{q:Obj},X.s₀.heap.get? b=some q→b≠D:=fun e=>Nat.ne_of_lt (Nat.lt_of_lt_of_le (Heap.lt_size e) h1)
 refine ⟨I.ok,I.os,I.bare,⟨I.base.keep,I.base.slot,fun b q e n hx=>by rw [a09 (old e)]; exact I.base.free b q e n hx,I.base.there,fun b xs e=>?_,fun b q u e=>?_,fun b ps e=>?_⟩,I.loc,I.cell,by rw [a09 (Ne.symm h2)]; exact I.free,fun x c e=>by rw [a09 (h3 x c e)]; exact I.freeC x c e,fun p hp=>?_,fun b u e=>?_,I.len⟩
 · have e':=I.base.tups b xs e
   rw [a09 (a06 e' hD)]; exact e'
 · have e':=I.base.frzs b q u e
   rw [a09 (a06 e' hD)]; exact e'
 · obtain ⟨more,e'⟩:=I.base.tbls b ps e
   exact ⟨more,by rw [a09 (a06 e' hD)]; exact e'⟩
 · obtain ⟨a1,a2,a3,a4,a5⟩:=I.pin p hp
   exact ⟨a1,by rw [a09 (h4 p hp)]; exact a2,a3,a4,a5⟩
 · by_cases hb:b=D
   · subst hb; rw [a33] at e; cases e; exact new
   · rw [a09 hb] at e
     exact (I.hok b u e).stay (fun c v _ q=>q) (fun c q=>by rw [a09 (a06 q hD)]; exact q) fun c xs q=>by rw [a09 (a06 q hD)]; exact q
def tLC (wi:TI) (g:TG) (tt:TT) (te:TE) (n:Nat) (caps:List Nat):TE:=fun σ H Q=>wi σ H fun J H1=>∃ W:Nat→Nat→List V→St→Hp→Prop,(∃ m,W 0 m [] (cSt n caps σ) H1)∧∀ i m acc σ' H',W i m acc σ' H' →
 (J.stop i H'∧∀ l,H' l=none→Q (.ref l) (upd H' l (.lst acc))) ∨
 (J.go i H'∧acc.length<sizeLine∧∃ N:List V→St→Hp→Prop,(∀ ac σ2 H2,N ac σ2 H2→∃ m',m'<m∧W (i+1) m' ac σ2 H2)∧∀ x H2,J.yld i H' x H2→g x σ' H2 fun σ3 H3=>tt σ3 H3 fun b H4=>if b=true then te σ3 H4 fun y H5=>N (acc++[y]) σ3 H5 else N acc σ3 H4)
structure CompOk (X:Cx) (scope:Scope) (Nt Nf:List Str) (caps:List Nat):Prop where
 kind:scope.kind=.function
 nc:∀ y∈scope.names,y.2≠.cell
 nm:∀ y∈scope.names,y.2=.local→scope.names.lookup y.1=some .local
 fr:∀ y∈scope.names,y.2=.free→X.env.kindOf y.1=some .cell∨X.env.kindOf y.1=some .free
 cap:caps.map (fun j=>X.N[j]?)=Nf.map some
 vis:∀ x∈Nf,scope.names.lookup x=some .free
theorem am6 {tg iter elt:Expr}{ifs:List Expr}{scope:Scope}{pos:Pos}{g:TG}{tt:TT}{te:TE}{Nt Nf:List Str}{caps:List Nat}{cl:List (Str×Addr)}{it:Addr}{fp:List Addr}{tn:Nat→Heap→Prop}{J:It}{Q:VK}{E:Value→Shared→Prop}
 {RR:Value→Addr→Result→Shared→Prop}
 (hc:X.calm=true) (S:CompOk X scope Nt Nf caps)
 (hg:∀ cl C s0 H0 ex,PG (cxC X (Nt++Nf) scope cl C s0 H0 ex) tg g)
 (ht:∀ cl C s0 H0 ex,PTs (cxC X (Nt++Nf) scope cl C s0 H0 ex) ifs tt)
 (he:∀ cl C s0 H0 ex,PE (cxC X (Nt++Nf) scope cl C s0 H0 ex) elt te)
 (hcl:∀ x c,cl.lookup x=some c→X.env.cells.lookup x=some c) (hcf:∀ y∈scope.names,y.2=.free→∃ c,cl.lookup y.1=some c)
 (I:Inv X pins σ H s) (T:Turn X.prog X.w X.K tg J fp it tn) (st:tn 0 s.heap) (hfp:∀ b∈fp,FpOk X pins H b)
 (hW:∃ W:Nat→Nat→List V→St→Hp→Prop,(∃ m,W 0 m [] (cSt Nt.length caps σ) H)∧∀ i m acc σ' H',W i m acc σ' H' →
  (J.stop i H'∧∀ l,H' l=none→Q (.ref l) (upd H' l (.lst acc))) ∨
  (J.go i H'∧acc.length<sizeLine∧∃ N:List V→St→Hp→Prop,(∀ ac σ2 H2,N ac σ2 H2→∃ m',m'<m∧W (i+1) m' ac σ2 H2)∧∀ x H2,J.yld i H' x H2→g x σ' H2 fun σ3 H3=>tt σ3 H3 fun b H4=>if b=true then te σ3 H4 fun y H5=>N (acc++[y]) σ3 H5 else N acc σ3 H4))
 (fin:∀ D C m s' H',Inv X pins σ H' s'→Q (.ref D) H'→s'.heap.Ns C m→H' C=none→C≠X.env.locals→X.s₀.heap.objs.size≤C→(∀ x c,X.env.cells.lookup x=some c→c≠C)→(∀ p∈X.pn++pins,p.1≠C)→RR (.ref D) C (.ok .next) s') :
 wpAny (model X.prog X.w) X.A (newList []) (fun acc s₃=>wpAny (model X.prog X.w) X.A (newFunctionEnv scope X.env.globals cl [] X.env.qual none .none (some X.env)) (fun cenv s₄ =>
  codeAny (model X.prog X.w) X.A (.compStart (.ListComp elt [⟨tg,iter,ifs,0⟩] scope pos) 0 (.ref it) acc { cenv with scope:=relabel scope X.env }) (RR acc cenv.locals) s₄) E s₃) E s:=by
 obtain ⟨W,⟨m0,w0⟩,turn⟩:=hW
 refine wpAny_newObj_type (wpAny_newFunctionEnv S.nc (by intro y hy; simp at hy) (fun h₁ hns₁ hsb₁=>?_) S.kind)
 dsimp only at hns₁ hsb₁ ⊢
 generalize hH2:s.heap.push { cls:=.type "list",dict:=none,data:=.seq ([]:List Value).toArray }=P2 at hns₁ hsb₁ ⊢
 have hCs:P2.objs.size=s.heap.objs.size+1:=by rw [← hH2,Heap.size_push]
 have hDC:s.heap.objs.size≠P2.objs.size:=by rw [hCs]; exact Nat.ne_of_lt (Nat.lt_succ_self _)
 have hCle:s.heap.objs.size≤P2.objs.size:=by rw [hCs]; exact Nat.le_succ _
 have below:∀ b,b<s.heap.objs.size→b≠P2.objs.size:=fun b hb=>by rw [hCs]; exact Nat.ne_of_lt (Nat.lt_succ_of_lt hb)
 have old:∀ b o,s.heap.get? b=some o→h₁.get? b=some o:=fun b o e=>hsb₁.extBut b o (below b (Heap.lt_size e)) (gP _ (hH2 ▸ gP _ e))
 have hacc:h₁.PlainList s.heap.objs.size #[]:=⟨_,hsb₁.extBut _ _ hDC (gP _ (hH2 ▸ Heap.get?_push_size _ rfl))⟩
 have fpl:∀ b∈fp,b<s.heap.objs.size:=fun b hb=>by
  obtain ⟨o,e,_⟩:=T.obj _ _ st b hb
  exact Heap.lt_size e
 have st₁:tn 0 h₁:=T.keep _ _ _ st fun b _ o e=>old b o e
 generalize hCe:P2.objs.size=C at hns₁ hsb₁ hDC hCle below ⊢
 generalize hDe:s.heap.objs.size=D at hacc hDC hCle ⊢
 have hDl:X.env.locals<D:=by rw [← hDe]; exact I.lt
 have hDs:X.s₀.heap.objs.size≤D:=by rw [← hDe]; exact I.sz
 have hcD:∀ x c,X.env.cells.lookup x=some c→c<D:=fun x c e=>by
  obtain ⟨v,q⟩:=I.cell x c e
  rw [← hDe]; exact q.lt
 have hpD:∀ p∈X.pn++pins,p.1<D:=fun p hp=>by rw [← hDe]; exact Heap.lt_size (I.pin p hp).1
 let Y:Cx:=cxC X (Nt++Nf) scope cl C s H fp
 have okY:Y.Ok:=bx1 I (by rw [hDe]; exact hCle) S.kind S.nc hcl hcf hfp fpl
 have hfsY:∀ b,b∈Y.fs→b<D:=fun b hb=>by
  rcases List.mem_cons.mp (I.stkSub b hb) with z | z
  · rw [z]; exact hDl
  · refine Nat.lt_of_lt_of_le ?_ hDs
    have:=(I.ok.funs.mem z)
    refine Nat.lt_of_not_le fun q=>?_
    exact absurd z (fun z=>by
     have:=I.nofs (a:=b)
     by_cases hb2:s.heap.objs.size≤b
     · exact this hb2 z
     · obtain ⟨_,o,e,_⟩:=I.ok.funs.mem z
       exact absurd (Heap.lt_size e) (Nat.not_lt.mpr q))
 have loop:∀ s₃:Shared,s₃={ s with heap:=h₁,toks:=s.toks+([]:List (Str×Value)).length } →
  codeAny (model X.prog X.w) X.A (.compLoop (.ListComp elt [⟨tg,iter,ifs,0⟩] scope pos) 0 (.ref it) (.ref D) Y.env) (RR (.ref D) C) s₃:=by
  rintro s₃ rfl
  have I0:Inv Y [] (cSt Nt.length caps σ) H { s with heap:=h₁,toks:=s.toks+([]:List (Str×Value)).length } :=
   bo7 I okY hcl S.cap S.vis (fun x hx=>S.fr (x,.free) (PySem.mem_of_lookup (S.vis x hx)) rfl) (fun x hx=>hcf (x,.free) (PySem.mem_of_lookup (S.vis x hx)) rfl) rfl rfl old hns₁ (by rw [hDe]; exact hCle)
  have fpY:∀ {H':Hp},(∀ b∈fp,H' b=none)→∀ b∈fp,FpOk Y [] H' b:=fun hn b hb =>
   ⟨hn b hb,Nat.ne_of_lt (Nat.lt_of_lt_of_le (fpl b hb) (by rw [hDe]; exact hCle)),okY.exfs b hb,.inl hb,fun x c e=>(hfp b hb).2.2.2.2.1 x c (hcl x c e),fun p hp=>absurd (show p∈([]:List (Addr×Obj)) from hp) (by simp)⟩
  have fpD:∀ b∈fp,b≠D:=fun b hb=>Nat.ne_of_lt (by rw [← hDe]; exact fpl b hb)
  refine ar9 (fun n s'=>∃ i acc its σ' H',Inv Y [] σ' H' s'∧tn i s'.heap∧(∀ b∈fp,H' b=none)∧s'.heap.PlainList D its∧H' D=none∧Vals acc its.toList∧acc.length≤sizeLine∧W i n acc σ' H') ?_ m0
   ⟨0,[],#[],cSt Nt.length caps σ,H,I0,st₁,fun b hb=>(hfp b hb).1,hacc,by rw [← hDe]; exact I.hok.fresh (Nat.le_refl _),.nil,Nat.zero_le _,w0⟩
  rintro n s3 ⟨i,acc,its,σ3,H3,I3,st3,fr3,⟨nd,e3⟩,hD3,rv3,hl3,w3⟩
  have cD:C≠D:=Ne.symm hDC
  have pinOk:∀ {H':Hp}{s':Shared}{o:Obj},s'.heap.get? D=some o→H' D=none→(∀ v,o.data≠.cell v)→s'.heap.get? D=some o∧H' D=none∧D≠Y.env.locals∧D∉Y.fs∧∀ v,o.data≠.cell v:=fun e n d =>
   ⟨e,n,hDC,fun z=>absurd (hfsY D z) (Nat.lt_irrefl _),d⟩
  have I3':Inv Y [(D,{ cls:=.type "list",data:=.seq its nd })] σ3 H3 s3:=I3.pins_of fun p hp=>by
   obtain rfl:p=(D,({ cls:=.type "list",data:=.seq its nd }:Obj)):=gG hp
   exact pinOk e3 hD3 (fun v z=>by cases z)
  have fpY':∀ {H':Hp},(∀ b∈fp,H' b=none)→∀ b∈fp,FpOk Y [(D,{ cls:=.type "list",data:=.seq its nd })] H' b:=fun hn b hb=>by
   obtain ⟨a1,a2,a3,a4,a5,_⟩:=fpY hn b hb
   refine ⟨a1,a2,a3,a4,a5,fun p hp=>?_⟩
   obtain rfl:p=(D,({ cls:=.type "list",data:=.seq its nd }:Obj)):=gG hp
   exact Ne.symm (fpD b hb)
  rcases turn i n acc σ3 H3 w3 with ⟨stop,qn⟩ | ⟨go,hlt,N,hN,step⟩
  · refine thn (T.done Y rfl rfl rfl hc i _ s3 σ3 H3 _ I3' (fpY' fr3) st3 stop) fun r s4 ⟨hr,I4⟩=>?_
    subst hr
    have e4:=(I4.pin (D,{ cls:=.type "list",data:=.seq its nd }) (List.mem_append_right _ List.mem_cons_self)).1
    have IX:Inv X pins σ H3 s4:=I.call' (ch:=fp) I4.os I4.base I4.hok I4.bare fun b hb=>by
     obtain ⟨_,a2,_,a4,a5,a6⟩:=hfp b hb
     exact ⟨a4,a2,a5,a6⟩
    have IA:=IX.adopt (o:=.lst acc) hD3 hDs (Nat.ne_of_gt hDl) (fun x c e=>Nat.ne_of_lt (hcD x c e)) (fun p hp=>Nat.ne_of_lt (hpD p hp)) ⟨hl3,its.toList,nd,rv3,e4⟩
    obtain ⟨m,nsC,_⟩:=I4.loc
    refine fin D C m s4 _ IA (qn D hD3) nsC (by rw [a09 cD]; exact I4.free) ?_ ?_ ?_ ?_
    · exact Nat.ne_of_gt (Nat.lt_of_lt_of_le hDl hCle)
    · exact Nat.le_trans hDs hCle
    · exact fun x c e=>Nat.ne_of_lt (Nat.lt_of_lt_of_le (hcD x c e) hCle)
    · exact fun p hp=>Nat.ne_of_lt (Nat.lt_of_lt_of_le (hpD p hp) hCle)
  · refine thn (T.item Y rfl rfl rfl hc i _ s3 σ3 H3 _ I3' (fpY' fr3) st3 go) fun r s4 ⟨u,hr,h4⟩=>?_
    subst hr
    refine thn h4 fun _ s5 ⟨x,H5,I5,r5,y5,st5,fr5⟩=>?_
    have I5':=I5.pinned (fpY' fr5) (T.obj _ _ st5)
    refine thn (hg cl C s H fp _ s5 σ3 H5 x u _ I5' r5 (step x H5 y5)) fun _ s6 ⟨σ6,H6,I6,q6⟩=>?_
    refine thn (ht cl C s H fp _ s6 σ6 H6 _ I6 q6) fun b s7 ⟨H7,I7,q7⟩=>?_
    have back:∀ {σ':St} {H':Hp}{s':Shared},Inv Y ([(D,{ cls:=.type "list",data:=.seq its nd })]++pinsAt fp s5.heap) σ' H' s' →
     s'.heap.get? D=some { cls:=.type "list",data:=.seq its nd }∧H' D=none∧tn (i+1) s'.heap∧∀ b∈fp,H' b=none:=fun {σ' H' s'} J7=>by
     have hd:=J7.pin (D,{ cls:=.type "list",data:=.seq its nd }) (List.mem_append_right _ (List.mem_append_left _ List.mem_cons_self))
     refine ⟨hd.1,hd.2.1,T.keep _ _ _ st5 fun b hb o e=>(J7.pin (b,o) (List.mem_append_right _ (List.mem_append_right _ (ad3 hb e)))).1,fun b hb=>?_⟩
     obtain ⟨o,e,d⟩:=T.obj _ _ st5 b hb
     exact (J7.pin (b,o) (List.mem_append_right _ (List.mem_append_right _ (ad3 hb e)))).2.1
    cases b with
    | false =>
      rw [if_neg Bool.false_ne_true]
      rw [if_neg Bool.false_ne_true] at q7
      obtain ⟨m',hm,w7⟩:=hN _ _ _ q7
      obtain ⟨b1,b2,b3,b4⟩:=back I7
      exact ⟨m',hm,i+1,acc,its,σ6,H7,I7.pins_of (fun p hp=>nomatch hp),b3,b4,⟨nd,b1⟩,b2,rv3,hl3,w7⟩
    | true =>
      rw [if_pos rfl]
      rw [if_pos rfl] at q7
      refine thn (he cl C s H fp _ s7 σ6 H7 _ I7 q7) fun u8 s8 ⟨y,H8,I8,r8,n8⟩=>?_
      obtain ⟨m',hm,w8⟩:=hN _ _ _ n8
      obtain ⟨b1,b2,b3,b4⟩:=back I8
      have hsz:its.size≤sizeLine:=by
       have h1:=rv3.length
       have h2:its.toList.length=its.size:=by simp
       omega
      refine wpAny_list_append_plain (hsz:=hsz) ⟨nd,b1⟩ fun h' pl' sb'=>?_
      have I8':Inv Y [] σ6 H8 s8:=I8.pins_of (fun p hp=>nomatch hp)
      refine ⟨m',hm,i+1,acc++[y],its.push u8,σ6,H8,I8'.turned (t':=s8.toks) (fun b o hb e=>(sb'.2 b hb).trans e) b2 hDC (.inr (by show s.heap.objs.size≤D; rw [hDe]; exact Nat.le_refl _)) (fun x c e=>Nat.ne_of_lt (hcD x c (hcl x c e))) (fun p hp=>absurd (show p∈([]:List (Addr×Obj)) from hp) (by simp)),?_,b4,pl',b2,?_,?_,w8⟩
      · exact T.keep _ _ _ b3 fun b hb o e=>(sb'.2 b (fpD b hb)).trans e
      · rw [Array.toList_push]
        exact rv3.append (.cons r8 .nil)
      · rw [List.length_append,List.length_singleton]
        omega
 exact codeAny_compStart_list (loop _ rfl) (T.self _ _ _ _ _ st₁ (loop _ rfl))
theorem ab6 {tg iter elt:Expr}{ifs:List Expr}{scope:Scope}{pos:Pos}{wi:TI}{g:TG}{tt:TT}{te:TE}{Nt Nf:List Str}{caps:List Nat}(hc:X.calm=true) (S:CompOk X scope Nt Nf caps) (hi:PI X tg iter wi)
 (hg:∀ cl C s0 H0 ex,PG (cxC X (Nt++Nf) scope cl C s0 H0 ex) tg g)
 (ht:∀ cl C s0 H0 ex,PTs (cxC X (Nt++Nf) scope cl C s0 H0 ex) ifs tt)
 (he:∀ cl C s0 H0 ex,PE (cxC X (Nt++Nf) scope cl C s0 H0 ex) elt te)
 (hs:∀ x,foldedSetIterable iter X.env x=pure x:=by intro _; rfl):PE X (.ListComp elt [⟨tg,iter,ifs,0⟩] scope pos) (tLC wi g tt te Nt.length caps):=by
 intro pins s σ H Q I h
 obtain ⟨cl,hclos,hcl,hcf⟩:=am5 I.ok.has S.fr
 rw [eval_ListComp]
 refine wpAny_comprehension_free (use:=none) rfl hs hclos S.kind S.nm (thn (hi pins s σ H _ I h) fun v s1 h1=>thn h1 fun itv s2 h2=>?_)
 obtain ⟨it,fp,tn,J,H2,e,I2,T,st2,f2,hW⟩:=h2
 subst e
 refine am6 (RR:=fun acc C=>compPost (model X.prog X.w) X.A X.xe none (EP X pins σ Q) acc C) (Q:=Q) hc S hg ht he hcl hcf I2 T st2 f2 hW ?_
 intro D C m s' H' I' q nsC hCn hCl hCs hCc hCp
 exact ⟨m,nsC,fun h' sb=>⟨.ref D,H',I'.turned (t':=s'.toks) (fun b o hb e=>(sb.2 b hb).trans e) hCn hCl (.inr hCs) hCc hCp,rfl,q⟩⟩
theorem ag9 {tg iter elt:Expr}{ifs:List Expr}{scope:Scope}{pos spos py:Pos}{y:Str}{i:Nat}{wi:TI}{g:TG}{tt:TT}{te:TE}{Nt Nf:List Str}{caps:List Nat}(hc:X.calm=true) (S:CompOk X scope Nt Nf caps) (hi:PI X tg iter wi)
 (hg:∀ cl C s0 H0 ex,PG (cxC X (Nt++Nf) scope cl C s0 H0 ex) tg g)
 (ht:∀ cl C s0 H0 ex,PTs (cxC X (Nt++Nf) scope cl C s0 H0 ex) ifs tt)
 (he:∀ cl C s0 H0 ex,PE (cxC X (Nt++Nf) scope cl C s0 H0 ex) elt te)
 (hN:X.N.Nodup) (hy:X.N[i]?=some y) (hx:Loc X.env.scope y)
 (hsw:swapsWith (.ListComp elt [⟨tg,iter,ifs,0⟩] scope pos) (some (.Name y py)) spos.line X.env=pure true)
 (hf:X.fn y=true∨X.env.scope.names.lookup y=some .local:=by first | exact .inl rfl | exact .inr rfl | assumption)
 (hs:∀ x,foldedSetIterable iter X.env x=pure x:=by intro _; rfl):PS X (.Assign [.Name y py] (.ListComp elt [⟨tg,iter,ifs,0⟩] scope pos) spos) (tAsg (tLC wi g tt te Nt.length caps) (gName i)):=by
 intro pins s σ H D I h
 obtain ⟨cl,hclos,hcl,hcf⟩:=am5 I.ok.has S.fr
 rw [exec_Assign_Name_used _ _ _ _ hsw]
 refine wB (wpAny_standAt (wB ?_))
 show wpAny _ X.A (do let _←comprehension (.ListComp elt [⟨tg,iter,ifs,0⟩] scope pos) scope X.env _ (newList []) false (eval iter X.env) (some (assign (.Name y py) X.env))) _ _ s
 refine wB (wpAny_mono (wpAny_comprehension_free (use:=some (assign (.Name y py) X.env)) (Q:=fun _ s'=>SP X pins D .next s') rfl hs hclos S.kind S.nm
  (thn (hi pins s σ H _ I h) fun v s1 h1=>thn h1 fun itv s2 h2=>?_)) (fun _ s' hq=>wpAny_pure (wpAny_pure hq)) fun _ _ e=>e)
 obtain ⟨it,fp,tn,J,H2,e,I2,T,st2,f2,hW⟩:=h2
 subst e
 refine am6 (RR:=fun acc C=>compPost (model X.prog X.w) X.A X.xe (some (assign (.Name y py) X.env)) (fun _ s'=>SP X pins D .next s') acc C) (Q:=fun x H1=>gName i x σ H1 D.nx) hc S hg ht he hcl hcf I2 T st2 f2 hW ?_
 intro l C m s' H' I' q nsC hCn hCl hCs hCc hCp
 show wpAny _ X.A (assign (.Name y py) X.env (.ref l)) _ _ _
 refine wpAny_assign_Name (aq7 (v:=.ref l) I' hN hy hx rfl (fun s'' I'' ⟨a,sb,ha⟩=>?_) hf)
 have haC:C≠a:=by
  rcases ha with z | z
  · rw [z]; exact hCl
  · exact fun e=>hCc y a z e.symm
 refine ⟨m,nsC.sameBut sb haC,fun h' sb'=>⟨_,H',I''.turned (t':=s''.toks) (fun b o hb e=>(sb'.2 b hb).trans e) hCn hCl (.inr hCs) hCc hCp,q⟩⟩
end
section
variable {X:Cx}{tg:Expr}
end
section
variable {X:Cx}
def strsV (ys:List Str):List V:=ys.map V.str
def CBig (i j:Int):Prop:=(i.natAbs<2 ^ 4096∧j.natAbs<2 ^ 4096)∨CMul i j
theorem b88 {i:Int}{n:Nat}(h:i.natAbs<2 ^ n):Builtin.Int.intBits i≤n:=by
 unfold Builtin.Int.intBits
 split
 · exact Nat.zero_le _
 · rename_i h0
   have h1:i.natAbs≠0:=by simpa using h0
   have:=(Nat.log2_lt h1).mpr h
   omega
theorem CBig.ok {i j:Int}(h:CBig i j):IntMulOk i j:=by
 rcases h with ⟨h1,h2⟩ | h
 · exact IntMulOk.of_bits (Nat.le_trans (b88 h1) (by decide)) (Nat.le_trans (b88 h2) (by decide))
 · exact h.ok
theorem bx2:OpR X (binaryOp .Mult) (rI CBig fun i j=>.int (i*j)):=opI fun _ _ _ _ _ _ _ hc q=>mul_int q hc.ok
theorem bf7:CallR X (.builtin "isinstance") (fun xs H Q=>∃ x n t b,xs=[x,.ty n]∧TyOf X.K H x t∧W.kitOne X.K t (.type n)=some b∧Q (.bl b) H):=by
 intro pins s σ H xs us Q I r h
 obtain ⟨x,n,t,b,rfl,ty,e,q⟩:=h
 obtain ⟨u,w',rfl,rx,ry⟩:=bf0 r
 cases (show w'=Value.type n from ry)
 exact b78 I rx ty e fun tk=>⟨.bl b,H,I.tok _,rfl,q⟩
end
section
variable {X:Cx}{e:Expr}{te:TE}{pos:Pos}
end
abbrev New (H:Hp) (o:HO) (Q:VK):Prop:=∀ p H',H p=none→Same H H'→H' p=some o→Q (.ref p) H'
theorem Same.new {H:Hp}{p:Addr}{o:HO}(h:H p=none):Same H (upd H p o):=fun b u e=>by rw [a09 (a06 e h)]; exact e
theorem New.to {H:Hp}{Q:VK}{o:HO}(h:New H o Q):∀ p,H p=none→Q (.ref p) (upd H p o):=fun p hp=>h p _ hp (Same.new hp) a33
section
variable {X:Cx}{es:List Expr}{t:TA}{pos:Pos}
def tLstN (t:TA):TE:=fun σ H Q=>t σ H fun xs H1=>xs.length≤sizeLine∧New H1 (.lst xs) Q
def tTupN (t:TA):TE:=fun σ H Q=>t σ H fun xs H1=>xs.length≤sizeLine∧New H1 (.tup xs) Q
theorem a34 {x1}(h:PA X es t):PE X (.Tuple es x1 pos) (tTupN t):=by
 intro pins s σ H Q I hq
 refine wpAny_Tuple_spliced (thn (h pos pins s σ H _ I hq) fun us s1 ⟨xs,H1,I1,r,z,q⟩=>⟨by rw [← r.length]; exact z,?_⟩)
 refine ⟨.ref s1.heap.objs.size,upd H1 s1.heap.objs.size (.tup xs),I1.laid (t':=s1.toks) (fun b u e=>gP _ e) (Nat.le_refl _) ?_,rfl,New.to q _ (I1.hok.fresh (Nat.le_refl _))⟩
 exact ⟨z,us,r,⟨_,Heap.get?_push_size _ rfl,rfl,_,rfl⟩⟩
theorem a30 (h:PA X es t):PE X (.List es pos) (tLstN t):=by
 intro pins s σ H Q I hq
 refine wpAny_List_spliced (thn (h pos pins s σ H _ I hq) fun us s1 ⟨xs,H1,I1,r,z,q⟩=>⟨by rw [← r.length]; exact z,?_⟩)
 refine ⟨.ref s1.heap.objs.size,upd H1 s1.heap.objs.size (.lst xs),I1.laid (t':=s1.toks) (fun b u e=>gP _ e) (Nat.le_refl _) ?_,rfl,New.to q _ (I1.hok.fresh (Nat.le_refl _))⟩
 exact ⟨z,us,0,r,Heap.get?_push_size _ rfl⟩
def rSlN (K:W.Frag):V→Option Int→Option Int→Hp→VK→Prop:=fun x lo hi H Q=>∃ a xs,x=.ref a∧SqL K H a xs∧New H (.lst (cutV xs lo hi)) Q
theorem bf8:SlR X (rSlN X.K):=by
 intro pins s σ H x v vl vu lo hi sl Q I rx hs pl pu h
 obtain ⟨a,xs,e,h1,h2⟩:=h
 exact bo5 pins s σ H x v vl vu lo hi sl Q I rx hs pl pu ⟨a,xs,e,h1,New.to h2⟩
theorem b49:CallR X (.type "list") (fun xs H Q=>∃ p ys,xs=[.ref p]∧(SqL X.K H p ys∨SqT X.K H p ys)∧New H (.lst ys) Q):=by
 intro pins s σ H xs us Q I r h
 obtain ⟨p,ys,e,h1,h2⟩:=h
 exact ar5 pins s σ H xs us Q I r ⟨p,ys,e,h1,New.to h2⟩
theorem av8:CallR X (.type "tuple") (fun xs H Q=>∃ p ys,xs=[.ref p]∧SqL X.K H p ys∧New H (.tup ys) Q):=by
 intro pins s σ H xs us Q I r h
 obtain ⟨p,ys,e,h1,h2⟩:=h
 exact ao9 pins s σ H xs us Q I r ⟨p,ys,e,.inl ⟨h1,New.to h2⟩⟩
end
def rIsi (K:W.Frag):List V→Hp→VK→Prop:=fun xs H Q=>∃ x n t b,xs=[x,.ty n]∧TyOf K H x t∧W.kitOne K t (.type n)=some b∧Q (.bl b) H
def tTru (K:W.Frag) (ta:TE):TT:=fun σ H Q=>ta σ H fun x H'=>∃ k,TruV K x H' k∧Q k H'
def rLen (K:W.Frag):List V→Hp→VK→Prop:=fun xs H Q=>∃ x n,xs=[x]∧LenV K x H n∧Q (.int n) H
def rToInt:List V→Hp→VK→Prop:=fun xs H Q=>(∃ i,xs=[.int i]∧Q (.int i) H)∨∃ k,xs=[.bl k]∧Q (.int (if k then 1 else 0)) H
def rInS:R2:=fun x y H Q=>∃ i j,x=.str i∧y=.str j∧Q (.bl (!(Builtin.Str.occurrences j i 0 j.length 1).isEmpty)) H
def rListN (K:W.Frag):List V→Hp→VK→Prop:=fun xs H Q=>∃ p ys,xs=[.ref p]∧(SqL K H p ys∨SqT K H p ys)∧New H (.lst ys) Q
def rTupleN (K:W.Frag):List V→Hp→VK→Prop:=fun xs H Q=>∃ p ys,xs=[.ref p]∧SqL K H p ys∧New H (.tup ys) Q
section
variable {X:Cx}{a:Expr}{ta:TE}
theorem bx3:CallR X (.builtin "isinstance") (rIsi X.K):=bf7
theorem bx4 (ha:PE X a ta) (he:∀ whole,isTrue a X.env whole=(do let v←whole; standAt a.pos; holding [v] (truthy v))):PT X a (tTru X.K ta):=be9 ha he
theorem bx5:CallR X (.builtin "len") (rLen X.K):=bf1
theorem ay7:CallR X (.type "int") rToInt:=b75
theorem bx6:OpR X (compareOp .In) rInS:=b74
theorem bo8:CallR X (.type "list") (rListN X.K):=b49
theorem bf9:CallR X (.type "tuple") (rTupleN X.K):=av8
end
def rPlus:R2:=fun x y H Q=>match x,y with
 | .int i,.int j=>Q (.int (i+j)) H
 | .str i,.str j=>i.length+j.length≤sizeLine∧Q (.str (i++j)) H
 | .ref l,.ref b=>∃ xs zs,H l=some (.lst xs)∧H b=some (.lst zs)∧xs.length+zs.length≤sizeLine∧New H (.lst (xs++zs)) Q
 | _,_=>False
def rTimes:R2:=fun x y H Q=>match x,y with
 | .int i,.int j=>CBig i j∧Q (.int (i*j)) H
 | .str z,.int n=>MulOk z n∧Q (.str (Txt.mul z n)) H
 | _,_=>False
def rStr:List V→Hp→VK→Prop:=fun xs H Q=>match xs with
 | [.int i]=>i.natAbs.log2<1920∧Q (.str (toString i)) H
 | [.str z]=>Q (.str z) H
 | _=>False
section
variable {X:Cx}
theorem a76:OpR X (binaryOp .Add) rPlus:=by
 intro pins s σ H x y v u Q I rx ry h
 cases x with
 | int i=>cases y with
   | int j=>exact bv6 pins s σ H _ _ v u Q I rx ry ⟨i,j,rfl,rfl,h⟩
   | _=>exact (show False from h).elim
 | str i=>cases y with
   | str j=>exact b39 pins s σ H _ _ v u Q I rx ry ⟨i,j,rfl,rfl,h⟩
   | _=>exact (show False from h).elim
 | ref l=>cases y with
   | ref b =>
     obtain ⟨xs,zs,h1,h2,h3,h4⟩:=h
     exact bw9 pins s σ H _ _ v u Q I rx ry ⟨l,b,xs,zs,rfl,rfl,h1,h2,h3,New.to h4⟩
   | _=>exact (show False from h).elim
 | _=>exact (show False from h).elim
theorem af2:OpR X (binaryOp .Mult) rTimes:=by
 intro pins s σ H x y v u Q I rx ry h
 cases x with
 | int i=>cases y with
   | int j=>exact bx2 pins s σ H _ _ v u Q I rx ry ⟨i,j,rfl,rfl,h⟩
   | _=>exact (show False from h).elim
 | str z=>cases y with
   | int n =>
     obtain ⟨t,rfl⟩:=rx
     obtain ⟨t',rfl⟩:=ry
     exact SB.mul h.1 fun t2 k=>⟨.str _,H,I.tok _,⟨_,rfl⟩,h.2⟩
   | _=>exact (show False from h).elim
 | _=>exact (show False from h).elim
theorem a50 {scope sc:Scope}{Nt Nf:List Str}{caps:List Nat}(hsc:X.env.scope=sc) (kind:scope.kind=.function) (nc:∀ y∈scope.names,y.2≠.cell) (nm:∀ y∈scope.names,y.2=.local→scope.names.lookup y.1=some .local)
 (fr:∀ y∈scope.names,y.2=.free→sc.names.lookup y.1=some .cell∨sc.names.lookup y.1=some .free) (cap:caps.map (fun j=>X.N[j]?)=Nf.map some) (vis:∀ x∈Nf,scope.names.lookup x=some .free):CompOk X scope Nt Nf caps :=
 ⟨kind,nc,nm,fun y hy h=>by show X.env.scope.names.lookup y.1=_∨X.env.scope.names.lookup y.1=_; rw [hsc]; exact fr y hy h,cap,vis⟩
abbrev LcEnd (J:It) (te:TE) (tt:TT) (caps:List Nat) (σ:St) (H:Hp) (Q:VK):Prop:=∃ W:Nat→Nat→List V→St→Hp→Prop,(∃ m,W 0 m [] (cSt 1 caps σ) H)∧∀ i m acc σ' H',W i m acc σ' H' →
 (J.stop i H'∧∀ l,H' l=none→Q (.ref l) (upd H' l (.lst acc))) ∨
 (J.go i H'∧acc.length<sizeLine∧∃ N:List V→St→Hp→Prop,(∀ ac σ2 H2,N ac σ2 H2→∃ m',m'<m∧W (i+1) m' ac σ2 H2)∧∀ x H2,J.yld i H' x H2→gName 0 x σ' H2 fun σ3 H3=>tt σ3 H3 fun b H4=>if b=true then te σ3 H4 fun y H5=>N (acc++[y]) σ3 H5 else N acc σ3 H4)
theorem b89 {J:It}{te:TE}{tt:TT}{caps:List Nat}{σ:St} {H:Hp}{Q:VK}(n:Nat) (hz:n≤sizeLine) (Pv:Nat→List V→Hp→Prop) (h0:Pv 0 [] H) (hl:∀ i acc H,Pv i acc H→acc.length≤i)
 (hgo:∀ i acc H,i<n→Pv i acc H→J.go i H) (hst:∀ acc H,Pv n acc H→J.stop n H)
 (hs:∀ i x acc H H2,i<n→Pv i acc H→J.yld i H x H2→tt (some x::capV caps σ) H2 fun b H4=>if b=true then te (some x::capV caps σ) H4 fun y H5=>Pv (i+1) (acc++[y]) H5 else Pv (i+1) acc H4)
 (hd:∀ acc H,Pv n acc H→New H (.lst acc) Q):LcEnd J te tt caps σ H Q:=by
 refine ⟨fun i m acc σ' H=>m=n - i∧i≤n∧(∃ v,σ'=v::capV caps σ)∧Pv i acc H,⟨n,by simp,Nat.zero_le _,⟨none,rfl⟩,h0⟩,?_⟩
 rintro i m acc σ' H' ⟨rfl,hi,⟨v,rfl⟩,p⟩
 by_cases hlt:i<n
 · refine .inr ⟨hgo i acc H' hlt p,?_,fun ac σ2 H2=>(∃ v,σ2=v::capV caps σ)∧Pv (i+1) ac H2,fun ac σ2 H2 ⟨e,p'⟩=>⟨n - (i+1),by omega,rfl,hlt,e,p'⟩,fun x H2 y=>?_⟩
   · have:=hl i acc H' p
     omega
   · have eN:∀ ac H5,((∃ u,some x::capV caps σ=u::capV caps σ)∧Pv (i+1) ac H5)=Pv (i+1) ac H5:=fun ac H5=>propext ⟨And.right,fun p=>⟨⟨_,rfl⟩,p⟩⟩
     show tt (some x::capV caps σ) H2 fun b H4=>if b=true then te (some x::capV caps σ) H4 fun y H5=>((∃ u,some x::capV caps σ=u::capV caps σ)∧Pv (i+1) (acc++[y]) H5) else ((∃ u,some x::capV caps σ=u::capV caps σ)∧Pv (i+1) acc H4)
     simp only [eN]
     exact hs i x acc H' H2 hlt p y
 · have e:i=n:=by omega
   subst e
   exact .inl ⟨hst acc H' p,New.to (hd acc H' p)⟩
theorem bo9 {K:W.Frag}{a:Addr}{xs:List V}{te:TE}{tt:TT}{caps:List Nat}{σ:St} {H:Hp}{Q:VK}(hz:xs.length≤sizeLine) (Pv:Nat→List V→Hp→Prop) (h0:Pv 0 [] H) (hl:∀ i acc H,Pv i acc H→acc.length≤i∧SqL K H a xs)
 (hs:∀ i x acc H,xs[i]?=some x→Pv i acc H→tt (some x::capV caps σ) H fun b H4=>if b=true then te (some x::capV caps σ) H4 fun y H5=>Pv (i+1) (acc++[y]) H5 else Pv (i+1) acc H4)
 (hd:∀ acc H,Pv xs.length acc H→New H (.lst acc) Q):LcEnd (Itl K a) te tt caps σ H Q:=by
 refine b89 xs.length hz Pv h0 (fun i acc H p=>(hl i acc H p).1) (fun i acc H hi p=>⟨xs,xs[i],(hl i acc H p).2,by simp [hi]⟩) (fun acc H p=>⟨xs,(hl _ acc H p).2,Nat.le_refl _⟩) ?_ hd
 rintro i x acc H1 H2 hi p ⟨rfl,y⟩
 exact hs i x acc _ (y xs (hl i acc _ p).2) p
theorem bx7 {K:W.Frag}{a:Addr}{xs:List V}{te:TE}{tt:TT}{caps:List Nat}{σ:St} {H:Hp}{Q:VK}(hz:xs.length≤sizeLine) (Pv:Nat→List V→Hp→Prop) (h0:Pv 0 [] H) (hl:∀ i acc H,Pv i acc H→acc.length≤i∧SqT K H a xs)
 (hs:∀ i x acc H,xs[i]?=some x→Pv i acc H→tt (some x::capV caps σ) H fun b H4=>if b=true then te (some x::capV caps σ) H4 fun y H5=>Pv (i+1) (acc++[y]) H5 else Pv (i+1) acc H4)
 (hd:∀ acc H,Pv xs.length acc H→New H (.lst acc) Q):LcEnd (Itt K a) te tt caps σ H Q:=by
 refine b89 xs.length hz Pv h0 (fun i acc H p=>(hl i acc H p).1) (fun i acc H hi p=>⟨xs,xs[i],(hl i acc H p).2,by simp [hi]⟩) (fun acc H p=>⟨xs,(hl _ acc H p).2,Nat.le_refl _⟩) ?_ hd
 rintro i x acc H1 H2 hi p ⟨rfl,y⟩
 exact hs i x acc _ (y xs (hl i acc _ p).2) p
theorem bg0 {lo:Int}{n:Nat}{te:TE}{tt:TT}{caps:List Nat}{σ:St} {H:Hp}{Q:VK}(hz:n≤sizeLine) (Pv:Nat→List V→Hp→Prop) (h0:Pv 0 [] H) (hl:∀ i acc H,Pv i acc H→acc.length≤i)
 (hs:∀ i acc H,i<n→Pv i acc H→tt (some (.int (lo+i))::capV caps σ) H fun b H4=>if b=true then te (some (.int (lo+i))::capV caps σ) H4 fun y H5=>Pv (i+1) (acc++[y]) H5 else Pv (i+1) acc H4)
 (hd:∀ acc H,Pv n acc H→New H (.lst acc) Q):LcEnd (Itr lo n) te tt caps σ H Q:=by
 refine b89 n hz Pv h0 hl (fun i acc H hi p=>hi) (fun acc H p=>Nat.le_refl _) ?_ hd
 rintro i x acc H1 H2 hi p ⟨rfl,rfl⟩
 exact hs i acc _ hi p
end
end L2
namespace L2
open PySem
theorem ex_some_and {α:Type}{a:α}{p:α→Prop}:(∃ v,some (some a)=some (some v)∧p v)↔p a:=⟨fun ⟨_,e,h⟩=>by cases e; exact h,fun h=>⟨a,rfl,h⟩⟩
def ForEnd (J:It) (g:TG) (tb:TS) (D:Ends) (σ:St) (H1:Hp):Prop:=∃ W:Nat→Nat→St→Hp→Prop,(∃ m,W 0 m σ H1)∧∀ i m σ H,W i m σ H →
 (J.stop i H∧D.nx σ H)∨(J.go i H∧∃ N:St→Hp→Prop,(∀ σ' H',N σ' H'→∃ m',m'<m∧W (i+1) m' σ' H')∧∀ x H',J.yld i H x H'→g x σ H' fun σ2 H2=>tb { D with nx:=N,ct:=N,bk:=D.nx } σ2 H2)
def CompEnd (J:It) (g:TG) (tt:TT) (te:TE) (n:Nat) (caps:List Nat) (σ:St) (H:Hp) (Q:VK):Prop:=∃ W:Nat→Nat→List V→St→Hp→Prop,(∃ m,W 0 m [] (cSt n caps σ) H)∧∀ i m acc σ' H',W i m acc σ' H' →
 (J.stop i H'∧∀ l,H' l=none→Q (.ref l) (upd H' l (.lst acc))) ∨
 (J.go i H'∧acc.length<sizeLine∧∃ N:List V→St→Hp→Prop,(∀ ac σ2 H2,N ac σ2 H2→∃ m',m'<m∧W (i+1) m' ac σ2 H2)∧∀ x H2,J.yld i H' x H2→g x σ' H2 fun σ3 H3=>tt σ3 H3 fun b H4=>if b=true then te σ3 H4 fun y H5=>N (acc++[y]) σ3 H5 else N acc σ3 H4)
section
variable {K:W.Frag}{a:Addr}{xs:List V}{te:TE}{tt:TT}{caps:List Nat}{σ:St} {H:Hp}{Q:VK}{z:Str}{lo:Int}{n:Nat}
theorem a77 (hz:xs.length≤sizeLine) (Pv:Nat→List V→Hp→Prop) (h0:Pv 0 [] H) (hl:∀ i acc H,Pv i acc H→acc.length≤i∧SqL K H a xs)
 (hs:∀ i x acc H,xs[i]?=some x→Pv i acc H→tt (some x::capV caps σ) H fun b H4=>if b=true then te (some x::capV caps σ) H4 fun y H5=>Pv (i+1) (acc++[y]) H5 else Pv (i+1) acc H4)
 (hd:∀ acc H,Pv xs.length acc H→New H (.lst acc) Q):CompEnd (Itl K a) (gName 0) tt te 1 caps σ H Q:=bo9 hz Pv h0 hl hs hd
theorem bl3 (hz:xs.length≤sizeLine) (Pv:Nat→List V→Hp→Prop) (h0:Pv 0 [] H) (hl:∀ i acc H,Pv i acc H→acc.length≤i∧SqT K H a xs)
 (hs:∀ i x acc H,xs[i]?=some x→Pv i acc H→tt (some x::capV caps σ) H fun b H4=>if b=true then te (some x::capV caps σ) H4 fun y H5=>Pv (i+1) (acc++[y]) H5 else Pv (i+1) acc H4)
 (hd:∀ acc H,Pv xs.length acc H→New H (.lst acc) Q):CompEnd (Itt K a) (gName 0) tt te 1 caps σ H Q:=bx7 hz Pv h0 hl hs hd
theorem ai8 (hz:n≤sizeLine) (Pv:Nat→List V→Hp→Prop) (h0:Pv 0 [] H) (hl:∀ i acc H,Pv i acc H→acc.length≤i)
 (hs:∀ i acc H,i<n→Pv i acc H→tt (some (.int (lo+i))::capV caps σ) H fun b H4=>if b=true then te (some (.int (lo+i))::capV caps σ) H4 fun y H5=>Pv (i+1) (acc++[y]) H5 else Pv (i+1) acc H4)
 (hd:∀ acc H,Pv n acc H→New H (.lst acc) Q):CompEnd (Itr lo n) (gName 0) tt te 1 caps σ H Q:=bg0 hz Pv h0 hl hs hd
end
theorem cxOf_K {CX:CXT}{P:Program}{w:World}{K:W.Frag}{mg:Str→Option Value}{base:Heap}{N:List Str}{qual:Str}{scope:Scope}{f:Addr}{cd:Value}{A:Around}{outer:List Env}{s:Shared}{H:Hp}{E:XK} :
 (cxOf CX P w K mg base N qual scope f cd A outer s H E).K=K:=rfl
theorem cxC_K {X:Cx}{N:List Str}{scope:Scope}{cl:List (Str×Addr)}{C:Addr}{s0:Shared}{H0:Hp}{ex:List Addr}:(cxC X N scope cl C s0 H0 ex).K=X.K:=rfl
section
variable {X:Cx}
theorem a35 (K:W.Frag) (hK:X.K=K:=by rfl):IxR X (rIxL K):=hK ▸ ix_list
theorem a38 (K:W.Frag) (hK:X.K=K:=by rfl):IxR X (rIxT K):=hK ▸ ix_tup
theorem av9 (K:W.Frag) (hK:X.K=K:=by rfl):IxR X (rIx K):=hK ▸ bw7
theorem af3 (K:W.Frag) (hK:X.K=K:=by rfl):SlR X (rSlN K):=hK ▸ bf8
theorem aw0 (K:W.Frag) (hK:X.K=K:=by rfl):CallR X (.builtin "isinstance") (rIsi K):=hK ▸ bx3
theorem a83 (K:W.Frag) (hK:X.K=K:=by rfl):CallR X (.builtin "len") (rLen K):=hK ▸ bx5
theorem a94 (K:W.Frag) (hK:X.K=K:=by rfl):CallR X (.type "list") (rListN K):=hK ▸ bo8
theorem ak0 (K:W.Frag) (hK:X.K=K:=by rfl):CallR X (.type "tuple") (rTupleN K):=hK ▸ bf9
theorem ae4 (K:W.Frag) {a:Expr}{ta:TE}(ha:PE X a ta) (he:∀ whole,isTrue a X.env whole=(do let v←whole; standAt a.pos; holding [v] (truthy v))) (hK:X.K=K:=by rfl):PT X a (tTru K ta):=hK ▸ bx4 ha he
theorem a48 (K:W.Frag) {tg l:Expr}{tl:TE}(hl:PE X l tl) (hK:X.K=K:=by rfl):PI X tg l (iList K tl):=hK ▸ bo0 hl
theorem b90 (K:W.Frag) {tg l:Expr}{tl:TE}(hl:PE X l tl) (hK:X.K=K:=by rfl):PI X tg l (iTup K tl):=hK ▸ bv4 hl
theorem aa6 (K:W.Frag) {pos:Pos}{es:List Expr}{k:Nat}{t:TGs}{n:Nat}(hc:X.calm=true) (h:PGs X es t) (hn:(assignEach es X.env).length=n:=by rfl) (hst:(assignEach es X.env).findIdx? (·.1)=none:=by rfl) (hK:X.K=K:=by rfl) :
 PG X (.Tuple es k pos) (gTup K n t):=hK ▸ bv1 hc h hn hst
theorem ab0 (K:W.Frag) {o e:Expr}{es:List Expr}{to:TE}{t:TA}{name:Str}{apos cpos:Pos}{T id:String}{r:V→List V→Hp→VK→Prop}(pa:PlainAttrs T) (slot:Slot T name id) (hty:typeOf (.builtin id)=pure (.type "method_descriptor")) (hm:MtR X id r) (ho:PE X o to) (ha:PA X (e::es) t)
 (hbase:attributeBase o name X.env (eval o X.env)=eval o X.env:=by rfl)
 (hfew:((backTo cpos (starEach (e::es) X.env)).all (fun x=>!x.1) && (backToKw cpos (keywordEach [] X.env)).all (fun x=>x.1.isSome) && decide ((e::es).length+([]:List Keyword).length+(if ([]:List Keyword).isEmpty then 0 else 1)<30))=true:=by rfl)
 (hline:(apos.endLine == cpos.line)=true:=by rfl) (hs:starEach (e::es) X.env=(false,eval e X.env)::starEach es X.env:=by rfl) (hplain:(backTo cpos (starEach es X.env)).any (·.1)=false:=by rfl) (hK:X.K=K:=by rfl) :
 PE X (.Call (.Attribute o name apos) (e::es) [] cpos) (tBM K T r to t):=hK ▸ c62 pa slot hty hm ho ha hbase hfew hline hs hplain
end
theorem a87:bootBuiltins "len"=some (.builtin "len"):=by decide +kernel
theorem ab7:bootBuiltins "isinstance"=some (.builtin "isinstance"):=by decide +kernel
theorem bl4:bootBuiltins "sum"=some (.builtin "sum"):=by decide +kernel
theorem bx8:bootBuiltins "min"=some (.builtin "min"):=by decide +kernel
theorem af4:bootBuiltins "int"=some (.type "int"):=by decide +kernel
theorem bp0:bootBuiltins "bool"=some (.type "bool"):=by decide +kernel
theorem a98:bootBuiltins "list"=some (.type "list"):=by decide +kernel
theorem af5:bootBuiltins "tuple"=some (.type "tuple"):=by decide +kernel
theorem ay8:bootBuiltins "range"=some (.type "range"):=by decide +kernel
end L2
local macro_rules | `(tactic| walk_at "rd") => `(tactic| simp only [L2.tCB, L2.tCons, L2.tNil, L2.tVar, L2.rStr, L2.tNoIf, L2.capV, List.map_nil, List.getElem?_cons_zero, L2.ex_some_and, if_true])
namespace L2
open PySem
theorem le_line {n:Nat}(h:n≤1000000):n≤sizeLine:=Nat.le_trans h (by decide)
theorem nox_K {X:Cx}:X.nox.K=X.K:=rfl
theorem wish_K {X:Cx}{E:Value→Shared→Prop}:(X.wish E).K=X.K:=rfl
section
variable {σ:St} {H:Hp}{Q:VK}{D:Ends}{nn bb cc:St→Hp→Prop}{rr:VK}{t u:TS}{ta tb tc te:TE}{tA tB:TT}{g:TG}{QT:Bool→Hp→Prop}{QA:List V→Hp→Prop}{QS:St→Hp→Prop}
theorem c63 (h:t ⟨u ⟨nn,rr,bb,cc⟩,rr,bb,cc⟩ σ H):tSeq t u ⟨nn,rr,bb,cc⟩ σ H:=h
theorem c64 (h:te σ H fun x H1=>g x σ H1 nn):tAsg te g ⟨nn,rr,bb,cc⟩ σ H:=h
theorem i_name {i:Nat}{v:V}(h:QS (σ.set i (some v)) H):gName i v σ H QS:=h
theorem i_var {i:Nat}{v:V}(e:σ[i]?=some (some v)) (h:Q v H):tVar i σ H Q:=⟨v,e,h⟩
theorem i_c {v:V}(h:Q v H):tC v σ H Q:=h
theorem i_op {r:R2}(h:ta σ H fun x H1=>tb σ H1 fun y H2=>r x y H2 Q):tOp r ta tb σ H Q:=h
theorem i_un {r:V→Hp→VK→Prop}(h:ta σ H fun x H1=>r x H1 Q):tUn r ta σ H Q:=h
theorem i_rU {f:Int→V}{i:Int}(h:Q (f i) H):rU f (.int i) H Q:=⟨i,rfl,h⟩
theorem i_rI {C:Int→Int→Prop}{f:Int→Int→V}{i j:Int}(c:C i j) (h:Q (f i j) H):rI C f (.int i) (.int j) H Q:=⟨i,j,rfl,rfl,c,h⟩
theorem c65 {f:Int→Int→V}{i j:Int}(h:Q (f i j) H):rI0 f (.int i) (.int j) H Q:=⟨i,j,rfl,rfl,h⟩
theorem bp1 {i j:Int}(h:Q (.int (i+j)) H):rPlus (.int i) (.int j) H Q:=h
theorem ah0 {l b:Addr}{xs zs:List V}(h1:H l=some (.lst xs)) (h2:H b=some (.lst zs)) (z:xs.length+zs.length≤sizeLine) (h:New H (.lst (xs++zs)) Q):rPlus (.ref l) (.ref b) H Q:=⟨xs,zs,h1,h2,z,h⟩
theorem af6 {i j:Int}(c:CBig i j) (h:Q (.int (i*j)) H):rTimes (.int i) (.int j) H Q:=⟨c,h⟩
theorem decI (i j:Int):decide (V.int i=V.int j)=decide (i=j):=by rw [Bool.eq_iff_iff]; simp
theorem decS (i j:Str):decide (V.str i=V.str j)=decide (i=j):=by rw [Bool.eq_iff_iff]; simp
theorem c66 {i j:Int}(h:Q (.bl (decide (i=j))) H):rEq (.int i) (.int j) H Q:=⟨rfl,by rw [decI]; exact h⟩
theorem c67 {i j:Str}(h:Q (.bl (!decide (i=j))) H):rNe (.str i) (.str j) H Q:=⟨rfl,by rw [decS]; exact h⟩
theorem bx9 (h:te σ H fun x H'=>∃ k,x=.bl k∧QT k H'):tTest te σ H QT:=h
theorem i_bl {k:Bool}{p:Bool→Prop}(h:p k):∃ j,V.bl k=V.bl j∧p j:=⟨k,rfl,h⟩
theorem c68 (h:tA σ H fun b H1=>if b=true then t D σ H1 else u D σ H1):tIfS tA t u D σ H:=h
theorem i_if (h:tA σ H fun b H1=>if b=true then ta σ H1 Q else tb σ H1 Q):tIf tA ta tb σ H Q:=h
theorem c69 (h:te σ H rr):tRet te ⟨nn,rr,bb,cc⟩ σ H:=h
theorem by0 (h:nn σ H):tNext ⟨nn,rr,bb,cc⟩ σ H:=h
theorem by1 (h:te σ H fun _ H1=>nn σ H1):tDrop te ⟨nn,rr,bb,cc⟩ σ H:=h
theorem by2 {tr:TA}(h:te σ H fun x H1=>tr σ H1 fun xs H2=>QA (x::xs) H2):tCons te tr σ H QA:=h
theorem c70 (h:QA [] H):tNil σ H QA:=h
theorem i_cb {r:List V→Hp→VK→Prop}{ts:TA}(h:ts σ H fun vs H1=>r vs H1 Q):tCB r ts σ H Q:=h
theorem by3 {sp:Sp}{dvs:List V}{E:XK}{ts:TA}(h:ts σ H fun vs H1=>sp (vs++dvs) H1 Q E):tCall sp dvs E ts σ H Q:=h
theorem c71 {ts:TA}(h:ts σ H fun xs H1=>xs.length≤sizeLine∧New H1 (.lst xs) Q):tLstN ts σ H Q:=h
theorem c72 {ts:TA}(h:ts σ H fun xs H1=>xs.length≤sizeLine∧New H1 (.tup xs) Q):tTupN ts σ H Q:=h
theorem by4 {n:Nat}{P:Prop}(h:n≤sizeLine) (p:P):n≤sizeLine∧P:=⟨h,p⟩
theorem i_rgA {j:Int}{P:Prop}(h:-(2 ^ 62)≤j) (h':j<2 ^ 62) (p:P):-(2 ^ 62)≤j∧j<2 ^ 62∧P:=⟨h,h',p⟩
theorem by5 (h:QT true H):tNoIf σ H QT:=h
theorem c73 (h:tA σ H fun c H1=>QT (!c) H1):tNot tA σ H QT:=h
theorem c74 (h:tA σ H fun c H1=>if c=true then tB σ H1 QT else QT false H1):tAnd tA tB σ H QT:=h
theorem i_or (h:tA σ H fun c H1=>if c=true then QT true H1 else tB σ H1 QT):tOr tA tB σ H QT:=h
theorem by6 (h:ta σ H fun x H1=>∃ c,x=.bl c∧if c=true then tb σ H1 Q else Q (.bl false) H1):tAndV ta tb σ H Q:=h
theorem c75 (h:ta σ H fun x H1=>∃ c,x=.bl c∧if c=true then Q (.bl true) H1 else tb σ H1 Q):tOrV ta tb σ H Q:=h
theorem c76 {wi:TI}(h:wi σ H fun J H1=>ForEnd J g t D σ H1):tFor wi g t D σ H:=h
theorem i_lc {wi:TI}{n:Nat}{caps:List Nat}(h:wi σ H fun J H1=>CompEnd J g tA te n caps σ H1 Q):tLC wi g tA te n caps σ H Q:=h
theorem by7 {R:It→Hp→Prop}{ts:TA}(h:ts σ H fun vs H1=>∃ j:Int,vs=[.int j]∧-(2 ^ 62)≤j∧j<2 ^ 62∧R (Itr 0 j.toNat) H1):bv5 ts σ H R:=h
theorem bp2 {K:W.Frag}{R:It→Hp→Prop}(h:te σ H fun x H1=>∃ a,x=.ref a∧(∃ xs,SqL K H1 a xs)∧R (Itl K a) H1):iList K te σ H R:=h
theorem by8 {K:W.Frag}{R:It→Hp→Prop}(h:te σ H fun x H1=>∃ a,x=.ref a∧(∃ xs,SqT K H1 a xs)∧R (Itt K a) H1):iTup K te σ H R:=h
theorem c77 {j:Int}{p:Int→Prop}(h:p j):∃ i:Int,[V.int j]=[V.int i]∧p i:=⟨j,rfl,h⟩
theorem c78 {a:Addr}{p:Addr→Prop}(h:p a):∃ b,V.ref a=V.ref b∧p b:=⟨a,rfl,h⟩
theorem i_bm {K:W.Frag}{T:String}{r:V→List V→Hp→VK→Prop}{to:TE}{ts:TA}(h:to σ H fun x H1=>tyV K T x H1∧ts σ H1 fun xs H2=>r x xs H2 Q):tBM K T r to ts σ H Q:=h
theorem c79 {K:W.Frag}{z:Str}{P:Prop}(h:P):tyV K "str" (.str z) H∧P:=⟨rfl,h⟩
theorem a86 {K:W.Frag}{p:Addr}{xs:List V}{i:Int}{v:V}(h1:SqL K H p xs) (h2:atI xs i=some v) (h:Q v H):rIxL K (.ref p) (.int i) H Q:=⟨p,xs,i,v,rfl,rfl,h1,h2,h⟩
theorem a72 {K:W.Frag}{p:Addr}{xs:List V}{i:Int}{v:V}(h1:SqT K H p xs) (h2:atI xs i=some v) (h:Q v H):rIxT K (.ref p) (.int i) H Q:=⟨p,xs,i,v,rfl,rfl,h1,h2,h⟩
theorem bp3 {K:W.Frag}{z:Str}{i:Int}{c:Nat}(hz:z.length≤sizeLine) (h2:atI z.cps.toList i=some c) (h:Q (.str ⟨#[c]⟩) H):rIx K (.str z) (.int i) H Q:=.inr (.inr ⟨z,i,c,rfl,rfl,hz,h2,h⟩)
theorem i_sl {r:V→Option Int→Option Int→Hp→VK→Prop}{tl th:TO}(h:te σ H fun x H1=>tl σ H1 fun l H2=>th σ H2 fun u H3=>r x l u H3 Q):tSl r te tl th σ H Q:=h
theorem bg1 {QO:Option Int→Hp→Prop}(h:QO none H):tNoPart σ H QO:=h
theorem by9 {QO:Option Int→Hp→Prop}(h:te σ H fun x H1=>∃ i,x=.int i∧QO (some i) H1):tPart te σ H QO:=h
theorem c80 {i:Int}{p:Int→Prop}(h:p i):∃ j,V.int i=V.int j∧p j:=⟨i,rfl,h⟩
theorem b91 {K:W.Frag}{a:Addr}{xs:List V}{lo hi:Option Int}(h1:SqL K H a xs) (h:New H (.lst (cutV xs lo hi)) Q):rSlN K (.ref a) lo hi H Q:=⟨a,xs,rfl,h1,h⟩
theorem bg2 {A B:Prop}(h:A):if true=true then A else B:=iteT h
theorem bg3 {A B:Prop}(h:B):if false=true then A else B:=iteF h
theorem bz0 {A B:Prop}(h:B):if (!true)=true then A else B:=iteF h
theorem as0 {c A B:Prop} [Decidable c] (hc:c) (h:A):if decide c=true then A else B:=by rw [decide_eq_true hc]; exact iteT h
theorem as1 {c A B:Prop} [Decidable c] (hc:¬ c) (h:B):if decide c=true then A else B:=by rw [decide_eq_false hc]; exact iteF h
theorem bl5 {c A B:Prop} [Decidable c] (hc:¬ c) (h:A):if (!decide c)=true then A else B:=by rw [decide_eq_false hc]; exact iteT h
theorem bl6 {c A B:Prop} [Decidable c] (hc:c) (h:B):if (!decide c)=true then A else B:=by rw [decide_eq_true hc]; exact iteF h
theorem am7 {K:W.Frag}{n:Nat}{ts:TGs}{a:Addr}{xs:List V}(h1:SqT K H a xs) (h2:xs.length=n) (h:ts xs σ H QS):gTup K n ts (.ref a) σ H QS:=⟨a,xs,rfl,h1,h2,h⟩
theorem bz1 (h:QS σ H):gNil [] σ H QS:=⟨rfl,h⟩
theorem bp4 {gt:TG}{us:TGs}{v:V}{r:List V}(h:gt v σ H fun σ' H'=>us r σ' H' QS):gCons gt us (v::r) σ H QS:=⟨v,r,rfl,h⟩
theorem bp5 {K:W.Frag}{z:Int}(h:Q (.bl false) H):rIsi K [V.int z,V.ty "bool"] H Q:=⟨_,_,_,false,rfl,.int z,by rfl,h⟩
theorem c81 {K:W.Frag}(h:te σ H fun x H'=>∃ k,TruV K x H' k∧QT k H'):tTru K te σ H QT:=h
theorem bz2 {K:W.Frag}{k:Bool}{p:Bool→Prop}(h:p k):∃ j,TruV K (.bl k) H j∧p j:=⟨k,rfl,h⟩
theorem aa4 {K:W.Frag}{p:Addr}{xs:List V}(h1:SqL K H p xs) (h:Q (.int xs.length) H):rLen K [V.ref p] H Q:=⟨_,_,rfl,.inl ⟨xs,h1,rfl⟩,h⟩
theorem b92 {K:W.Frag}{p:Addr}{xs:List V}(h1:SqT K H p xs) (h:Q (.int xs.length) H):rLen K [V.ref p] H Q:=⟨_,_,rfl,.inr ⟨xs,h1,rfl⟩,h⟩
theorem bz3 {k:Bool}(h:Q (.int (if k then 1 else 0)) H):rToInt [V.bl k] H Q:=.inr ⟨k,rfl,h⟩
theorem c82 {x y:Str}(h:Q (.bl (!(Builtin.Str.occurrences y x 0 y.length 1).isEmpty)) H):rInS (.str x) (.str y) H Q:=⟨x,y,rfl,rfl,h⟩
theorem aa7 {K:W.Frag}{p:Addr}{ys:List V}(h1:SqL K H p ys) (h:New H (.lst ys) Q):rListN K [.ref p] H Q:=⟨p,ys,rfl,.inl h1,h⟩
theorem ap0 {K:W.Frag}{p:Addr}{ys:List V}(h1:SqL K H p ys) (h:New H (.tup ys) Q):rTupleN K [.ref p] H Q:=⟨p,ys,rfl,h1,h⟩
end
end L2
namespace L2
open PySem PySem.Spec PyProof.Rows
section
variable {X:Cx}
end
theorem bg4 {K:W.Frag}{a:Addr}{xs:List V}{te:TE}{tt:TT}{caps:List Nat}{σ:St} {H:Hp}{Q:VK}(hz:xs.length≤sizeLine) (Pv:Nat→List V→Hp→Prop) (h0:Pv 0 [] H) (hl:∀ i acc H,Pv i acc H→acc.length≤i∧SqL K H a xs)
 (hs:∀ i x acc H,xs[i]?=some x→Pv i acc H→∃ p u v,x=.ref p∧SqT K H p [u,v]∧tt (some u::some v::capV caps σ) H fun b H4=>if b=true then te (some u::some v::capV caps σ) H4 fun y H5=>Pv (i+1) (acc++[y]) H5 else Pv (i+1) acc H4)
 (hd:∀ acc H,Pv xs.length acc H→New H (.lst acc) Q):CompEnd (Itl K a) (gTup K 2 (gCons (gName 0) (gCons (gName 1) gNil))) tt te 2 caps σ H Q:=by
 refine ⟨fun i m acc σ' H=>m=xs.length - i∧i≤xs.length∧(∃ u v,σ'=u::v::capV caps σ)∧Pv i acc H,⟨xs.length,by simp,Nat.zero_le _,⟨none,none,rfl⟩,h0⟩,?_⟩
 rintro i m acc σ' H' ⟨rfl,hi,⟨u0,v0,rfl⟩,p⟩
 obtain ⟨hl1,hq⟩:=hl i acc H' p
 by_cases hlt:i<xs.length
 · refine .inr ⟨⟨xs,xs[i],hq,by simp [hlt]⟩,by omega,fun ac σ2 H2=>(∃ u v,σ2=u::v::capV caps σ)∧Pv (i+1) ac H2,fun ac σ2 H2 ⟨e,p'⟩=>⟨xs.length - (i+1),by omega,rfl,hlt,e,p'⟩,fun x H2 y=>?_⟩
   obtain ⟨e,y⟩:=y
   subst e
   obtain ⟨q,u,v,rfl,hT,hst⟩:=hs i x acc _ (y xs hq) p
   have eN:∀ ac H5,((∃ u1 v1,some u::some v::capV caps σ=u1::v1::capV caps σ)∧Pv (i+1) ac H5)=Pv (i+1) ac H5:=fun ac H5=>propext ⟨And.right,fun p=>⟨⟨_,_,rfl⟩,p⟩⟩
   refine ⟨q,[u,v],rfl,hT,rfl,u,[v],rfl,v,[],rfl,rfl,?_⟩
   show tt (some u::some v::capV caps σ) _ fun b H4=>if b=true then te (some u::some v::capV caps σ) H4 fun y H5=>((∃ u1 v1,some u::some v::capV caps σ=u1::v1::capV caps σ)∧Pv (i+1) (acc++[y]) H5) else ((∃ u1 v1,some u::some v::capV caps σ=u1::v1::capV caps σ)∧Pv (i+1) acc H4)
   simp only [eN]
   exact hst
 · have e:i=xs.length:=by omega
   subst e
   exact .inl ⟨⟨xs,hq,Nat.le_refl _⟩,New.to (hd acc H' p)⟩
section
variable {σ:St} {H:Hp}{Q:VK}
theorem a96 {l:Addr}{xs:List V}{y:V}(h1:H l=some (.lst xs)) (hz:xs.length<sizeLine) (h:Q .non (upd H l (.lst (xs++[y])))):rAppend (.ref l) [y] H Q:=⟨l,xs,y,rfl,rfl,h1,hz,h⟩
theorem af7 {K:W.Frag}{l:Addr}{xs:List V}{P:Prop}(h1:SqL K H l xs) (h:P):tyV K "list" (.ref l) H∧P:=⟨.inl ⟨rfl,xs,h1⟩,h⟩
end
def Tups (H H':Hp):Prop:=∀ b xs,H b=some (.tup xs)→H' b=some (.tup xs)
theorem Same.tups {H H':Hp}(s:Same H H'):Tups H H':=fun b xs h=>s b _ h
theorem Tups.trans {H H1 H2:Hp}(a:Tups H H1) (b:Tups H1 H2):Tups H H2:=fun c xs h=>b c xs (a c xs h)
theorem Tups.upd {H:Hp}{l:Addr}{xs:List V}{o:HO}(h:H l=some (.lst xs)):Tups H (upd H l o):=fun b ys e=>by rw [a09 (ae0 e h (fun z=>nomatch z))]; exact e
end L2
namespace L2
open PySem
theorem Same.updNew {H H1:Hp}{l:Addr}{o:HO}(s:Same H H1) (h:H l=none):Same H (upd H1 l o):=fun b u e=>by rw [a09 (a06 e h)]; exact s b u e
end L2
namespace L2
open PySem PySem.Spec PyProof.Rows
end L2
namespace L2
open PySem
end L2
namespace L2
open PySem PySem.Spec PyProof.Rows
end L2
namespace L2
open PySem
inductive Tr where
 | non
 | int (i:Int)
 | str (s:Str)
 | tup (xs:List Tr)
 | lst (xs:List Tr)
mutual
def Tr.At (H:Hp):Tr→V→List Addr→Prop
 | .non,v,fs=>v=.non∧fs=[]
 | .int i,v,fs=>v=.int i∧fs=[]
 | .str s,v,fs=>v=.str s∧fs=[]
 | .tup xs,v,fs=>∃ a vs,v=.ref a∧H a=some (.tup vs)∧Tr.Ats H xs vs fs
 | .lst xs,v,fs=>∃ a vs gs,v=.ref a∧H a=some (.lst vs)∧Tr.Ats H xs vs gs∧fs=a::gs
def Tr.Ats (H:Hp):List Tr→List V→List Addr→Prop
 | [],vs,fs=>vs=[]∧fs=[]
 | x::xs,vs,fs=>∃ v ws f g,vs=v::ws∧fs=f++g∧Tr.At H x v f∧Tr.Ats H xs ws g
end
def Keep (fs:List Addr) (H H':Hp):Prop:=Tups H H'∧∀ a∈fs,∀ xs,H a=some (.lst xs)→H' a=some (.lst xs)
theorem Same.keep {H H':Hp}(s:Same H H') (fs:List Addr):Keep fs H H':=⟨s.tups,fun a _ xs h=>s a _ h⟩
theorem Keep.trans {fs:List Addr}{H H1 H2:Hp}(a:Keep fs H H1) (b:Keep fs H1 H2):Keep fs H H2:=⟨a.1.trans b.1,fun c m xs h=>b.2 c m xs (a.2 c m xs h)⟩
theorem Keep.sub {fs gs:List Addr}{H H':Hp}(k:Keep fs H H') (h:∀ a∈gs,a∈fs):Keep gs H H':=⟨k.1,fun a m=>k.2 a (h a m)⟩
mutual
theorem Tr.At.mono {H H':Hp}:∀ {x:Tr}{v:V}{fs:List Addr},x.At H v fs→Keep fs H H'→x.At H' v fs
 | .non,_,_,h,_=>by simpa only [Tr.At] using h
 | .int _,_,_,h,_=>by simpa only [Tr.At] using h
 | .str _,_,_,h,_=>by simpa only [Tr.At] using h
 | .tup xs,v,fs,h,k=>by
   simp only [Tr.At] at h ⊢
   obtain ⟨a,vs,e,g,r⟩:=h
   exact ⟨a,vs,e,k.1 _ _ g,Tr.Ats.mono r k⟩
 | .lst xs,v,fs,h,k=>by
   simp only [Tr.At] at h ⊢
   obtain ⟨a,vs,gs,e,g,r,rfl⟩:=h
   exact ⟨a,vs,gs,e,k.2 _ (by simp) _ g,Tr.Ats.mono r (k.sub fun b m=>by simp [m]),rfl⟩
theorem Tr.Ats.mono {H H':Hp}:∀ {xs:List Tr}{vs:List V}{fs:List Addr},Tr.Ats H xs vs fs→Keep fs H H'→Tr.Ats H' xs vs fs
 | [],_,_,h,_=>by simpa only [Tr.Ats] using h
 | x::xs,vs,fs,h,k=>by
   simp only [Tr.Ats] at h ⊢
   obtain ⟨v,ws,f,g,e,rfl,a,b⟩:=h
   exact ⟨v,ws,f,g,e,rfl,Tr.At.mono a (k.sub fun c m=>by simp [m]),Tr.Ats.mono b (k.sub fun c m=>by simp [m])⟩
end
theorem Tr.Ats.snoc {H:Hp}:∀ {xs:List Tr}{vs:List V}{fs gs:List Addr}{x:Tr}{v:V},Tr.Ats H xs vs fs→x.At H v gs→Tr.Ats H (xs++[x]) (vs++[v]) (fs++gs)
 | [],vs,fs,gs,x,v,h,a=>by
   simp only [Tr.Ats] at h
   obtain ⟨rfl,rfl⟩:=h
   simp only [List.nil_append,Tr.Ats]
   exact ⟨v,[],gs,[],rfl,by simp,a,rfl,rfl⟩
 | y::xs,vs,fs,gs,x,v,h,a=>by
   simp only [Tr.Ats] at h
   obtain ⟨w,ws,f,g,rfl,rfl,b,c⟩:=h
   simp only [List.cons_append,Tr.Ats]
   exact ⟨w,ws++[v],f,g++gs,rfl,by simp,b,c.snoc a⟩
theorem Tr.Ats.len {H:Hp}:∀ {xs:List Tr}{vs:List V}{fs:List Addr},Tr.Ats H xs vs fs→vs.length=xs.length
 | [],vs,fs,h=>by
   simp only [Tr.Ats] at h
   obtain ⟨rfl,rfl⟩:=h
   rfl
 | y::xs,vs,fs,h=>by
   simp only [Tr.Ats] at h
   obtain ⟨w,ws,f,g,rfl,rfl,b,c⟩:=h
   simp [c.len]
theorem Tr.Ats.get {H:Hp}:∀ {xs:List Tr}{vs:List V}{fs:List Addr},Tr.Ats H xs vs fs→∀ (i:Nat) (v:V),vs[i]?=some v→∃ x f,xs[i]?=some x∧x.At H v f∧∀ a∈f,a∈fs
 | [],vs,fs,h,i,v,e=>by
   simp only [Tr.Ats] at h
   obtain ⟨rfl,rfl⟩:=h
   simp at e
 | y::xs,vs,fs,h,i,v,e=>by
   simp only [Tr.Ats] at h
   obtain ⟨w,ws,f,g,rfl,rfl,b,c⟩:=h
   cases i with
   | zero =>
     simp at e
     subst e
     exact ⟨y,f,rfl,b,fun a m=>by simp [m]⟩
   | succ i =>
     obtain ⟨x,f',h1,h2,h3⟩:=c.get i v (by simpa using e)
     exact ⟨x,f',by simpa using h1,h2,fun a m=>by simp [h3 a m]⟩
end L2
namespace L2
open PySem PySem.Spec PyProof.Rows
mutual
def Tr.h:Tr→Nat
 | .non=>0
 | .int _=>0
 | .str _=>0
 | .tup xs=>Tr.hs xs+1
 | .lst xs=>Tr.hs xs+1
def Tr.hs:List Tr→Nat
 | []=>0
 | x::xs=>max x.h (Tr.hs xs)
end
theorem ay9 (n:Nat):((List.range n).all fun _=>true)=true:=by simp
theorem a60 (A:Around):A.in1.units=A.units+1:=rfl
section
variable {X:Cx}{pins:List (Addr×Obj)}{σ:St} {H:Hp}{s:Shared}
mutual
theorem Tr.eqAt (I:Inv X pins σ H s):∀ {t:Tr}{A:Around}{v w:V}{fs gs:List Addr}{u z:Value},t.At H v fs→t.At H w gs→RelV v u→RelV w z→A.units+t.h<cLine→SeqAt.EqAt A s u z true
 | .non,A,v,w,fs,gs,u,z,h1,h2,r1,r2,hu=>by
   simp only [Tr.At] at h1 h2
   obtain ⟨rfl,-⟩:=h1
   obtain ⟨rfl,-⟩:=h2
   cases r1
   cases r2
   exact SeqAt.EqAt.same _
 | .int i,A,v,w,fs,gs,u,z,h1,h2,r1,r2,hu=>by
   simp only [Tr.At] at h1 h2
   obtain ⟨rfl,-⟩:=h1
   obtain ⟨rfl,-⟩:=h2
   obtain ⟨t1,rfl⟩:=r1
   obtain ⟨t2,rfl⟩:=r2
   have:=SeqAt.EqAt.int_int (A:=A) (s:=s) i t1 i t2
   simpa using this
 | .str i,A,v,w,fs,gs,u,z,h1,h2,r1,r2,hu=>by
   simp only [Tr.At] at h1 h2
   obtain ⟨rfl,-⟩:=h1
   obtain ⟨rfl,-⟩:=h2
   obtain ⟨t1,rfl⟩:=r1
   obtain ⟨t2,rfl⟩:=r2
   have:=SeqAt.EqAt.str_str (A:=A) (s:=s) i t1 i t2
   simpa using this
 | .tup xs,A,v,w,fs,gs,u,z,h1,h2,r1,r2,hu=>by
   simp only [Tr.At] at h1 h2
   obtain ⟨a,vs,rfl,e1,c1⟩:=h1
   obtain ⟨b,ws,rfl,e2,c2⟩:=h2
   cases r1
   cases r2
   by_cases hab:a=b
   · subst hab
     exact SeqAt.EqAt.same _
   refine SeqAt.EqAt.of_refs hab ?_
   obtain ⟨is1,q1,p1,_⟩:=I.tuple (SqT.of e1)
   obtain ⟨is2,q2,p2,_⟩:=I.tuple (SqT.of e2)
   simp only [Tr.h] at hu
   have hl:is1.length=is2.length:=by rw [← q1.length,←q2.length,c1.len,c2.len]
   have:=SeqAt.RcAt.tuples (A:=A) (s:=s) (e:=fun _=>true) p1 p2 (by omega) (fun j h1 h2=>by
    have:=Tr.eqAts I (A:=A.in1) c1 c2 q1 q2 (by rw [a60]; omega) j (by simpa using h1) (by simpa using h2)
    simpa using this)
   simpa [hl,ay9] using this
 | .lst xs,A,v,w,fs,gs,u,z,h1,h2,r1,r2,hu=>by
   simp only [Tr.At] at h1 h2
   obtain ⟨a,vs,_,rfl,e1,c1,_⟩:=h1
   obtain ⟨b,ws,_,rfl,e2,c2,_⟩:=h2
   cases r1
   cases r2
   by_cases hab:a=b
   · subst hab
     exact SeqAt.EqAt.same _
   refine SeqAt.EqAt.of_refs hab ?_
   obtain ⟨is1,q1,p1,_⟩:=I.list (SqL.of e1)
   obtain ⟨is2,q2,p2,_⟩:=I.list (SqL.of e2)
   simp only [Tr.h] at hu
   have hl:is1.length=is2.length:=by rw [← q1.length,←q2.length,c1.len,c2.len]
   have:=SeqAt.RcAt.lists (A:=A) (s:=s) (e:=fun _=>true) p1.isList p2.isList (by simpa using hl) (by omega) (fun j h1 h2=>by
    have:=Tr.eqAts I (A:=A.in1) c1 c2 q1 q2 (by rw [a60]; omega) j (by simpa using h1) (by simpa using h2)
    simpa using this)
   simpa [ay9] using this
theorem Tr.eqAts (I:Inv X pins σ H s):∀ {ts:List Tr}{A:Around}{vs ws:List V}{fs gs:List Addr}{us zs:List Value},Tr.Ats H ts vs fs→Tr.Ats H ts ws gs→Vals vs us→Vals ws zs→A.units+Tr.hs ts<cLine →
 ∀ (j:Nat) (h1:j<us.length) (h2:j<zs.length),SeqAt.EqAt A s us[j] zs[j] true
 | [],A,vs,ws,fs,gs,us,zs,c1,c2,q1,q2,hu,j,h1,h2=>by
   simp only [Tr.Ats] at c1
   obtain ⟨rfl,-⟩:=c1
   cases q1
   exact absurd h1 (by simp)
 | t::ts,A,vs,ws,fs,gs,us,zs,c1,c2,q1,q2,hu,j,h1,h2=>by
   simp only [Tr.Ats] at c1 c2
   obtain ⟨v,vs,f,g,rfl,rfl,a1,b1⟩:=c1
   obtain ⟨w,ws,f',g',rfl,rfl,a2,b2⟩:=c2
   cases q1 with
   | cons r1 q1 =>
   cases q2 with
   | cons r2 q2 =>
   simp only [Tr.hs] at hu
   cases j with
   | zero=>exact Tr.eqAt I a1 a2 r1 r2 (by omega)
   | succ j=>exact Tr.eqAts I b1 b2 q1 q2 (by omega) j (by simpa using h1) (by simpa using h2)
end
end
theorem am8 {it l:Addr}{items:Array Value}{h h':Heap}(hl:h.IsList l items) (e:Heap.ExtBut it h h') (hne:l≠it):h'.IsList l items:=by
 obtain ⟨o,ho,r⟩:=hl
 exact ⟨o,e l o hne ho,r⟩
section
variable {prog:Program}{w:World}{A:Around}{E:Value→Shared→Prop}
theorem as2 {it l:Addr}{items:Array Value}(hne:l≠it):∀ (n i:Nat) (s:Shared) (Q:List Value→Shared→Prop),s.heap.IsListIter it l i→s.heap.IsList l items→i+n≤items.size →
 (∀ h',h'.IsListIter it l (i+n)→Heap.SameBut it s.heap h'→Q ((items.toList.drop i).take n) { s with heap:=h' })→wpAny (model prog w) A (draw (.ref it) n) Q E s
 | 0,i,s,Q,hit,_,_,hQ=>by
   show wpAny _ _ (pure []) Q E s
   exact wpAny_pure (by simpa using hQ s.heap hit (Heap.SameBut.refl ..))
 | n+1,i,s,Q,hit,ht,hle,hQ=>by
   have hlt:i<items.size:=by omega
   show wpAny _ _ (pyNext (.ref it) >>= _) Q E s
   refine wB (wpAny_pyNext_list_item hit ht (x:=items[i]) (by simp [hlt]) fun h1 hit1 hs1=>?_)
   refine wB (wpAny_holding (as2 hne n (i+1) _ _ hit1 (am8 ht hs1.extBut hne) (by omega) fun h2 hit2 hs2=>wpAny_pure ?_))
   have hd:items.toList.drop i=items[i]::items.toList.drop (i+1):=by simp [List.drop_eq_getElem_cons,hlt]
   have:=hQ h2 (by rw [show i+(n+1)=i+1+n by omega]; exact hit2) (hs1.trans hs2)
   rw [hd,List.take_succ_cons] at this
   exact this
theorem ai1 {s:Shared}{l:Addr}{items:Array Value}{Q:List Value→Shared→Prop}(hh:A.handled=none) (ht:s.heap.IsList l items)
 (hQ:∀ h',Heap.ExtBut s.heap.objs.size s.heap h'→Q items.toList { s with heap:=h' }):wpAny (model prog w) A (unpackItems (.ref l) items.size none) Q E s:=by
 have hlt:l≠s.heap.objs.size:=by obtain ⟨o,ho,_⟩:=ht; exact Nat.ne_of_lt (Heap.lt_size ho)
 unfold unpackItems
 refine wB ?_
 unfold notIterableAtAll
 refine wB (wpAny_specialOf ht.typeIs slot_list_iter.lookup ?_)
 refine wpAny_pure ?_
 simp only [Bool.false_eq_true,if_false]
 refine wB (wpAny_holding (wpAny_pyIter_list ht ?_))
 have hp:(s.heap.push { cls:=.type "list_iterator",data:=.fields #[.ref l,.int 0 0] }).IsList l items:=by
  obtain ⟨o,ho,r⟩:=ht
  exact ⟨o,gP _ ho,r⟩
 refine wB (wpAny_holding (as2 hlt items.size 0 _ _ ⟨_,Heap.get?_push_size _ rfl,rfl,rfl⟩ hp (by omega) fun h1 hit1 hs1=>?_))
 have hall:List.take items.size (List.drop 0 items.toList)=items.toList:=by
  rw [List.drop_zero]; exact List.take_of_length_le (by simp)
 rw [hall,if_neg (by simp)]
 refine wB (wpAny_holding (wpAny_pyNext_list_end hh hit1 (am8 hp hs1.extBut hlt) (by simp) fun h2 he2=>?_))
 simp only [Option.isSome_none,Bool.false_eq_true,if_false]
 exact wpAny_pure (hQ h2 fun b o hb e=>he2 b o hb (hs1.extBut b o hb (gP _ e)))
end
section
variable {X:Cx}{pos:Pos}
def gLst (K:W.Frag) (n:Nat) (t:TGs):TG:=fun v σ H Q=>∃ a xs,v=.ref a∧SqL K H a xs∧xs.length=n∧t xs σ H Q
theorem b93 (K:W.Frag) {es:List Expr}{k:Nat}{t:TGs}{n:Nat}(hc:X.calm=true) (h:PGs X es t) (hn:(assignEach es X.env).length=n:=by rfl) (hst:(assignEach es X.env).findIdx? (·.1)=none:=by rfl) (hK:X.K=K:=by rfl) :
 PG X (.Tuple es k pos) (gLst K n t):=by
 subst hK
 intro pins s σ H v u Q I r hw
 obtain ⟨a,xs,e1,hq,hl,hw⟩:=hw
 subst e1
 cases r
 obtain ⟨its,rv,ht,hz⟩:=I.list hq
 rw [PySem.arm_assign_Tuple]
 refine wB (wpAny_standAt ?_)
 unfold unpack
 rw [hst,show (assignEach es X.env).length=its.toArray.size by simp [hn,←hl,rv.length]]
 refine wB (wpAny_holding (ai1 (I.ok.hd hc) ht.isList fun h' hx=>?_))
 have I1:Inv X pins σ H { s with heap:=h' }:=I.kept (t':=s.toks) fun b o e=>hx b o (Nat.ne_of_lt (Heap.lt_size e)) e
 exact h pins _ σ H xs _ Q I1 (by simpa using rv) hw
theorem bl7 {K:W.Frag}{σ:St} {H:Hp}{QS:St→Hp→Prop}{n:Nat}{ts:TGs}{a:Addr}{xs:List V}(h1:SqL K H a xs) (h2:xs.length=n) (h:ts xs σ H QS):gLst K n ts (.ref a) σ H QS:=⟨a,xs,rfl,h1,h2,h⟩
end
end L2
namespace L2
open PySem
section
variable {H:Hp}{v:V}{fs:List Addr}
end
section
variable {H:Hp}{v:V}{fs:List Addr}
end
end L2
namespace L2
open PySem PySem.Spec PyProof.Rows
section
variable {X:Cx}
end
end L2
namespace L2
def keptP (ws:List (Option Nat)) (n:Nat):List Nat:=(List.range n).filter fun i=>decide (ws[i]?=some none)
def kept (ws:List (Option Nat)):List Nat:=keptP ws ws.length
end L2
namespace L2
open PySem
section
variable {prog:Program}{w:World}{K:Type} [DecidableEq K] {knd:KeyKind prog w K}{A:Around}{E:Value→Shared→Prop}{s:Shared}
end
section
variable {prog:Program}{w:World}{K:Type} [DecidableEq K] {knd:KeyKind prog w K}{A:Around}{E:Value→Shared→Prop}{s:Shared}
end
end L2
namespace L2
open PySem PySem.Spec PyProof.Rows
section
variable {X:Cx}{pins:List (Addr×Obj)}{σ:St} {H:Hp}{s:Shared}
theorem Inv.turnedL {t':Nat}{h':Heap}{ch:List Addr}(I:Inv X pins σ H s) (k:∀ b o,b∉ch→s.heap.get? b=some o→h'.get? b=some o) (hf:∀ b∈ch,FpOk X pins H b):Inv X pins σ H { s with heap:=h',toks:=t' }:=by
 have nit:∀ b u,H b=some u→b∉ch:=fun b u e z=>by rw [(hf b z).1] at e; cases e
 refine I.step (g':=s.gens) (d':=s.drawn) (ch:=ch) (fun b hb=>⟨(hf b hb).2.2.2.1,(hf b hb).2.1,(hf b hb).2.2.2.2.1,(hf b hb).2.2.2.2.2⟩) (fun b o _ _ hc e _=>k b o hc e) (fun b o _ _ hc e _=>⟨o.slots,k b o hc e⟩) (fun _ _ _ _ n=>n)
  (fun b o hc e=>⟨o,k b o hc e⟩) (fun _ _ e=>e) (fun _ _ _ e=>e) (fun b ps e=>⟨#[],by rw [e]; simp⟩) (fun m hm=>?_) (fun b u e=>?_) I.bare
 · obtain ⟨o,es,ep,ho,r⟩:=hm
   exact ⟨o,es,ep,k _ o (fun z=>(hf _ z).2.1 rfl) ho,r⟩
 · refine (I.hok b u e).stay (fun c v hc q=>k c v ?_ q) (fun _ q=>q) fun _ _ q=>q
   rcases hc with z | z
   · rw [z]; exact nit b u e
   · exact nit c _ z
end
def Ite (K:W.Frag) (a:Addr):It :=
 ⟨fun i H=>∃ xs x,SqL K H a xs∧xs[i]?=some x,fun i H v H'=>∃ p y,v=.ref p∧H p=none∧Same H H'∧H' p=some (.tup [.int (i:Nat),y])∧∀ xs,SqL K H a xs→xs[i]?=some y,fun i H=>∃ xs,SqL K H a xs∧xs.length≤i⟩
theorem b94 {P:Program}{w:World}{K:W.Frag}{elts:List Expr}{x1:Nat}{pos:Pos}(a e it:Addr) (hne:e≠it) :
 Turn P w K (.Tuple elts x1 pos) (Ite K a) [e,it] e (fun i h=>(∃ old,IsEnum h e it (i:Nat) old)∧h.IsListIter it a i) where
 mem:=by simp
 obj:=fun i h st b hb=>by
  obtain ⟨⟨old,he⟩,o,e2,c,d⟩:=st
  rcases (by simpa using hb:b=e∨b=it) with rfl | rfl
  · exact ⟨_,he,fun v z=>by cases z⟩
  · exact ⟨o,e2,fun v z=>by rw [d] at z; cases z⟩
 keep:=fun i h h' st k=>⟨let ⟨old,he⟩:=st.1; ⟨old,k e (by simp) _ he⟩,st.2.at fun o x=>k it (by simp) o x⟩
 item:=by
  intro X hP hw hK hc i pins s σ H E I hf st hg
  subst hP hw hK
  obtain ⟨xs,x,hq,hx⟩:=hg
  obtain ⟨its,rv,p,hz⟩:=I.list hq
  obtain ⟨u,hu,ru⟩:=rv.get hx
  obtain ⟨⟨old,he⟩,hit⟩:=st
  have helt:e<s.heap.objs.size:=Heap.lt_size he
  have hilt:it<s.heap.objs.size:=by obtain ⟨_,q,_⟩:=hit; exact Heap.lt_size q
  refine wpAny_pyNext_enum_item he hit p.isList (x:=u) (by simpa using hu) hne fun h' ho hit' hT hsz hk=>?_
  have fr:H s.heap.objs.size=none:=I.hok.fresh (Nat.le_refl _)
  have I1:Inv X pins σ H { s with heap:=h',toks:=s.toks+1 }:=I.turnedL (ch:=[e,it]) (fun b o hb q=>hk b o (fun z=>hb (by simp [z])) (fun z=>hb (by simp [z])) q) hf
  have I2:Inv X pins σ (upd H s.heap.objs.size (.tup [.int (i:Nat),x])) { s with heap:=h',toks:=s.toks+1 }:=I1.adopt (o:=.tup [.int (i:Nat),x]) fr I.sz (Nat.ne_of_gt I.lt) (fun y c ec z=>by
   obtain ⟨v,q⟩:=I.cell y c ec
   exact absurd q.lt (by rw [z]; exact Nat.lt_irrefl _)) (fun q hq z=>absurd (Heap.lt_size (I.pin q hq).1) (by rw [z]; exact Nat.lt_irrefl _))
   ⟨le_line (by simp),[.int (i:Nat) s.toks,u],.cons ⟨_,rfl⟩ (.cons ru .nil),⟨_,hT,rfl,_,rfl⟩⟩
  have ne:∀ b∈[e,it],b≠s.heap.objs.size:=fun b hb=>by
   rcases (by simpa using hb:b=e∨b=it) with rfl | rfl
   · exact Nat.ne_of_lt helt
   · exact Nat.ne_of_lt hilt
  have hf2:∀ b∈[e,it],FpOk X pins (upd H s.heap.objs.size (.tup [.int (i:Nat),x])) b:=fun b hb=>⟨by rw [a09 (ne b hb)]; exact (hf b hb).1,(hf b hb).2⟩
  refine ⟨_,rfl,wpAny_letOwnedTupleGo_enum ho fun h2 he2 hs2=>⟨.ref s.heap.objs.size,_,I2.turnedL (t':=s.toks+1) (ch:=[e]) (fun b o hb q=>(hs2.2 b (fun z=>hb (by simp [z]))).trans q) (fun b hb=>hf2 b (by simp at hb; simp [hb])),rfl,⟨s.heap.objs.size,x,rfl,fr,Same.new fr,a33,fun ys hy=>by rw [I.list_inj hy hq]; exact hx⟩,⟨⟨_,by simpa using he2⟩,hit'.at fun o q=>(hs2.2 it (Ne.symm hne)).trans q⟩,fun b hb=>(hf2 b hb).1⟩⟩
 done:=by
  intro X hP hw hK hc i pins s σ H E I hf st hg
  subst hP hw hK
  obtain ⟨xs,hq,hx⟩:=hg
  obtain ⟨its,rv,p,hz⟩:=I.list hq
  obtain ⟨⟨old,he⟩,hit⟩:=st
  have hl:=rv.length
  exact wpAny_pyNext_enum_end (I.ok.hd hc) he hit p.isList (by simp; omega) fun h' eb=>⟨rfl,I.turnedL (t':=s.toks) (ch:=[it]) (fun b o hb q=>eb b o (fun z=>hb (by simp [z])) q) (fun b hb=>hf b (by simp at hb; simp [hb]))⟩
 self:=fun A i s Q E st h=>let ⟨old,he⟩:=st.1; wpAny_pyIter_enum he h
section
variable {X:Cx}{elts:List Expr}{x1:Nat}{tpos:Pos}
def iEnum (K:W.Frag) (ta:TA):TI:=fun σ H R=>ta σ H fun vs H1=>∃ a,vs=[.ref a]∧(∃ xs,SqL K H1 a xs)∧R (Ite K a) H1
theorem aw1 (K:W.Frag) {a:Expr}{ta:TA}{p pos:Pos}(hg:Gl X "enumerate") (hm:X.mg "enumerate"=none) (ha:PA X [a] ta) (hs:starEach [a] X.env=[(false,eval a X.env)]:=by rfl) (hK:X.K=K:=by rfl):PI X (.Tuple elts x1 tpos) (.Call (.Name "enumerate" p) [a] [] pos) (iEnum K ta):=by
 subst hK
 intro pins s σ H R I h
 refine Call_ (ae7 I hg hm boot_enumerate (PyProof.Rows.callWith_type1 (thn (ha pos pins s σ H _ I h) fun us s1 ⟨vs,H1,I1,r1,q1⟩=>?_) hs rfl))
 obtain ⟨l,e,⟨xs,hq⟩,q⟩:=q1
 subst e
 obtain ⟨u,rfl,ru⟩:=b40 r1
 cases ru
 obtain ⟨its,rv,pl,hz⟩:=I1.list hq
 refine call_enumerate_list pl.isList fun h' he hit hsz hk=>?_
 refine wpAny_pyIter_enum he ?_
 refine ⟨s1.heap.objs.size+1,[s1.heap.objs.size+1,s1.heap.objs.size],_,_,H1,rfl,I1.kept (t':=s1.toks) hk,b94 l _ _ (Nat.succ_ne_self _),⟨⟨_,he⟩,hit⟩,fun b hb=>?_,q⟩
 have hb':s1.heap.objs.size≤b:=by
  rcases (by simpa using hb:b=s1.heap.objs.size+1∨b=s1.heap.objs.size) with rfl | rfl <;> omega
 exact I1.fpOk hb' (I1.hok.fresh hb')
theorem bz4 {K:W.Frag}{σ:St} {H:Hp}{R:It→Hp→Prop}{ts:TA}(h:ts σ H fun vs H1=>∃ a,vs=[.ref a]∧(∃ xs,SqL K H1 a xs)∧R (Ite K a) H1):iEnum K ts σ H R:=h
theorem bz5 {a:Addr}{p:Addr→Prop}(h:p a):∃ b,[V.ref a]=[V.ref b]∧p b:=⟨a,rfl,h⟩
theorem bp6 {K:W.Frag}{a:Addr}{xs:List V}{te:TE}{tt:TT}{caps:List Nat}{σ:St} {H:Hp}{Q:VK}(hz:xs.length≤sizeLine) (Pv:Nat→List V→Hp→Prop) (h0:Pv 0 [] H) (hl:∀ i acc H,Pv i acc H→acc.length≤i∧SqL K H a xs)
 (hs:∀ i x acc H H2,xs[i]?=some x→Pv i acc H→Same H H2→tt (some (.int (i:Nat))::some x::capV caps σ) H2 fun b H4=>if b=true then te (some (.int (i:Nat))::some x::capV caps σ) H4 fun y H5=>Pv (i+1) (acc++[y]) H5 else Pv (i+1) acc H4)
 (hd:∀ acc H,Pv xs.length acc H→New H (.lst acc) Q):CompEnd (Ite K a) (gTup K 2 (gCons (gName 0) (gCons (gName 1) gNil))) tt te 2 caps σ H Q:=by
 refine ⟨fun i m acc σ' H=>m=xs.length - i∧i≤xs.length∧(∃ u v,σ'=u::v::capV caps σ)∧Pv i acc H,⟨xs.length,by simp,Nat.zero_le _,⟨none,none,rfl⟩,h0⟩,?_⟩
 rintro i m acc σ' H' ⟨rfl,hi,⟨u0,v0,rfl⟩,p⟩
 obtain ⟨hl1,hq⟩:=hl i acc H' p
 by_cases hlt:i<xs.length
 · refine .inr ⟨⟨xs,xs[i],hq,by simp [hlt]⟩,by omega,fun ac σ2 H2=>(∃ u v,σ2=u::v::capV caps σ)∧Pv (i+1) ac H2,fun ac σ2 H2 ⟨e,p'⟩=>⟨xs.length - (i+1),by omega,rfl,hlt,e,p'⟩,fun x H2 y=>?_⟩
   obtain ⟨q,z,rfl,hn,sm,hT,hy⟩:=y
   have hst:=hs i z acc H' H2 (hy xs hq) p sm
   have eN:∀ ac H5,((∃ u1 v1,some (V.int (i:Nat))::some z::capV caps σ=u1::v1::capV caps σ)∧Pv (i+1) ac H5)=Pv (i+1) ac H5:=fun ac H5=>propext ⟨And.right,fun p=>⟨⟨_,_,rfl⟩,p⟩⟩
   refine ⟨q,[.int (i:Nat),z],rfl,SqT.of hT,rfl,.int (i:Nat),[z],rfl,z,[],rfl,rfl,?_⟩
   show tt (some (.int (i:Nat))::some z::capV caps σ) _ fun b H4=>if b=true then te (some (.int (i:Nat))::some z::capV caps σ) H4 fun y H5=>((∃ u1 v1,some (V.int (i:Nat))::some z::capV caps σ=u1::v1::capV caps σ)∧Pv (i+1) (acc++[y]) H5) else ((∃ u1 v1,some (V.int (i:Nat))::some z::capV caps σ=u1::v1::capV caps σ)∧Pv (i+1) acc H4)
   simp only [eN]
   exact hst
 · have e:i=xs.length:=by omega
   subst e
   exact .inl ⟨⟨xs,hq,Nat.le_refl _⟩,New.to (hd acc H' p)⟩
end
section
variable {X:Cx}
def bz6:List V→Hp→VK→Prop:=fun xs H Q=>∃ a b:Int,xs=[.int a,.int b]∧Q (.int (min a b)) H
theorem b50 (hh:X.calm=true:=by rfl):CallR X (.builtin "min") bz6:=by
 intro pins s σ H xs us Q I r h
 obtain ⟨a,b,rfl,q⟩:=h
 obtain ⟨u,v,rfl,⟨t1,rfl⟩,⟨t2,rfl⟩⟩:=bf0 r
 refine min_two_ints (I.ok.hd hh) fun h' tk hk=>?_
 have I1:Inv X pins σ H { s with heap:=h',toks:=tk }:=I.kept hk
 by_cases c:b<a
 · rw [if_pos c]
   exact ⟨.int b,H,I1,⟨_,rfl⟩,by rw [show min a b=b by omega] at q; exact q⟩
 · rw [if_neg c]
   exact ⟨.int a,H,I1,⟨_,rfl⟩,by rw [show min a b=a by omega] at q; exact q⟩
theorem bz7 {H:Hp}{Q:VK}{a b:Int}(h:Q (.int (min a b)) H):bz6 [.int a,.int b] H Q:=⟨a,b,rfl,h⟩
def rIsN:R2:=fun x y H Q=>y=.non∧Q (.bl (decide (x=.non))) H
theorem bp7:OpR X (compareOp .Is) rIsN:=bv9
theorem c83 {x:V}{H:Hp}{Q:VK}(h:Q (.bl (decide (x=.non))) H):rIsN x .non H Q:=⟨rfl,h⟩
theorem bz8 {K:W.Frag}{H:Hp}{Q:VK}{a:Addr}{xs:List V}(e:H a=some (.tup xs)) (h:Q (.bl true) H):rIsi K [V.ref a,V.ty "tuple"] H Q:=⟨_,_,_,true,rfl,.tup e,rfl,h⟩
theorem bz9 {to ti:TE}{t:TSet}{v:V}{σ:St} {H:Hp}{Q:St→Hp→Prop}(h:to σ H fun o H1=>ti σ H1 fun i H2=>t o i v H2 fun H3=>Q σ H3):gSub to ti t v σ H Q:=h
theorem as3 {H:Hp}{Q:Hp→Prop}{p:Addr}{xs:List V}{k:Int}{j:Nat}{v:V}(h1:H p=some (.lst xs)) (h2:ixN xs.length k=some j) (h:Q (upd H p (.lst (xs.set j v)))):rSetL (.ref p) (.int k) v H Q:=⟨p,xs,k,j,rfl,rfl,h1,h2,h⟩
def tSeqC (t u:TS):TS:=fun D σ H=>∃ R:St→Hp→Prop,t { D with nx:=R } σ H∧∀ σ' H',R σ' H'→u D σ' H'
theorem as4 {st:Stmt}{rest:List Stmt}{t u:TS}(h1:PS X st t) (h2:PSs X rest u):PSs X (st::rest) (tSeqC t u):=by
 intro pins s σ H D I h
 obtain ⟨R,ha,hb⟩:=h
 refine wpAny_execs_cons (thn (h1 pins s σ H _ I ha) fun f s1 q=>?_)
 cases f with
 | next=>obtain ⟨σ1,H1,I1,q1⟩:=q; exact h2 pins s1 σ1 H1 D I1 (hb σ1 H1 q1)
 | brk=>exact q
 | cont=>exact q
 | ret v=>exact q
theorem bl8 {t u:TS}{nn bb cc:St→Hp→Prop}{rr:VK}{σ:St} {H:Hp}(R:St→Hp→Prop) (h1:t ⟨R,rr,bb,cc⟩ σ H) (h2:∀ σ' H',R σ' H'→u ⟨nn,rr,bb,cc⟩ σ' H'):tSeqC t u ⟨nn,rr,bb,cc⟩ σ H:=⟨R,h1,h2⟩
theorem aw2 {c:TT}{tb:TS}{nn bb cc:St→Hp→Prop}{rr:VK}{σ:St} {H:Hp}(W:Nat→St→Hp→Prop) (m:Nat) (h0:W m σ H)
 (hs:∀ m σ H,W m σ H→c σ H fun b H1=>if b=true then ∃ N:St→Hp→Prop,(∀ σ' H',N σ' H'→∃ m',m'<m∧W m' σ' H')∧tb ⟨N,rr,nn,N⟩ σ H1 else nn σ H1):tWhile c tb ⟨nn,rr,bb,cc⟩ σ H:=⟨W,⟨m,h0⟩,hs⟩
end
end L2
namespace L2
open PySem
section
variable {H:Hp}{x:Tr}{xs:List Tr}{v:V}{vs ws:List V}
theorem ats_nil0:Tr.Ats H [] vs []↔vs=[]:=by simp [Tr.Ats]
theorem ats_cons0:Tr.Ats H (x::xs) vs []↔∃ v ws,vs=v::ws∧x.At H v []∧Tr.Ats H xs ws []:=by
 simp only [Tr.Ats]
 constructor
 · rintro ⟨v,ws,f,g,h1,h2,h3,h4⟩
   obtain ⟨rfl,rfl⟩:=List.append_eq_nil_iff.mp h2.symm
   exact ⟨v,ws,h1,h3,h4⟩
 · rintro ⟨v,ws,h1,h3,h4⟩
   exact ⟨v,ws,[],[],h1,rfl,h3,h4⟩
theorem at_tup0:(Tr.tup xs).At H v []↔∃ a vs,v=.ref a∧H a=some (.tup vs)∧Tr.Ats H xs vs []:=by simp only [Tr.At]
theorem at_int0 {i:Int}:(Tr.int i).At H v []↔v=.int i:=by simp [Tr.At]
theorem at_str0 {i:Str}:(Tr.str i).At H v []↔v=.str i:=by simp [Tr.At]
theorem ats_app0:∀ {xs ys:List Tr}{vs:List V},Tr.Ats H (xs++ys) vs []↔∃ us ws,vs=us++ws∧Tr.Ats H xs us []∧Tr.Ats H ys ws []
 | [],ys,vs=>by
   constructor
   · intro h; exact ⟨[],vs,rfl,ats_nil0.mpr rfl,h⟩
   · rintro ⟨us,ws,rfl,h1,h2⟩
     rw [ats_nil0.mp h1]
     exact h2
 | x::xs,ys,vs=>by
   constructor
   · intro h
     obtain ⟨v,ws,rfl,h1,h2⟩:=ats_cons0.mp h
     obtain ⟨us,zs,rfl,h3,h4⟩:=ats_app0.mp h2
     exact ⟨v::us,zs,rfl,ats_cons0.mpr ⟨v,us,rfl,h1,h3⟩,h4⟩
   · rintro ⟨us,ws,rfl,h1,h2⟩
     obtain ⟨v,us',rfl,h3,h4⟩:=ats_cons0.mp h1
     exact ats_cons0.mpr ⟨v,us'++ws,rfl,h3,ats_app0.mpr ⟨us',ws,rfl,h4,h2⟩⟩
theorem Tr.Ats.same {H H':Hp}(h:Tr.Ats H xs vs []) (s:Same H H'):Tr.Ats H' xs vs []:=h.mono (s.keep _)
end
section
variable {H:Hp}{v:V}{a:Addr}
theorem ak1 {x y:Tr}{u v:V}(e:H a=some (.tup [u,v])) (h:x.At H u []) (h2:y.At H v []):(Tr.tup [x,y]).At H (.ref a) []:=at_tup0.mpr ⟨a,_,rfl,e,ats_cons0.mpr ⟨_,_,rfl,h,ats_cons0.mpr ⟨_,_,rfl,h2,ats_nil0.mpr rfl⟩⟩⟩
theorem az0 {i:Int}:(Tr.int i).At H (.int i) []:=at_int0.mpr rfl
theorem str_at0 {i:Str}:(Tr.str i).At H (.str i) []:=at_str0.mpr rfl
end
def natsV (l:List Nat):List V:=l.map fun k=>V.int (k:Nat)
theorem a46 (l:List Nat):(natsV l).length=l.length:=by simp [natsV]
theorem bg5 {l:List Nat}{k:Nat}(h:k<l.length):atI (natsV l) (k:Nat)=some (.int (l.getD k 0:Nat)):=a05 (by simp [natsV,h])
end L2
namespace L2
open PySem PySem.Spec PyProof.Rows
section
variable {σ:St} {H:Hp}{Q:VK}{QT:Bool→Hp→Prop}{td ty tv te:TE}{nn bb cc:St→Hp→Prop}{rr:VK}
theorem i_tB (h:te σ H fun x H1=>∃ c,x=.bl c∧QT c H1):tB te σ H QT:=h
end
end L2
namespace L2
end L2
namespace L2
open PySem PySem.Spec PyProof.Rows
section
variable {X:Cx}{σ:St} {H:Hp}{Q:VK}{QT:Bool→Hp→Prop}{td ty tv te:TE}{nn bb cc:St→Hp→Prop}{rr:VK}
theorem c00 {i:Nat}{a c:Int}{f:Int→Int→Int}(e:σ[i]?=some (some (.int a))) (h:nn (σ.set i (some (.int (f a c)))) H):tAug i (tC (.int c)) (ipI f) ⟨nn,rr,bb,cc⟩ σ H:=⟨_,e,a,c,rfl,rfl,h⟩
def rRepN:R2:=fun x y H Q=>∃ l k xs,x=.ref l∧y=.int k∧H l=some (.lst xs)∧-(2 ^ 63)≤k∧k<2 ^ 63∧xs.length*k.toNat≤sizeLine∧New H (.lst (List.replicate k.toNat xs).flatten) Q
theorem bg6:OpR X (binaryOp .Mult) rRepN:=by
 intro pins s σ H x y v u Q I rx ry h
 obtain ⟨l,k,xs,e1,e2,h1,h2,h3,h4,h5⟩:=h
 exact bx0 pins s σ H x y v u Q I rx ry ⟨l,k,xs,e1,e2,h1,h2,h3,h4,New.to h5⟩
end
def Itz (K:W.Frag) (a b:Addr):It :=
 ⟨fun i H=>∃ xs ys x y,SqL K H a xs∧SqL K H b ys∧xs[i]?=some x∧ys[i]?=some y,fun i H v H'=>∃ p x y,v=.ref p∧H p=none∧Same H H'∧H' p=some (.tup [x,y])∧(∀ xs,SqL K H a xs→xs[i]?=some x)∧∀ ys,SqL K H b ys→ys[i]?=some y,fun i H=>∃ xs ys,SqL K H a xs∧SqL K H b ys∧(xs.length≤i∨ys.length≤i)⟩
theorem bg7 {P:Program}{w:World}{K:W.Frag}{elts:List Expr}{x1:Nat}{pos:Pos}(a b z TI TO i1 i2:Addr) (D:ZipApart z TI TO i1 i2 a b) :
 Turn P w K (.Tuple elts x1 pos) (Itz K a b) [z,TI,TO,i1,i2] z (fun i h=>IsZip h z TI TO .none∧IsPair h TI (.ref i1) (.ref i2)∧(∃ a b,IsPair h TO a b)∧h.IsListIter i1 a i∧h.IsListIter i2 b i) where
 mem:=by simp
 obj:=fun i h st c hc=>by
  obtain ⟨hz,hTI,⟨a,b,hTO⟩,⟨o1,h1,_,d1⟩,o2,h2,_,d2⟩:=st
  rcases (by simpa using hc:c=z∨c=TI∨c=TO∨c=i1∨c=i2) with rfl | rfl | rfl | rfl | rfl
  · exact ⟨_,hz,fun v q=>by cases q⟩
  · exact ⟨_,hTI,fun v q=>by cases q⟩
  · exact ⟨_,hTO,fun v q=>by cases q⟩
  · exact ⟨_,h1,fun v q=>by rw [d1] at q; cases q⟩
  · exact ⟨_,h2,fun v q=>by rw [d2] at q; cases q⟩
 keep:=fun i h h' st k=>by
  obtain ⟨hz,hTI,⟨a,b,hTO⟩,h1,h2⟩:=st
  exact ⟨k z (by simp) _ hz,k TI (by simp) _ hTI,⟨a,b,k TO (by simp) _ hTO⟩,h1.at fun o x=>k i1 (by simp) o x,h2.at fun o x=>k i2 (by simp) o x⟩
 item:=by
  intro X hP hw hK hc i pins s σ H E I hf st hg
  subst hP hw hK
  obtain ⟨xs,ys,x,y,hqa,hqb,hx,hy⟩:=hg
  obtain ⟨it1,rv1,p1,hz1⟩:=I.list hqa
  obtain ⟨it2,rv2,p2,hz2⟩:=I.list hqb
  obtain ⟨u1,hu1,ru1⟩:=rv1.get hx
  obtain ⟨u2,hu2,ru2⟩:=rv2.get hy
  obtain ⟨hz,hTI,⟨a',b',hTO⟩,h1,h2⟩:=st
  have fr:H s.heap.objs.size=none:=I.hok.fresh (Nat.le_refl _)
  have lt:∀ c∈[z,TI,TO,i1,i2],c<s.heap.objs.size:=fun c hc=>by
   obtain ⟨o1,e1,_⟩:=h1
   obtain ⟨o2,e2,_⟩:=h2
   rcases (by simpa using hc:c=z∨c=TI∨c=TO∨c=i1∨c=i2) with rfl | rfl | rfl | rfl | rfl
   · exact Heap.lt_size hz
   · exact Heap.lt_size hTI
   · exact Heap.lt_size hTO
   · exact Heap.lt_size e1
   · exact Heap.lt_size e2
  refine wpAny_pyNext_zip_item D hz hTI hTO h1 h2 p1.isList p2.isList (x:=u1) (y:=u2) (by simpa using hu1) (by simpa using hu2) fun h' a1 a2 a3 a4 a5 a6 hk=>?_
  have I1:Inv X pins σ H { s with heap:=h' }:=I.turnedL (t':=s.toks) (ch:=[z,TI,TO,i1,i2]) (fun c o hc q=>hk c o (fun e=>hc (by simp [e])) (fun e=>hc (by simp [e])) (fun e=>hc (by simp [e])) (fun e=>hc (by simp [e])) q) hf
  have I2:Inv X pins σ (upd H s.heap.objs.size (.tup [x,y])) { s with heap:=h' }:=I1.adopt (o:=.tup [x,y]) fr I.sz (Nat.ne_of_gt I.lt) (fun n c ec e=>by
   obtain ⟨v,q⟩:=I.cell n c ec
   exact absurd q.lt (by rw [e]; exact Nat.lt_irrefl _)) (fun q hq e=>absurd (Heap.lt_size (I.pin q hq).1) (by rw [e]; exact Nat.lt_irrefl _))
   ⟨le_line (by simp),[u1,u2],.cons ru1 (.cons ru2 .nil),⟨_,a5,rfl,_,rfl⟩⟩
  have hf2:∀ c∈[z,TI,TO,i1,i2],FpOk X pins (upd H s.heap.objs.size (.tup [x,y])) c:=fun c hc=>⟨by rw [a09 (Nat.ne_of_lt (lt c hc))]; exact (hf c hc).1,(hf c hc).2⟩
  refine ⟨_,rfl,wpAny_letOwnedTupleGo_zip a1 fun h2' hz' hs'=>⟨.ref s.heap.objs.size,_,I2.turnedL (t':=s.toks) (ch:=[z]) (fun c o hc q=>(hs'.2 c (fun e=>hc (by simp [e]))).trans q) (fun c hc=>hf2 c (by simp at hc; simp [hc])),rfl,⟨s.heap.objs.size,x,y,rfl,fr,Same.new fr,a33,fun q hq=>by rw [I.list_inj hq hqa]; exact hx,fun q hq=>by rw [I.list_inj hq hqb]; exact hy⟩,⟨hz',hs'.extBut _ _ D.TIz (hk _ _ D.TIz D.TITO D.TIi1 D.TIi2 hTI),⟨_,_,hs'.extBut _ _ D.TOz a2⟩,a3.extBut hs'.extBut D.i1z,a4.extBut hs'.extBut D.i2z⟩,fun c hc=>(hf2 c hc).1⟩⟩
 done:=by
  intro X hP hw hK hc i pins s σ H E I hf st hg
  subst hP hw hK
  obtain ⟨xs,ys,hqa,hqb,hx⟩:=hg
  obtain ⟨it1,rv1,p1,hz1⟩:=I.list hqa
  obtain ⟨it2,rv2,p2,hz2⟩:=I.list hqb
  obtain ⟨hz,hTI,⟨a',b',hTO⟩,h1,h2⟩:=st
  have l1:=rv1.length
  have l2:=rv2.length
  exact wpAny_pyNext_zip_end (I.ok.hd hc) D hz hTI hTO h1 h2 p1.isList p2.isList (hx.elim (fun e=>.inl (by simp; omega)) fun e=>.inr (by simp; omega)) fun h' hk=>⟨rfl,I.turnedL (t':=s.toks) (ch:=[z,TI,TO,i1,i2]) (fun c o hc q=>hk c o (fun e=>hc (by simp [e])) (fun e=>hc (by simp [e])) (fun e=>hc (by simp [e])) (fun e=>hc (by simp [e])) q) hf⟩
 self:=fun A i s Q E st h=>wpAny_pyIter_zip st.1 h
section
variable {X:Cx}{elts:List Expr}{x1:Nat}{tpos:Pos}
def iZip (K:W.Frag) (ta:TA):TI:=fun σ H R=>ta σ H fun vs H1=>∃ a b,vs=[.ref a,.ref b]∧(∃ xs,SqL K H1 a xs)∧(∃ ys,SqL K H1 b ys)∧R (Itz K a b) H1
theorem af8:bootBuiltins "zip"=some (.type "zip"):=by decide +kernel
theorem bl9 (K:W.Frag) {a b:Expr}{ta:TA}{p pos:Pos}(hg:Gl X "zip") (hm:X.mg "zip"=none) (ha:PA X [a,b] ta) (hs:starEach [a,b] X.env=[(false,eval a X.env),(false,eval b X.env)]:=by rfl) (hs2:starEach [b] X.env=[(false,eval b X.env)]:=by rfl) (hK:X.K=K:=by rfl) :
 PI X (.Tuple elts x1 tpos) (.Call (.Name "zip" p) [a,b] [] pos) (iZip K ta):=by
 subst hK
 intro pins s σ H R I h
 refine Call_ (ae7 I hg hm af8 (PyProof.Rows.callWith_type1 (thn (ha pos pins s σ H _ I h) fun us s1 ⟨vs,H1,I1,r1,q1⟩=>?_) (by rw [hs,hs2]) (by rw [hs2]; rfl)))
 obtain ⟨l1,l2,e,⟨xs,hq1⟩,⟨ys,hq2⟩,q⟩:=q1
 subst e
 obtain ⟨u1,u2,rfl,r2,r3⟩:=bf0 r1
 cases r2
 cases r3
 obtain ⟨it1,rv1,p1,hz1⟩:=I1.list hq1
 obtain ⟨it2,rv2,p2,hz2⟩:=I1.list hq2
 have a1:l1<s1.heap.objs.size:=by obtain ⟨_,e,_⟩:=p1.isList; exact Heap.lt_size e
 have a2:l2<s1.heap.objs.size:=by obtain ⟨_,e,_⟩:=p2.isList; exact Heap.lt_size e
 refine call_zip_2 p1.isList p2.isList fun h' b1 b2 b3 b4 b5 b6 hk=>?_
 refine wpAny_pyIter_zip b1 ?_
 have ge:∀ c∈[s1.heap.objs.size+4,s1.heap.objs.size+2,s1.heap.objs.size+3,s1.heap.objs.size,s1.heap.objs.size+1],s1.heap.objs.size≤c:=fun c hc=>by
  simp only [List.mem_cons,List.not_mem_nil,or_false] at hc
  rcases hc with rfl | rfl | rfl | rfl | rfl
  · exact Nat.le_add_right _ _
  · exact Nat.le_add_right _ _
  · exact Nat.le_add_right _ _
  · exact Nat.le_refl _
  · exact Nat.le_add_right _ _
 have fp:∀ c∈[s1.heap.objs.size+4,s1.heap.objs.size+2,s1.heap.objs.size+3,s1.heap.objs.size,s1.heap.objs.size+1],FpOk X pins H1 c:=fun c hc=>I1.fpOk (ge c hc) (I1.hok.fresh (ge c hc))
 generalize s1.heap.objs.size=m at a1 a2 b1 b2 b3 b4 b5 b6 fp ⊢
 have D:ZipApart (m+4) (m+2) (m+3) m (m+1) l1 l2:=by
  have h1:l1<m:=a1
  have h2:l2<m:=a2
  constructor <;> first | exact Nat.ne_of_lt (Nat.lt_of_lt_of_le h1 (Nat.le_add_right _ _)) | exact Nat.ne_of_lt (Nat.lt_of_lt_of_le h2 (Nat.le_add_right _ _)) | exact Nat.ne_of_lt h1 | exact Nat.ne_of_lt h2 | (intro e; simp at e) | (intro e; exact absurd e (by omega))
 refine ⟨m+4,[m+4,m+2,m+3,m,m+1],_,_,H1,rfl,I1.kept (t':=s1.toks) hk,bg7 l1 l2 _ _ _ _ _ D,⟨b1,b2,⟨_,_,b3⟩,b4,b5⟩,fp,q⟩
end
theorem c84 {K:W.Frag}{σ:St} {H:Hp}{R:It→Hp→Prop}{ts:TA}(h:ts σ H fun vs H1=>∃ a b,vs=[.ref a,.ref b]∧(∃ xs,SqL K H1 a xs)∧(∃ ys,SqL K H1 b ys)∧R (Itz K a b) H1):iZip K ts σ H R:=h
end L2
namespace L2
open PySem
end L2
namespace L2
open PySem PySem.Spec PyProof.Rows
def rNeLs:R2:=fun x y H Q=>∃ t fs gs,(Tr.lst t).At H x fs∧(Tr.lst t).At H y gs∧Tr.hs t≤60∧Q (.bl false) H
theorem bg8 {X:Cx}(hu:X.A.units+64<cLine):OpR X (compareOp .NotEq) rNeLs:=by
 intro pins s σ H x y v u Q I rx ry h
 obtain ⟨t,fs,gs,h1,h2,hh,q⟩:=h
 simp only [Tr.At] at h1 h2
 obtain ⟨a,vs,_,rfl,e1,c1,_⟩:=h1
 obtain ⟨b,ws,_,rfl,e2,c2,_⟩:=h2
 cases rx
 cases ry
 obtain ⟨is1,q1,p1,_⟩:=I.list (SqL.of e1)
 obtain ⟨is2,q2,p2,_⟩:=I.list (SqL.of e2)
 have hl:is1.length=is2.length:=by rw [← q1.length,←q2.length,c1.len,c2.len]
 have:=SeqAt.RcNeAt.lists (A:=X.A) (s:=s) (e:=fun _=>true) p1.isList p2.isList (by simpa using hl) (by omega) (fun j h1 h2=>by
  have:=Tr.eqAts I (A:=X.A.in1) c1 c2 q1 q2 (by rw [a60]; omega) j (by simpa using h1) (by simpa using h2)
  simpa using this) X.prog X.w X.xe (EP X pins σ Q)
 refine this ⟨.bl false,H,I,?_,q⟩
 rw [show ((List.range is1.toArray.size).all fun _=>true)=true by simp]
 rfl
theorem c01 {H:Hp}{Q:VK}{x y:V}{t:List Tr}{fs gs:List Addr}(h1:(Tr.lst t).At H x fs) (h2:(Tr.lst t).At H y gs) (hh:Tr.hs t≤60) (h:Q (.bl false) H):rNeLs x y H Q:=⟨t,fs,gs,h1,h2,hh,h⟩
noncomputable instance trDec:DecidableEq Tr:=fun _ _=>Classical.propDecidable _
def IntIn (z:Int) (u:Value):Prop:=(∃ t,u=.int z t)∨∃ b:Bool,u=.bool b∧z=(if b=true then 1 else 0)
mutual
def Tr.In (h:Heap):Tr→Value→Prop
 | .non,u=>u=.none
 | .int z,u=>IntIn z u
 | .str x,u=>∃ t,u=.str x t
 | .tup ts,u=>∃ a us,u=.ref a∧h.IsTuple a us∧Tr.Ins h ts us.toList
 | .lst _,_=>False
def Tr.Ins (h:Heap):List Tr→List Value→Prop
 | [],us=>us=[]
 | t::ts,us=>∃ u r,us=u::r∧Tr.In h t u∧Tr.Ins h ts r
end
theorem Tr.Ins.len {h:Heap}:∀ {ts:List Tr}{us:List Value},Tr.Ins h ts us→us.length=ts.length
 | [],us,e=>by simp only [Tr.Ins] at e; rw [e]; rfl
 | t::ts,us,e=>by
   simp only [Tr.Ins] at e
   obtain ⟨u,r,rfl,_,e⟩:=e
   simp [e.len]
theorem Tr.Ins.get {h:Heap}:∀ {ts:List Tr}{us:List Value},Tr.Ins h ts us→∀ (j:Nat) (h1:j<us.length) (h2:j<ts.length),Tr.In h ts[j] us[j]
 | [],us,e,j,h1,h2=>absurd h2 (Nat.not_lt_zero _)
 | t::ts,us,e,j,h1,h2=>by
   simp only [Tr.Ins] at e
   obtain ⟨u,r,rfl,e1,e⟩:=e
   cases j with
   | zero=>exact e1
   | succ j=>exact e.get j (by simpa using h1) (by simpa using h2)
theorem aw3 {h:Heap}{a:Addr}{us vs:Array Value}(x:h.IsTuple a us) (y:h.IsTuple a vs):us=vs:=by
 obtain ⟨o,e,_,n,d⟩:=x
 obtain ⟨o',e',_,n',d'⟩:=y
 rw [e] at e'; cases e'
 rw [d] at d'
 injection d' with d1 _
mutual
theorem Tr.In.inj {h:Heap}:∀ {t r:Tr}{u:Value},Tr.In h t u→Tr.In h r u→t=r
 | .non,r,u,e,f=>by
   simp only [Tr.In] at e
   subst e
   cases r <;> simp [Tr.In,IntIn] at f ⊢
 | .int z,r,u,e,f=>by
   simp only [Tr.In] at e
   rcases e with ⟨t,rfl⟩ | ⟨b,rfl,rfl⟩
   · cases r <;> simp [Tr.In,IntIn] at f ⊢
     exact f
   · cases r <;> simp [Tr.In,IntIn] at f ⊢
     exact f.symm
 | .str x,r,u,e,f=>by
   simp only [Tr.In] at e
   obtain ⟨t,rfl⟩:=e
   cases r <;> simp [Tr.In,IntIn] at f ⊢
   exact f
 | .lst _,r,u,e,f=>e.elim
 | .tup ts,.tup rs,u,e,f=>by
   simp only [Tr.In] at e f
   obtain ⟨a,us,rfl,e2,e3⟩:=e
   obtain ⟨b,vs,hb,f2,f3⟩:=f
   cases hb
   cases aw3 e2 f2
   rw [Tr.Ins.inj e3 f3]
 | .tup ts,.non,u,e,f=>by
   simp only [Tr.In] at e f
   obtain ⟨a,us,rfl,e2,e3⟩:=e
   cases f
 | .tup ts,.int _,u,e,f=>by
   simp only [Tr.In] at e f
   obtain ⟨a,us,rfl,e2,e3⟩:=e
   rcases f with ⟨_,f⟩ | ⟨_,f,_⟩ <;> cases f
 | .tup ts,.str _,u,e,f=>by
   simp only [Tr.In] at e f
   obtain ⟨a,us,rfl,e2,e3⟩:=e
   obtain ⟨_,f⟩:=f
   cases f
 | .tup ts,.lst _,u,e,f=>f.elim
theorem Tr.Ins.inj {h:Heap}:∀ {ts rs:List Tr}{us:List Value},Tr.Ins h ts us→Tr.Ins h rs us→ts=rs
 | [],rs,us,e,f=>by
   simp only [Tr.Ins] at e
   subst e
   cases rs with
   | nil=>rfl
   | cons r rs=>simp [Tr.Ins] at f
 | t::ts,rs,us,e,f=>by
   simp only [Tr.Ins] at e
   obtain ⟨u,r,rfl,e1,e2⟩:=e
   cases rs with
   | nil=>simp [Tr.Ins] at f
   | cons q qs =>
     simp only [Tr.Ins] at f
     obtain ⟨u',r',hh,f1,f2⟩:=f
     cases hh
     rw [e1.inj f1,Tr.Ins.inj e2 f2]
end
theorem as5 {H:Hp}{ts:List Tr}{v:V}{h:(Tr.lst ts).At H v []}:False:=by
 simp only [Tr.At] at h
 obtain ⟨a,vs,_,rfl,e1,c1,e⟩:=h
 simp at e
section
variable {X:Cx}{pins:List (Addr×Obj)}{σ:St} {H:Hp}{s:Shared}
mutual
theorem Tr.At.isIn (I:Inv X pins σ H s):∀ {t:Tr}{v:V}{u:Value},t.At H v []→RelV v u→Tr.In s.heap t u
 | .non,v,u,h,r=>by
   obtain ⟨rfl,-⟩:=(by simpa only [Tr.At] using h)
   cases r
   exact rfl
 | .int z,v,u,h,r=>by
   obtain ⟨rfl,-⟩:=(by simpa only [Tr.At] using h)
   obtain ⟨t,rfl⟩:=r
   exact .inl ⟨t,rfl⟩
 | .str z,v,u,h,r=>by
   obtain ⟨rfl,-⟩:=(by simpa only [Tr.At] using h)
   obtain ⟨t,rfl⟩:=r
   exact ⟨t,rfl⟩
 | .lst _,v,u,h,r=>(as5 (h:=h)).elim
 | .tup ts,v,u,h,r=>by
   simp only [Tr.At] at h
   obtain ⟨a,vs,rfl,e1,c1⟩:=h
   cases r
   obtain ⟨is1,q1,p1,_⟩:=I.tuple (SqT.of e1)
   simp only [Tr.In]
   exact ⟨a,is1.toArray,rfl,p1,by simpa using Tr.Ats.isIns I c1 q1⟩
theorem Tr.Ats.isIns (I:Inv X pins σ H s):∀ {ts:List Tr}{vs:List V}{us:List Value},Tr.Ats H ts vs []→Vals vs us→Tr.Ins s.heap ts us
 | [],vs,us,c,q=>by
   simp only [Tr.Ats] at c
   obtain ⟨rfl,-⟩:=c
   cases q
   exact rfl
 | t::ts,vs,us,c,q=>by
   simp only [Tr.Ats] at c
   obtain ⟨v,vs,f,g,rfl,e,a1,b1⟩:=c
   have hf:f=[]∧g=[]:=by simpa using e.symm
   obtain ⟨rfl,rfl⟩:=hf
   cases q with
   | cons r1 q1 =>
   simp only [Tr.Ins]
   exact ⟨_,_,rfl,a1.isIn I r1,b1.isIns I q1⟩
end
end
theorem b95 {n:Nat}{e:Nat→Bool}:(List.range n).all e=true↔∀ j,j<n→e j=true:=by simp [List.all_eq_true]
theorem b96 {ts rs:List Tr}:((List.range (min ts.length rs.length)).all (fun j=>decide (ts.getD j .non=rs.getD j .non)) && ts.length == rs.length)=decide (ts=rs):=by
 rw [Bool.eq_iff_iff,Bool.and_eq_true,b95,decide_eq_true_iff,beq_iff_eq]
 constructor
 · rintro ⟨h1,h2⟩
   refine List.ext_getElem h2 fun j h3 h4=>?_
   have:=of_decide_eq_true (h1 j (by omega))
   simpa [h3,h4] using this
 · rintro rfl
   exact ⟨fun j _=>decide_eq_true rfl,rfl⟩
section
variable {s:Shared}
mutual
theorem Tr.In.eqAt:∀ {t r:Tr}{A:Around}{u z:Value},Tr.In s.heap t u→Tr.In s.heap r z→A.units+t.h+r.h<cLine→SeqAt.EqAt A s u z (decide (t=r))
 | .non,r,A,u,z,h1,h2,hu=>by
   simp only [Tr.In] at h1
   subst h1
   cases r with
   | non =>
     simp only [Tr.In] at h2
     subst h2
     rw [decide_eq_true rfl]
     exact SeqAt.EqAt.same _
   | int i =>
     rw [decide_eq_false (by simp)]
     rcases h2 with ⟨t2,rfl⟩ | ⟨b2,rfl,rfl⟩
     · exact SeqAt.EqAt.none_int _ _
     · exact SeqAt.EqAt.none_bool _
   | str i =>
     obtain ⟨t2,rfl⟩:=h2
     rw [decide_eq_false (by simp)]
     exact SeqAt.EqAt.none_str _ _
   | tup rs =>
     simp only [Tr.In] at h2
     obtain ⟨a,us,rfl,p,_⟩:=h2
     rw [decide_eq_false (by simp)]
     exact SeqAt.EqAt.none_tuple p (by omega)
   | lst rs=>exact h2.elim
 | .int i,r,A,u,z,h1,h2,hu=>by
   cases r with
   | non =>
     simp only [Tr.In] at h2
     subst h2
     rw [decide_eq_false (by simp)]
     rcases h1 with ⟨t1,rfl⟩ | ⟨b1,rfl,rfl⟩
     · exact SeqAt.EqAt.int_none _ _
     · exact SeqAt.EqAt.bool_none _
   | int j =>
     rw [show decide (Tr.int i=Tr.int j)=(i == j) from Bool.eq_iff_iff.mpr (by simp)]
     rcases h1 with ⟨t1,rfl⟩ | ⟨b1,rfl,rfl⟩
     · rcases h2 with ⟨t2,rfl⟩ | ⟨b2,rfl,rfl⟩
       · exact SeqAt.EqAt.int_int _ _ _ _
       · exact SeqAt.EqAt.int_bool _ _ _
     · rcases h2 with ⟨t2,rfl⟩ | ⟨b2,rfl,rfl⟩
       · exact SeqAt.EqAt.bool_int _ _ _
       · have:=SeqAt.EqAt.bool_bool (A:=A) (s:=s) b1 b2
         cases b1 <;> cases b2 <;> exact this
   | str j =>
     obtain ⟨t2,rfl⟩:=h2
     rw [decide_eq_false (by simp)]
     rcases h1 with ⟨t1,rfl⟩ | ⟨b1,rfl,rfl⟩
     · exact SeqAt.EqAt.int_str _ _ _ _
     · exact SeqAt.EqAt.bool_str _ _ _
   | tup rs =>
     simp only [Tr.In] at h2
     obtain ⟨a,us,rfl,p,_⟩:=h2
     rw [decide_eq_false (by simp)]
     rcases h1 with ⟨t1,rfl⟩ | ⟨b1,rfl,rfl⟩
     · exact SeqAt.EqAt.int_tuple _ _ p (by omega)
     · exact SeqAt.EqAt.bool_tuple _ p (by omega)
   | lst rs=>exact h2.elim
 | .str i,r,A,u,z,h1,h2,hu=>by
   obtain ⟨t1,rfl⟩:=h1
   cases r with
   | non =>
     simp only [Tr.In] at h2
     subst h2
     rw [decide_eq_false (by simp)]
     exact SeqAt.EqAt.str_none _ _
   | int j =>
     rw [decide_eq_false (by simp)]
     rcases h2 with ⟨t2,rfl⟩ | ⟨b2,rfl,rfl⟩
     · exact SeqAt.EqAt.str_int _ _ _ _
     · exact SeqAt.EqAt.str_bool _ _ _
   | str j =>
     obtain ⟨t2,rfl⟩:=h2
     have:=SeqAt.EqAt.str_str (A:=A) (s:=s) i t1 j t2
     rw [show (i == j)=decide (Tr.str i=Tr.str j) from Bool.eq_iff_iff.mpr (by simp)] at this
     exact this
   | tup rs =>
     simp only [Tr.In] at h2
     obtain ⟨a,us,rfl,p,_⟩:=h2
     rw [decide_eq_false (by simp)]
     exact SeqAt.EqAt.str_tuple _ _ p (by omega)
   | lst rs=>exact h2.elim
 | .lst _,r,A,u,z,h1,h2,hu=>h1.elim
 | .tup ts,r,A,u,z,h1,h2,hu=>by
   have h1':=h1
   simp only [Tr.In] at h1
   obtain ⟨a,us,rfl,p1,c1⟩:=h1
   cases r with
   | non =>
     simp only [Tr.In] at h2
     subst h2
     rw [decide_eq_false (by simp)]
     exact SeqAt.EqAt.tuple_none p1 (by omega)
   | int j =>
     rw [decide_eq_false (by simp)]
     rcases h2 with ⟨t2,rfl⟩ | ⟨b2,rfl,rfl⟩
     · exact SeqAt.EqAt.tuple_int _ _ p1 (by omega)
     · exact SeqAt.EqAt.tuple_bool _ p1 (by omega)
   | str j =>
     obtain ⟨t2,rfl⟩:=h2
     rw [decide_eq_false (by simp)]
     exact SeqAt.EqAt.tuple_str _ _ p1 (by omega)
   | lst rs=>exact h2.elim
   | tup rs =>
     have h2':=h2
     simp only [Tr.In] at h2
     obtain ⟨b,vs,rfl,p2,c2⟩:=h2
     by_cases hab:a=b
     · subst hab
       rw [decide_eq_true (h1'.inj h2')]
       exact SeqAt.EqAt.same _
     refine SeqAt.EqAt.of_refs hab ?_
     simp only [Tr.h] at hu
     have l1:=c1.len
     have l2:=c2.len
     simp only [Array.length_toList] at l1 l2
     have:=SeqAt.RcAt.tuples (A:=A) (s:=s) (e:=fun j=>decide (ts.getD j .non=rs.getD j .non)) p1 p2 (by omega) (fun j h1 h2=>by
      have:=Tr.Ins.eqAts (A:=A.in1) c1 c2 (by rw [a60]; omega) j (by simpa using h1) (by simpa using h2)
      simpa using this)
     rw [l1,l2,b96] at this
     rw [show decide (Tr.tup ts=Tr.tup rs)=decide (ts=rs) from Bool.eq_iff_iff.mpr (by simp)]
     exact this
theorem Tr.Ins.eqAts:∀ {ts rs:List Tr}{A:Around}{us zs:List Value},Tr.Ins s.heap ts us→Tr.Ins s.heap rs zs→A.units+Tr.hs ts+Tr.hs rs<cLine →
 ∀ (j:Nat) (h1:j<us.length) (h2:j<zs.length),SeqAt.EqAt A s us[j] zs[j] (decide (ts.getD j .non=rs.getD j .non))
 | [],rs,A,us,zs,c1,c2,hu,j,h1,h2=>by
   simp only [Tr.Ins] at c1
   subst c1
   exact absurd h1 (by simp)
 | t::ts,[],A,us,zs,c1,c2,hu,j,h1,h2=>by
   simp only [Tr.Ins] at c2
   subst c2
   exact absurd h2 (by simp)
 | t::ts,r::rs,A,us,zs,c1,c2,hu,j,h1,h2=>by
   simp only [Tr.Ins] at c1 c2
   obtain ⟨u,us,rfl,a1,b1⟩:=c1
   obtain ⟨z,zs,rfl,a2,b2⟩:=c2
   simp only [Tr.hs] at hu
   cases j with
   | zero =>
     have:=a1.eqAt a2 (A:=A) (by omega)
     simpa using this
   | succ j =>
     have:=b1.eqAts b2 (A:=A) (by omega) j (by simpa using h1) (by simpa using h2)
     simpa using this
end
end
mutual
def Tr.hash (P:Params):Tr→Int
 | .non=>W.hashW P .none
 | .int z=>W.hashW P (.int z)
 | .str x=>W.hashW P (.str x)
 | .tup ts=>reduceHash (Builtin.Tuple.tupleHashOf (Tr.hashes P ts))
 | .lst _=>0
def Tr.hashes (P:Params):List Tr→List Int
 | []=>[]
 | t::ts=>Tr.hash P t::Tr.hashes P ts
end
section
variable {prog:Program}{w:World}{E:Value→Shared→Prop}
mutual
theorem Tr.In.pyHash:∀ {t:Tr}{A:Around}{s:Shared}{u:Value}{Q:Int→Shared→Prop},Tr.In s.heap t u→A.units+t.h<cLine→(∀ n,Q (t.hash w.params) { s with toks:=n })→wpAny (model prog w) A (pyHash u) Q E s
 | .non,A,s,u,Q,e,hu,h=>by
   simp only [Tr.In] at e
   subst e
   exact W.pyHash_laid .none _ A s Q rfl .none (by simp only [W.WData.depth]; omega) h
 | .int z,A,s,u,Q,e,hu,h=>by
   rcases e with ⟨t,rfl⟩ | ⟨b,rfl,rfl⟩
   · exact W.pyHash_laid (.int z) _ A s Q rfl (.int z t) (by simp only [W.WData.depth]; omega) h
   · refine W.pyHash_laid (.bool b) _ A s Q rfl (.bool b) (by simp only [W.WData.depth]; omega) fun tk=>?_
     have:=h tk
     cases b <;> exact this
 | .str z,A,s,u,Q,e,hu,h=>by
   obtain ⟨t,rfl⟩:=e
   exact W.pyHash_laid (.str z) _ A s Q rfl (.str z t) (by simp only [W.WData.depth]; omega) h
 | .lst _,A,s,u,Q,e,hu,h=>e.elim
 | .tup ts,A,s,u,Q,e,hu,h=>by
   simp only [Tr.In] at e
   obtain ⟨a,us,rfl,⟨o,p1,p2,n,p3⟩,c⟩:=e
   simp only [Tr.h] at hu
   refine W.pyHash_slot (T:="tuple") ⟨o,p1,p2⟩ F.slot_tuple_hash F.entry_tuple_hash (F.args_tuple_hash_1 _) (beq_builtin_none _) (.inr (by omega)) ?_
   show wpAny _ A.in1 (Builtin.Tuple.tupleItemsOf (.ref a) >>= _) _ _ s
   refine wB (wpAny_tupleItemsOf p1 p3 (wB ?_))
   rw [← Array.forIn_toList]
   refine Tr.Ins.pyHashes (b:=#[]) c (by rw [a60]; omega) fun tk b hb=>?_
   have hb':b.toList=Tr.hashes w.params ts:=by simpa using hb
   show wpAny _ A.in1 (retInt (Builtin.Tuple.tupleHashOf b.toList)) _ _ _
   rw [hb']
   exact wB (wpAny_mkInt (wpAny_pure ⟨_,_,rfl,h (_)⟩))
theorem Tr.Ins.pyHashes:∀ {ts:List Tr}{A:Around}{s:Shared}{us:List Value}{b:Array Int}{Q:Array Int→Shared→Prop},Tr.Ins s.heap ts us→A.units+Tr.hs ts<cLine →
 (∀ n b',b'.toList=b.toList++Tr.hashes w.params ts→Q b' { s with toks:=n }) →
 wpAny (model prog w) A (forIn us b fun x r=>do let h←pyHash x; pure PUnit.unit; pure (ForInStep.yield (r.push h))) Q E s
 | [],A,s,us,b,Q,e,hu,h=>by
   simp only [Tr.Ins] at e
   subst e
   exact wpAny_pure (h s.toks b (by simp [Tr.hashes]))
 | t::ts,A,s,us,b,Q,e,hu,h=>by
   simp only [Tr.Ins] at e
   obtain ⟨u,us,rfl,a1,b1⟩:=e
   simp only [Tr.hs] at hu
   rw [List.forIn_cons]
   refine wB (wB (a1.pyHash (by omega) fun tk=>wB (wpAny_pure (wpAny_pure ?_))))
   exact b1.pyHashes (s:={ s with toks:=tk }) (by omega) fun n b' hb=>h n b' (by simp [hb,Tr.hashes])
end
end
section
variable {prog:Program}{w:World}{E:Value→Shared→Prop}
mutual
theorem Tr.In.quiet:∀ {t:Tr}{A:Around}{s:Shared}{u:Value}{Q:Bool→Shared→Prop}{n:Nat},Tr.In s.heap t u→t.h≤n→Q true s→wpAny (model prog w) A (eqIsQuiet n u) Q E s
 | .non,A,s,u,Q,n,e,hn,h=>by
   simp only [Tr.In] at e
   subst e
   rw [eqIsQuiet_byValue n (v:=.none) rfl]
   exact wpAny_pure h
 | .int z,A,s,u,Q,n,e,hn,h=>by
   rcases e with ⟨t,rfl⟩ | ⟨b,rfl,rfl⟩
   · rw [eqIsQuiet_byValue n (v:=.int z t) rfl]
     exact wpAny_pure h
   · rw [eqIsQuiet_byValue n (v:=.bool b) rfl]
     exact wpAny_pure h
 | .str z,A,s,u,Q,n,e,hn,h=>by
   obtain ⟨t,rfl⟩:=e
   rw [eqIsQuiet_byValue n (v:=.str z t) rfl]
   exact wpAny_pure h
 | .lst _,A,s,u,Q,n,e,hn,h=>e.elim
 | .tup ts,A,s,u,Q,n,e,hn,h=>by
   simp only [Tr.In] at e
   obtain ⟨a,us,rfl,⟨o,p1,p2,m,p3⟩,c⟩:=e
   simp only [Tr.h] at hn
   obtain ⟨n,rfl⟩:∃ k,n=k+1:=⟨n - 1,by omega⟩
   have hT:s.TypeIs (.ref a) "tuple":=⟨o,p1,p2⟩
   unfold eqIsQuiet
   refine wB (wpAny_specialOf hT (F.slot_tuple_eq.lookup) ?_)
   show wpAny _ A (isInstance (.ref a) (.type "tuple") >>= _) _ _ s
   refine wB (wpAny_isInstance hT (isSubtype_tuple_tuple) ?_)
   simp only [Bool.false_eq_true,Bool.not_true,if_false]
   refine wB (wpAny_seqItems p1 p3 (wB ?_))
   show wpAny _ _ (forIn us _ _) _ _ s
   rw [← Array.forIn_toList]
   refine wpAny_forIn_list _ (fun rest r s'=>r.1=none∧s'=s∧∃ ts',Tr.Ins s.heap ts' rest∧∀ t∈ts',∃ k,∃ hk:k<ts.length,t=ts[k]) _ ?_ ?_ _ _ ⟨rfl,rfl,ts,c,fun t ht=>by
    obtain ⟨k,hk,e⟩:=List.mem_iff_getElem.mp ht
    exact ⟨k,hk,e.symm⟩⟩
   · rintro v rest r s' ⟨hr,rfl,ts',c',hm⟩
     cases ts' with
     | nil=>simp [Tr.Ins] at c'
     | cons t ts' =>
       simp only [Tr.Ins] at c'
       obtain ⟨u',r',hh,a1,b1⟩:=c'
       cases hh
       obtain ⟨k,hk,rfl⟩:=hm t List.mem_cons_self
       refine wB (Tr.Ins.quietAt (n:=n) c k hk a1 (by omega) ?_)
       simp only [Bool.false_eq_true,Bool.not_true,if_false]
       exact wpAny_pure ⟨rfl,rfl,ts',b1,fun t' ht'=>hm t' (List.mem_cons_of_mem _ ht')⟩
   · rintro ⟨r1,r2⟩ s' ⟨hr,rfl,_⟩
     simp only at hr
     subst hr
     exact wpAny_pure h
theorem Tr.Ins.quietAt:∀ {ts:List Tr}{A:Around}{s:Shared}{us:List Value}{u:Value}{Q:Bool→Shared→Prop}{n:Nat},Tr.Ins s.heap ts us→∀ (k:Nat) (hk:k<ts.length),Tr.In s.heap ts[k] u→Tr.hs ts≤n→Q true s →
 wpAny (model prog w) A (eqIsQuiet n u) Q E s
 | [],A,s,us,u,Q,n,e,k,hk,a1,hn,h=>absurd hk (Nat.not_lt_zero _)
 | t::ts,A,s,us,u,Q,n,e,k,hk,a1,hn,h=>by
   simp only [Tr.Ins] at e
   obtain ⟨u',us,rfl,a2,b2⟩:=e
   simp only [Tr.hs] at hn
   cases k with
   | zero=>exact Tr.In.quiet (t:=t) a1 (by omega) h
   | succ k=>exact Tr.Ins.quietAt b2 k (by simpa using hk) a1 (by omega) h
end
end
structure Ents (P:Params) (h:Heap) (es:Array DictEntry) (ts:List Tr):Prop where
 len:es.size=ts.length
 at_:∀ (j:Nat) (e:DictEntry),es[j]?=some e→∃ t:Tr,ts[j]?=some t∧e.hash=t.hash P∧Tr.In h t e.key∧t.h≤8
 nd:ts.Nodup
theorem Ents.of {P:Params}{h:Heap}{es:Array DictEntry}{ts:List Tr}(x:Ents P h es ts) {j:Nat}{t:Tr}(e:ts[j]?=some t):∃ en,es[j]?=some en∧en.hash=t.hash P∧Tr.In h t en.key∧t.h≤8:=by
 have hj:j<es.size:=by rw [x.len]; exact (gS e).1
 obtain ⟨t',e',h2⟩:=x.at_ j es[j] (Array.getElem?_eq_getElem hj)
 rw [e] at e'
 cases e'
 exact ⟨_,Array.getElem?_eq_getElem hj,h2⟩
theorem Ents.one {P:Params}{h:Heap}{es:Array DictEntry}{ts:List Tr}(x:Ents P h es ts) {i j:Nat}{t:Tr}(e:ts[i]?=some t) (f:ts[j]?=some t):i=j:=by
 obtain ⟨h1,e⟩:=gS e
 obtain ⟨h2,f⟩:=gS f
 have pw:=List.pairwise_iff_getElem.mp x.nd
 rcases Nat.lt_trichotomy i j with h | h | h
 · exact absurd (e.trans f.symm) (pw i j h1 h2 h)
 · exact h
 · exact absurd (f.trans e.symm) (pw j i h2 h1 h)
section
variable {prog:Program}{w:World}{E:Value→Shared→Prop}{A:Around}{s:Shared}{d:Addr}{o:Obj}{es:Array DictEntry}{ep:Nat}{ts:List Tr}{t:Tr}{u:Value}
theorem mem_places {f:Nat→Option Int}{n i:Nat}{h:Int}:i∈placesWithHash n f h↔i<n∧f i=some h:=by simp [placesWithHash,List.mem_filter]
theorem b97 {f:Nat→Option Int}{n:Nat}{h:Int}:(placesWithHash n f h).Nodup:=List.Pairwise.filter _ List.nodup_range
theorem aw4 {Q:Option Nat→Shared→Prop}(ho:s.heap.get? d=some o) (hd:o.data=.dict es ep) (x:Ents w.params s.heap es ts) (hk:Tr.In s.heap t u) (h8:t.h≤8) (hu:A.units+16<cLine)
 (hnone:(∀ j:Nat,ts[j]?≠some t)→Q none s) (hsome:∀ j:Nat,ts[j]?=some t→Q (some j) s):wpAny (model prog w) A (dictFind d u (t.hash w.params)) Q E s:=by
 have hin:∀ j:Nat,ts[j]?=some t→j∈placesWithHash es.size (fun i=>es[i]?.map (·.hash)) (t.hash w.params):=fun j hj=>by
  obtain ⟨en,e1,e2,_⟩:=x.of hj
  exact mem_places.mpr ⟨(Array.getElem?_eq_some_iff.mp e1).1,by rw [e1]; exact congrArg some e2⟩
 have hex:∀ i∈placesWithHash es.size (fun i=>es[i]?.map (·.hash)) (t.hash w.params),∃ en t',es[i]?=some en∧ts[i]?=some t'∧en.hash=t.hash w.params∧Tr.In s.heap t' en.key∧t'.h≤8:=fun i hi=>by
  obtain ⟨hi,h2⟩:=mem_places.mp hi
  have e1:=Array.getElem?_eq_getElem hi
  obtain ⟨t',e2,e3,e4,e5⟩:=x.at_ i _ e1
  rw [e1] at h2
  exact ⟨_,t',e1,e2,Option.some.inj h2,e4,e5⟩
 have hnd:(placesWithHash es.size (fun i=>es[i]?.map (·.hash)) (t.hash w.params)).Nodup:=b97
 generalize hP:placesWithHash es.size (fun i=>es[i]?.map (·.hash)) (t.hash w.params)=ps at hin hex hnd
 have eqa:∀ {t':Tr}{z:Value},Tr.In s.heap t' z→t'.h≤8→SeqAt.EqAt A s z u (decide (t'=t)):=fun a b=>a.eqAt hk (by omega)
 have plain:wpAny (model prog w) A (dictWalkPlain d u (t.hash w.params) es ps) Q E s:=by
  unfold dictWalkPlain
  refine wB ?_
  refine wpAny_forIn_list _ (fun rest b s'=>s'=s∧b=(none,())∧(∀ i∈rest,i∈ps)∧∀ j:Nat,ts[j]?=some t→j∈rest) _ ?_ ?_ _ _ ⟨rfl,rfl,fun _ z=>z,hin⟩
  · rintro i rest b s' ⟨rfl,rfl,hr,hj⟩
    obtain ⟨en,t',e1,e2,e3,e4,e5⟩:=hex i (hr i List.mem_cons_self)
    rw [e1]
    dsimp only
    rw [if_pos (by rw [e3]; exact beq_self_eq_true _)]
    refine wB (wpAny_dictEpoch ho hd (wB (eqa e4 e5 _ _ _ _ (wB (wpAny_dictEpoch ho hd ?_)))))
    show wpAny _ A (if (ep != ep)=true then _ else _) _ E _
    rw [if_neg (by simp)]
    by_cases hkk:t'=t
    · subst hkk
      rw [decide_eq_true rfl]
      exact wB (wpAny_rule (wpAny_pure (wpAny_pure (hsome i e2))))
    · rw [decide_eq_false hkk]
      refine wB (wpAny_rule (wpAny_pure ⟨rfl,rfl,fun i hi=>hr i (List.mem_cons_of_mem _ hi),fun j h2=>?_⟩))
      rcases List.mem_cons.mp (hj j h2) with rfl | h3
      · rw [e2] at h2
        exact absurd (Option.some.inj h2) hkk
      · exact h3
  · rintro b s' ⟨rfl,rfl,_,hj⟩
    exact wpAny_pure (hnone fun j h2=>absurd (hj j h2) (by simp))
 have hany:∀ a,u=.ref a→¬ (es.any fun e=>e.key == u && e.hash != t.hash w.params)=true:=by
  rintro a rfl
  rw [← Array.any_toList,List.any_eq_true]
  rintro ⟨e,hin',hc⟩
  obtain ⟨j,hj,rfl⟩:=Array.mem_iff_getElem.mp (Array.mem_toList_iff.mp hin')
  obtain ⟨t',_,f2,f3,_⟩:=x.at_ j _ (Array.getElem?_eq_getElem hj)
  simp only [Bool.and_eq_true,beq_iff_eq,bne_iff_ne,ne_eq] at hc
  rw [hc.1] at f3
  exact hc.2 (by rw [f2,f3.inj hk])
 have hst:∀ v∈ps.filterMap (fun i=>es[i]?.map (·.key)),∃ t',Tr.In s.heap t' v∧t'.h≤8:=by
  intro v hv
  obtain ⟨i,hi,hv⟩:=List.mem_filterMap.mp hv
  obtain ⟨en,t',e1,_,_,e4,e5⟩:=hex i hi
  rw [e1] at hv
  cases hv
  exact ⟨t',e4,e5⟩
 have tell:∀ {Q:Bool→Shared→Prop},Q false s→wpAny (model prog w) A (tableMayTell u (ps.filterMap fun i=>es[i]?.map (·.key))) Q E s:=by
  intro Q q
  unfold tableMayTell
  split
  · exact wpAny_pure q
  · refine wB (hk.quiet h8 ?_)
    simp only [Bool.false_eq_true,Bool.not_true,if_false]
    refine wB (wpAny_forIn_list _ (fun rest r s'=>s'=s∧r=(none,())∧∀ v∈rest,∃ t',Tr.In s.heap t' v∧t'.h≤8) _ ?_ ?_ _ _ ⟨rfl,rfl,hst⟩)
    · rintro v rest r s' ⟨rfl,rfl,hr⟩
      obtain ⟨t',b1,b2⟩:=hr v List.mem_cons_self
      refine wB (b1.quiet b2 ?_)
      simp only [Bool.false_eq_true,Bool.not_true,if_false]
      exact wpAny_pure ⟨rfl,rfl,fun z hz=>hr z (List.mem_cons_of_mem _ hz)⟩
    · rintro r s' ⟨rfl,rfl,_⟩
      exact wpAny_pure q
 unfold dictFind
 try (with_reducible refine wpAny_holding ?_)
 refine wB (wpAny_dictEntries ho (hd) ?_)
 extract_lets places st hit0 jp3 jp2 jp1
 have hpl:places=ps:=hP
 have hS:ps.filterMap (fun i=>es[i]?.map (·.key))=st:=by rw [← hpl]
 rw [hS] at tell
 clear hst
 have h3:wpAny (model prog w) A (jp3 false) Q E s:=by
  dsimp only [jp3]
  rw [if_neg (by simp),hpl]
  refine wB (wpAny_forIn_list _ (fun rest b s'=>s'=s∧rest.Nodup∧∃ hit:Option Nat,b=(none,hit)∧(∀ i∈rest,i∈ps) ∧
   ((hit=none∧∀ j:Nat,ts[j]?=some t→j∈rest)∨∃ j:Nat,hit=some j∧ts[j]?=some t∧j∉rest)) _ ?_ ?_ _ _ ⟨rfl,hnd,none,rfl,fun _ z=>z,.inl ⟨rfl,hin⟩⟩)
  · rintro i rest b s' ⟨rfl,hnd',hit,rfl,hr,hH⟩
    have hni:i∉rest:=(List.nodup_cons.mp hnd').1
    have hnr:rest.Nodup:=(List.nodup_cons.mp hnd').2
    have hr':∀ j∈rest,j∈ps:=fun j hj=>hr j (List.mem_cons_of_mem _ hj)
    obtain ⟨en,t',e1,e2,e3,e4,e5⟩:=hex i (hr i List.mem_cons_self)
    rw [e1]
    dsimp only
    rw [if_pos (by rw [e3]; exact beq_self_eq_true _)]
    refine wB (wpAny_dictEpoch ho hd (wB (eqa e4 e5 _ _ _ _ (wB (wpAny_dictEpoch ho hd ?_)))))
    show wpAny _ A (if (ep != ep)=true then _ else _) _ E _
    rw [if_neg (by simp)]
    by_cases hkk:t'=t
    · subst hkk
      rw [decide_eq_true rfl]
      rcases hH with ⟨rfl,hj⟩ | ⟨j,rfl,hj,hjr⟩
      · rw [if_pos rfl]
        simp only [Bool.false_eq_true,Option.isSome_none,if_false]
        refine wB ((wpAny_rule) ?_)
        split
        · exact wpAny_pure (wpAny_pure (hsome i e2))
        · exact wpAny_pure ⟨rfl,hnr,some i,rfl,hr',.inr ⟨i,rfl,e2,hni⟩⟩
      · exact absurd (x.one e2 hj ▸ List.mem_cons_self) hjr
    · rw [decide_eq_false hkk]
      rw [if_neg (by simp)]
      refine wB ((wpAny_rule) ?_)
      rw [if_neg (by simp)]
      refine wpAny_pure ⟨rfl,hnr,hit,rfl,hr',?_⟩
      rcases hH with ⟨rfl,hj⟩ | ⟨j,rfl,hj,hjr⟩
      · refine .inl ⟨rfl,fun j h2=>?_⟩
        rcases List.mem_cons.mp (hj j h2) with rfl | h3
        · rw [e2] at h2
          exact absurd (Option.some.inj h2) hkk
        · exact h3
      · exact .inr ⟨j,rfl,hj,fun z=>hjr (List.mem_cons_of_mem _ z)⟩
  · rintro b s' ⟨rfl,_,hit,rfl,_,hH⟩
    rcases hH with ⟨rfl,hj⟩ | ⟨j,rfl,hj,_⟩
    · exact wpAny_pure (hnone fun j h2=>absurd (hj j h2) (by simp))
    · exact wpAny_pure (hsome j hj)
 clear_value jp3
 have h2:wpAny (model prog w) A (jp2 ()) Q E s:=by
  dsimp only [jp2]
  by_cases hone:(st == [u])=true
  · rw [if_pos hone]
    exact wB (wpAny_pure h3)
  · rw [if_neg hone]
    exact wB (tell h3)
 clear_value jp2
 have h1:wpAny (model prog w) A (jp1 ()) Q E s:=by
  dsimp only [jp1]
  by_cases hall:(u::st).all carriedByValue=true
  · rw [if_pos hall,hpl]
    exact plain
  rw [if_neg hall]
  split
  · rename_i a
    rw [if_neg (hany a rfl)]
    exact h2
  · exact h2
 clear_value jp1
 split
 · rename_i y tk
   by_cases hx:(es.all fun e=>isExactStrKey e.key)=true
   · rw [if_pos hx]
     have ht:t=.str y:=hk.inj (r:=.str y) ⟨tk,rfl⟩
     subst ht
     have hstr:∀ (j:Nat) (hj:j<es.size),es[j].key.isStr y=decide (ts[j]?=some (.str y)):=fun j hj=>by
      obtain ⟨t',f1,f2,f3,_⟩:=x.at_ j _ (Array.getElem?_eq_getElem hj)
      have hx':=Array.all_eq_true.mp hx j hj
      rw [f1]
      cases hq:es[j].key with
      | str z tz =>
        rw [hq] at f3
        obtain rfl:t'=.str z:=f3.inj (r:=.str z) ⟨tz,rfl⟩
        show (z == y)=_
        exact Bool.eq_iff_iff.mpr (by simp)
      | _=>rw [hq] at hx'; cases hx'
     unfold foundByValue
     cases hf:es.findIdx? (fun e=>e.key.isStr y) with
     | none =>
       refine wpAny_pure (hnone fun j hj=>?_)
       obtain ⟨en,g1,_⟩:=x.of hj
       obtain ⟨hl,_⟩:=Array.getElem?_eq_some_iff.mp g1
       have:=Array.findIdx?_eq_none_iff.mp hf es[j] (Array.getElem_mem hl)
       rw [hstr j hl,decide_eq_true hj] at this
       cases this
     | some i =>
       obtain ⟨hlt,hi,_⟩:=Array.findIdx?_eq_some_iff_getElem.mp hf
       rw [hstr i hlt] at hi
       have hi:=of_decide_eq_true hi
       obtain ⟨t',f1,f2,f3,f4⟩:=x.at_ i _ (Array.getElem?_eq_getElem hlt)
       rw [hi] at f1
       cases f1
       simp only [Array.getElem?_eq_getElem hlt]
       refine wB (wpAny_dictEpoch ho hd (wB (eqa f3 f4 _ _ _ _ (wB (wpAny_dictEpoch ho hd ?_)))))
       show wpAny _ A (if (ep != ep)=true then _ else _) _ E _
       rw [if_neg (by simp),decide_eq_true rfl]
       exact wB (wpAny_rule (wpAny_pure (hsome i hi)))
   · rw [if_neg hx]
     exact h1
 · exact h1
end
structure DtR (P:Params) (m:List (Tr×V×V)) (es:Array DictEntry):Prop where
 len:es.size=m.length
 at_:∀ (j:Nat) (x:Tr×V×V),m[j]?=some x→∃ e,es[j]?=some e∧e.hash=x.1.hash P∧RelV x.2.1 e.key∧RelV x.2.2 e.val
def DtP (P:Params) (a:Addr) (m:List (Tr×V×V)):Heap→Prop:=fun h=>m.length≤sizeLine∧(a == sysModules)=false∧∃ o es ep,h.get? a=some o∧o.ExactDict∧o.data=.dict es ep∧DtR P m es
abbrev DtO (P:Params) (a:Addr) (m:List (Tr×V×V)):HO:=.ext (DtP P a m)
theorem DtP.one {P:Params}{a:Addr}{m:List (Tr×V×V)}(h1 h2:Heap) (x:DtP P a m h1) (k:∀ o,h1.get? a=some o→h2.get? a=some o):DtP P a m h2:=by
 obtain ⟨z,y,o,es,ep,e,r⟩:=x
 exact ⟨z,y,o,es,ep,k _ e,r⟩
theorem b98 {Pr:Program}{w:World}{H:Hp}{h:Heap}{P:Params}{a:Addr}{m:List (Tr×V×V)}(x:DtP P a m h):ObjOk Pr w H h a (DtO P a m):=by
 refine ⟨x,?_,DtP.one⟩
 obtain ⟨_,_,o,_,_,e,_⟩:=x
 exact ⟨o,e⟩
def DtE (P:Params) (H:Hp) (a:Addr) (m:List (Tr×V×V)):Prop:=∃ φ,H a=some (.ext φ)∧∀ h,φ h→DtP P a m h
theorem DtE.of {P:Params}{H:Hp}{a:Addr}{m:List (Tr×V×V)}(h:H a=some (DtO P a m)):DtE P H a m:=⟨_,h,fun _ x=>x⟩
theorem DtE.mut {P:Params}{H:Hp}{a:Addr}{m:List (Tr×V×V)}(h:DtE P H a m):Mut (H a):=by
 obtain ⟨φ,e,_⟩:=h
 rw [e]
 exact True.intro
def DtAt (P:Params) (H:Hp) (a:Addr) (kvs:List (Tr×V)):Prop:=∃ m:List (Tr×V×V),m.map (fun x=>(x.1,x.2.2))=kvs∧DtE P H a m∧(∀ x∈m,x.1.At H x.2.1 []∧x.1.h≤8)∧(m.map (·.1)).Nodup
noncomputable def putM (m:List (Tr×V×V)) (t:Tr) (y v:V):List (Tr×V×V):=if t∈m.map (·.1) then m.map (fun x=>if x.1=t then (x.1,x.2.1,v) else x) else m++[(t,y,v)]
theorem bg9 (m:List (Tr×V×V)) (t:Tr) (y v:V):(putM m t y v).map (fun x=>(x.1,x.2.2))=putK (m.map fun x=>(x.1,x.2.2)) t v:=by
 have hany:((m.map fun x=>(x.1,x.2.2)).any fun kv=>decide (kv.1=t))=decide (t∈m.map (·.1)):=by
  rw [Bool.eq_iff_iff,List.any_eq_true,decide_eq_true_iff,List.mem_map]
  constructor
  · rintro ⟨p,hp,e⟩
    obtain ⟨x,hx,rfl⟩:=List.mem_map.mp hp
    exact ⟨x,hx,of_decide_eq_true e⟩
  · rintro ⟨x,hx,e⟩
    exact ⟨_,List.mem_map_of_mem hx,decide_eq_true e⟩
 unfold putM putK
 rw [hany]
 by_cases h:t∈m.map (·.1)
 · rw [if_pos h,if_pos (decide_eq_true h),List.map_map,List.map_map]
   refine List.map_congr_left fun x _=>?_
   simp only [Function.comp]
   split <;> rfl
 · rw [if_neg h,if_neg (by rw [decide_eq_false h]; exact Bool.false_ne_true),List.map_append]
   rfl
theorem bp8 {m:List (Tr×V×V)}(t:Tr) (y v:V) (h:(m.map (·.1)).Nodup):((putM m t y v).map (·.1)).Nodup:=by
 unfold putM
 by_cases ht:t∈m.map (·.1)
 · rw [if_pos ht,List.map_map]
   rw [show m.map ((·.1)∘fun x=>if x.1=t then (x.1,x.2.1,v) else x)=m.map (·.1) from List.map_congr_left fun x _=>by simp only [Function.comp]; split <;> rfl]
   exact h
 · rw [if_neg ht,List.map_append]
   exact b87 h ht
theorem bh0 {m:List (Tr×V×V)}{t:Tr}{y v:V}{p:Tr→V→Prop}(h:∀ x∈m,p x.1 x.2.1) (hy:p t y):∀ x∈putM m t y v,p x.1 x.2.1:=by
 intro x hx
 unfold putM at hx
 by_cases ht:t∈m.map (·.1)
 · rw [if_pos ht] at hx
   obtain ⟨z,hz,rfl⟩:=List.mem_map.mp hx
   split <;> exact h z hz
 · rw [if_neg ht] at hx
   rcases gA hx with hx | hx
   · exact h x hx
   · rw [gG hx]; exact hy
theorem bh1 (m:List (Tr×V×V)) (t:Tr) (y v:V):(putM m t y v).length≤m.length+1:=by
 unfold putM
 split <;> simp
theorem ab2 {P:Params}{H H':Hp}{a:Addr}{kvs:List (Tr×V)}(x:DtAt P H a kvs) (s:Same H H'):DtAt P H' a kvs:=by
 obtain ⟨m,e1,⟨φ,e2,hφ⟩,e3,e4⟩:=x
 exact ⟨m,e1,⟨φ,s _ _ e2,hφ⟩,fun x hx=>⟨(e3 x hx).1.mono (s.keep _),(e3 x hx).2⟩,e4⟩
def TK (H:Hp) (t:Tr) (y:V):Prop:=t.At H y []∧t.h≤8
theorem az1 {m:List (Tr×V×V)}(hn:(m.map (·.1)).Nodup) {j:Nat}{x:Tr×V×V}(e:m[j]?=some x):valV (m.map fun x=>(x.1,x.2.2)) x.1=some x.2.2:=by
 induction m generalizing j with
 | nil=>simp at e
 | cons z m ih =>
   rw [List.map_cons,List.nodup_cons] at hn
   cases j with
   | zero =>
     obtain rfl:z=x:=by simpa using e
     exact aa2 rfl
   | succ j =>
     have e':m[j]?=some x:=by simpa using e
     rw [List.map_cons,aa3 (fun q=>hn.1 (by
      show z.1∈_
      rw [show z.1=x.1 from q]
      exact List.mem_map_of_mem (gI e')))]
     exact ih hn.2 e'
theorem ak2 {m:List (Tr×V×V)}{t:Tr}(h:∀ j:Nat,(m.map (·.1))[j]?≠some t):valV (m.map fun x=>(x.1,x.2.2)) t=none∧t∉m.map (·.1):=by
 have hn:t∉m.map (·.1):=fun z=>by
  obtain ⟨j,hj,e⟩:=List.mem_iff_getElem.mp z
  exact h j (by rw [gE hj,e])
 refine ⟨?_,hn⟩
 unfold valV
 rw [List.find?_eq_none.mpr]
 · rfl
 · intro p hp
   obtain ⟨x,hx,rfl⟩:=List.mem_map.mp hp
   simp only [decide_eq_true_iff]
   exact fun z=>hn (z ▸ List.mem_map_of_mem hx)
section
variable {X:Cx}{pins:List (Addr×Obj)}{σ:St} {H:Hp}{s:Shared}{a:Addr}{t:Tr}{y v:V}{u r:Value}{A:Around}{E:Value→Shared→Prop}{kvs:List (Tr×V)}{m:List (Tr×V×V)}
theorem ak3 (I:Inv X pins σ H s) (e2:DtE X.w.params H a m) (e3:∀ x∈m,x.1.At H x.2.1 []∧x.1.h≤8) (e4:(m.map (·.1)).Nodup) :
 ∃ o es ep,s.heap.get? a=some o∧o.ExactDict∧o.data=.dict es ep∧DtR X.w.params m es∧Ents X.w.params s.heap es (m.map (·.1))∧m.length≤sizeLine∧(a == sysModules)=false:=by
 obtain ⟨φ,e2,hφ⟩:=e2
 obtain ⟨z1,z2,o,es,ep,q1,q2,q3,q4⟩:=hφ _ (I.hok a _ e2).1
 refine ⟨o,es,ep,q1,q2,q3,q4,⟨by rw [q4.len,gL],fun j e he=>?_,e4⟩,z1,z2⟩
 have hj:j<m.length:=by rw [← q4.len]; exact (Array.getElem?_eq_some_iff.mp he).1
 obtain ⟨e',f1,f2,f3,f4⟩:=q4.at_ j m[j] (gE hj)
 rw [he] at f1
 cases f1
 have:=e3 m[j] (List.getElem_mem hj)
 exact ⟨m[j].1,by rw [gM,gE hj]; rfl,f2,this.1.isIn I f3,this.2⟩
theorem bm0 {Q:Option Value→Shared→Prop}(hu:A.units+16<cLine) (I:Inv X pins σ H s) (g:DtAt X.w.params H a kvs) (hk:TK H t y) (ry:RelV y u) (h:∀ o s',Inv X pins σ H s'→RelO (valV kvs t) o→Q o s') :
 wpAny (model X.prog X.w) A (dictGet a u) Q E s:=by
 obtain ⟨m,rfl,e2,e3,e4⟩:=g
 obtain ⟨o,es,ep,q1,q2,q3,q4,q5,_⟩:=ak3 I e2 e3 e4
 have hin:=hk.1.isIn I ry
 unfold dictGet
 try (with_reducible refine wpAny_holding ?_)
 refine wB (hin.pyHash (by have:=hk.2; omega) fun n=>wB (aw4 (s:={ s with toks:=n }) q1 q3 q5 hin hk.2 hu (fun hn=>?_) fun j hj=>?_))
 · refine wpAny_pure (h _ _ (I.tok _) ?_)
   rw [(ak2 hn).1]
   exact True.intro
 · rw [gM] at hj
   obtain ⟨x,hx,rfl⟩:=gO hj
   obtain ⟨en,f1,f2,f3,f4⟩:=q4.at_ j x hx
   refine wB (wpAny_dictEntries (s:={ s with toks:=n }) q1 q3 ?_)
   rw [f1]
   refine wpAny_pure (h _ _ (I.tok _) ?_)
   rw [az1 e4 hx]
   exact f4
theorem bh2 {P:Params}{es:Array DictEntry}{e:DictEntry}(x:DtR P m es) (h1:e.hash=t.hash P) (h2:RelV y e.key) (h3:RelV v e.val):DtR P (m++[(t,y,v)]) (es.push e):=by
 refine ⟨by simp [x.len],fun j z hz=>?_⟩
 by_cases hj:j<m.length
 · rw [List.getElem?_append_left hj] at hz
   obtain ⟨e',f1,f2⟩:=x.at_ j z hz
   exact ⟨e',by rw [Array.getElem?_push,if_neg (by rw [x.len]; omega)]; exact f1,f2⟩
 · rw [List.getElem?_append_right (by omega)] at hz
   have hj2:j - m.length=0:=by
    refine Nat.eq_zero_of_not_pos fun z=>?_
    rw [List.getElem?_eq_none (by simp; omega)] at hz
    cases hz
   rw [hj2] at hz
   cases hz
   exact ⟨e,by rw [Array.getElem?_push,if_pos (by rw [x.len]; omega)],h1,h2,h3⟩
theorem bp9 {P:Params}{es:Array DictEntry}{j:Nat}{x:Tr×V×V}(R:DtR P m es) (hn:(m.map (·.1)).Nodup) (hx:m[j]?=some x) (h3:RelV v r) :
 DtR P (m.map fun z=>if z.1=x.1 then (z.1,z.2.1,v) else z) (es.modify j fun e=>{ e with val:=r }):=by
 refine ⟨by simp [R.len],fun i z hz=>?_⟩
 rw [gM] at hz
 obtain ⟨z0,hz0,rfl⟩:=gO hz
 obtain ⟨e',f1,f2,f3,f4⟩:=R.at_ i z0 hz0
 have hi:i<es.size:=(Array.getElem?_eq_some_iff.mp f1).1
 rw [Array.getElem?_modify,f1]
 by_cases hij:j=i
 · subst hij
   rw [hz0] at hx
   cases hx
   rw [if_pos rfl,if_pos rfl]
   exact ⟨_,rfl,f2,f3,h3⟩
 · rw [if_neg hij,if_neg]
   · exact ⟨_,rfl,f2,f3,f4⟩
   · intro e
     have pw:=List.pairwise_iff_getElem.mp hn
     obtain ⟨l1,g1⟩:=gS hx
     obtain ⟨l2,g2⟩:=gS hz0
     rcases Nat.lt_trichotomy j i with h | h | h
     · exact pw j i (by simpa using l1) (by simpa using l2) h (by simp [g1,g2,e])
     · exact hij h
     · exact pw i j (by simpa using l2) (by simpa using l1) h (by simp [g1,g2,e])
theorem c02 {Q:Unit→Shared→Prop}(hu:A.units+16<cLine) (I:Inv X pins σ H s) (e2:DtE X.w.params H a m) (e3:∀ x∈m,x.1.At H x.2.1 []∧x.1.h≤8) (e4:(m.map (·.1)).Nodup) (hz:m.length<sizeLine)
 (hk:TK H t y) (ry:RelV y u) (rv:RelV v r) (h:∀ s',Inv X pins σ (upd H a (DtO X.w.params a (putM m t y v))) s'→Q () s') :
 wpAny (model X.prog X.w) A (dictSet a u r) Q E s:=by
 obtain ⟨o,es,ep,q1,q2,q3,q4,q5,z1,z2⟩:=ak3 I e2 e3 e4
 have hin:=hk.1.isIn I ry
 have hl:(putM m t y v).length≤sizeLine:=by have:=bh1 m t y v; omega
 unfold dictSet
 try (with_reducible refine wpAny_holding ?_)
 refine wB (hin.pyHash (by have:=hk.2; omega) fun n=>?_)
 unfold dictSetHashed
 try (with_reducible refine wpAny_holding ?_)
 refine wB (aw4 (s:={ s with toks:=n }) q1 q3 q5 hin hk.2 hu (fun hn=>?_) fun j hj=>?_)
 · refine wB (wpAny_rule (wpAny_updateDictKeys (s:={ s with toks:=n }) q1 q3 (h _ (b85 (I.tok n) e2.mut (Heap.SameBut.update ..) ?_ (b98 ⟨hl,z2,_,_,ep+1,Heap.get?_update_self _ q1 (Obj.isFreed_of_dict (Obj.data_mapDictKeys q3 _)),q2.mapDictKeys _,Obj.data_mapDictKeys q3 _,?_⟩))) (by rw [q4.len]; omega)))
   · exact ⟨_,Heap.get?_update_self _ q1 (Obj.isFreed_of_dict (Obj.data_mapDictKeys q3 _))⟩
   · unfold putM
     rw [if_neg (ak2 hn).2]
     exact bh2 q4 rfl ry rv
 · rw [gM] at hj
   obtain ⟨x,hx,rfl⟩:=gO hj
   refine wB (wpAny_rule (wB (wpAny_updateDict (s:={ s with toks:=n }) q1 q3 (wpAny_point (h _ (b85 (I.tok n) e2.mut (Heap.SameBut.update ..) ?_ (b98 ⟨hl,z2,_,_,ep,Heap.get?_update_self _ q1 (Obj.isFreed_of_dict (Obj.data_mapDict q3 _)),q2.mapDict _,Obj.data_mapDict q3 _,?_⟩)))))))
   · exact ⟨_,Heap.get?_update_self _ q1 (Obj.isFreed_of_dict (Obj.data_mapDict q3 _))⟩
   · unfold putM
     rw [if_pos (List.mem_map_of_mem (gI hx))]
     exact bp9 q4 e4 hx rv
end
def RawD (h:Heap) (d:Addr) (es:Array DictEntry) (ep:Nat):Prop:=∃ o,h.get? d=some o∧o.ExactDict∧o.data=.dict es ep
theorem RawD.ty {s:Shared}{d:Addr}{es:Array DictEntry}{ep:Nat}(x:RawD s.heap d es ep):s.TypeIs (.ref d) "dict":=let ⟨o,e,c,_⟩:=x; ⟨o,e,c.1⟩
section
variable {prog:Program}{w:World}{A:Around}{E:Value→Shared→Prop}{s:Shared}{d it:Addr}{es:Array DictEntry}{ep i:Nat}
end
theorem b99:∀ {xs:List V}{us:List Value},xs.length=us.length→(∀ (j:Nat) x u,xs[j]?=some x→us[j]?=some u→RelV x u)→Vals xs us
 | [],[],_,_=>.nil
 | x::xs,u::us,hl,h=>.cons (h 0 x u rfl rfl) (b99 (by simpa using hl) fun j y z hy hz=>h (j+1) y z (by simpa using hy) (by simpa using hz))
 | [],_::_,hl,_=>by simp at hl
 | _::_,[],hl,_=>by simp at hl
section
variable {X:Cx}{pins:List (Addr×Obj)}{σ:St} {H:Hp}{s:Shared}{a:Addr}{t:Tr}{y v z:V}{u r:Value}{A:Around}{E:Value→Shared→Prop}{kvs:List (Tr×V)}{m:List (Tr×V×V)}
theorem af9 (I:Inv X pins σ H s) (g:DtAt X.w.params H a kvs):∃ es ep,RawD s.heap a es ep∧(a == sysModules)=false∧es.size=kvs.length∧kvs.length≤sizeLine:=by
 obtain ⟨m,rfl,e2,e3,e4⟩:=g
 obtain ⟨o,es,ep,q1,q2,q3,q4,q5,z1,z2⟩:=ak3 I e2 e3 e4
 exact ⟨es,ep,⟨o,q1,q2,q3⟩,z2,by rw [q4.len,gL],by rw [gL]; exact z1⟩
theorem b51 {Q:Value→Shared→Prop}(hu:A.units+20<cLine) (I:Inv X pins σ H s) (g:DtAt X.w.params H a kvs) (hk:TK H t y) (ry:RelV y u) (hv:valV kvs t=some v) (h:∀ w' s',Inv X pins σ H s'→RelV v w'→Q w' s') :
 wpAny (model X.prog X.w) A (getItem (.ref a) u) Q E s:=by
 obtain ⟨_,_,x,_,_,_⟩:=af9 I g
 have T:=x.ty
 unfold getItem
 try (with_reducible refine wpAny_holding ?_)
 refine wB (wpAny_sequenceKey T (by decide) (wB (wpAny_callSpecial?_slot (name:=Str.ofString "__getitem__") T slot_dict_getitem (wpAny_call_entry slot_dict_getitem T entry_dict_getitem ?_ (args_dict_getitem _ _)))))
 show wpAny _ A.in1 (dictGet a u >>= _) _ _ s
 refine wB (bm0 (by rw [a60]; omega) I g hk ry fun o s' I' ro=>?_)
 rw [hv] at ro
 obtain ⟨w',rfl,rw'⟩:=ro.some_of
 exact wpAny_pure ⟨w',rfl,wpAny_pure (h w' s' I' rw')⟩
theorem aw5 {Q:Bool→Shared→Prop}(hu:A.units+20<cLine) (I:Inv X pins σ H s) (g:DtAt X.w.params H a kvs) (hk:TK H t y) (ry:RelV y u) (h:∀ s',Inv X pins σ H s'→Q (valV kvs t).isSome s') :
 wpAny (model X.prog X.w) A (contains (.ref a) u) Q E s:=by
 obtain ⟨_,_,x,lo,_,_⟩:=af9 I g
 have T:=x.ty
 unfold contains
 try (with_reducible refine wpAny_holding ?_)
 refine wB (wpAny_specialOf T slot_dict_contains.lookup ?_)
 show wpAny _ A (if (some (Value.builtin "dict.__contains__") == some Value.none)=true then _ else _) _ E s
 rw [if_neg (by rw [beq_builtin_none]; simp)]
 refine wB (wpAny_callSpecialUnlessNone?_slot (name:=Str.ofString "__contains__") T slot_dict_contains (wpAny_call_entry slot_dict_contains T entry_dict_contains ?_ (args_dict_contains _ _)))
 show wpAny _ A.in1 (dictGet a u >>= _) _ _ s
 refine wB (bm0 (by rw [a60]; omega) I g hk ry fun o s' I' ro=>?_)
 have h:=h s' I'
 rw [ro.isSome_eq] at h
 cases o with
 | some w'=>exact (show wpAny _ _ (ret (.bool true)) _ _ _ from wpAny_pure ⟨_,rfl,wpAny_truthy_bool h⟩)
 | none=>exact (show wpAny _ _ (Builtin.Dict.pendingKey? a u >>= _) _ _ _ from wB (wpAny_pendingKey_other lo (wpAny_pure ⟨_,rfl,wpAny_truthy_bool h⟩)))
theorem bh3 {Q:Value→Shared→Prop}(hu:A.units+20<cLine) (I:Inv X pins σ H s) (g:DtAt X.w.params H a kvs) (hk:TK H t y) (ry:RelV y u) (h:∀ s',Inv X pins σ H s'→Q (.bool (!(valV kvs t).isSome)) s') :
 wpAny (model X.prog X.w) A (compareOp .NotIn u (.ref a)) Q E s :=
 (show wpAny _ _ (do return .bool (!(← contains (.ref a) u))) Q E s from wB (aw5 hu I g hk ry fun s' I'=>wpAny_pure (h s' I')))
theorem b52 {Q:Unit→Shared→Prop}(hu:A.units+20<cLine) (I:Inv X pins σ H s) (e2:DtE X.w.params H a m) (e3:∀ x∈m,x.1.At H x.2.1 []∧x.1.h≤8) (e4:(m.map (·.1)).Nodup) (hz:m.length<sizeLine)
 (hk:TK H t y) (ry:RelV y u) (rv:RelV v r) (h:∀ s',Inv X pins σ (upd H a (DtO X.w.params a (putM m t y v))) s'→Q () s'):wpAny (model X.prog X.w) A (setItem (.ref a) u r) Q E s:=by
 obtain ⟨_,_,x,lo,_,_⟩:=af9 I ⟨m,rfl,e2,e3,e4⟩
 have T:=x.ty
 unfold setItem
 try (with_reducible refine wpAny_holding ?_)
 refine wB (wpAny_sequenceKey T (by decide) (wB (wpAny_callSpecial?_slot (name:=Str.ofString "__setitem__") T slot_dict_setitem (wpAny_call_entry slot_dict_setitem T entry_dict_setitem ?_ (args_dict_setitem _ _ _)))))
 show wpAny _ A.in1 (Builtin.Dict.notOrdered "__setitem__" ⟨[.ref a,u,r],[]⟩ >>= _) _ _ s
 refine wB (wpAny_notOrdered_dict T ?_)
 show wpAny _ A.in1 (dictSet a u r >>= _) _ _ s
 exact wB (c02 (by rw [a60]; omega) I e2 e3 e4 hz hk ry rv fun s' I'=>wpAny_pure ⟨.none,rfl,wpAny_pure (h s' I')⟩)
end
theorem ak4 {H:Hp}{a:Addr}{φ:Heap→Prop} {o:HO}(h:H a=some (.ext φ)):Tups H (upd H a o):=fun b ys e=>by rw [a09 (ae0 e h (fun z=>nomatch z))]; exact e
theorem a78 {H H':Hp}{t:Tr}{v:V}(h:t.At H v []) (k:Tups H H'):t.At H' v []:=h.mono ⟨k,fun _ m=>absurd m (by simp)⟩
theorem a62 {H H':Hp}{ts:List Tr}{vs:List V}(h:Tr.Ats H ts vs []) (k:Tups H H'):Tr.Ats H' ts vs []:=h.mono ⟨k,fun _ m=>absurd m (by simp)⟩
theorem DtAt.ext {P:Params}{H:Hp}{a:Addr}{kvs:List (Tr×V)}(g:DtAt P H a kvs):∃ φ,H a=some (.ext φ):=let ⟨_,_,⟨φ,e,_⟩,_⟩:=g; ⟨φ,e⟩
theorem DtAt.mono {P:Params}{H H':Hp}{a:Addr}{kvs:List (Tr×V)}(g:DtAt P H a kvs) (k:Tups H H') (e:H' a=H a):DtAt P H' a kvs:=by
 obtain ⟨m,e1,⟨φ,e2,hφ⟩,e3,e4⟩:=g
 exact ⟨m,e1,⟨φ,e.trans e2,hφ⟩,fun x hx=>⟨a78 (e3 x hx).1 k,(e3 x hx).2⟩,e4⟩
theorem bq0 {P:Params}{H:Hp}{a:Addr}{m:List (Tr×V×V)}{t:Tr}{y v:V}(e2:DtE P H a m) (e3:∀ x∈m,x.1.At H x.2.1 []∧x.1.h≤8) (e4:(m.map (·.1)).Nodup) (hk:TK H t y) :
 DtAt P (upd H a (DtO P a (putM m t y v))) a (putK (m.map fun x=>(x.1,x.2.2)) t v):=by
 obtain ⟨φ,e2,hφ⟩:=e2
 refine ⟨_,bg9 m t y v,.of a33,?_,bp8 t y v e4⟩
 exact bh0 (p:=fun t y=>t.At (upd H a (DtO P a (putM m _ _ _))) y []∧t.h≤8) (fun x hx=>⟨a78 (e3 x hx).1 (ak4 e2),(e3 x hx).2⟩) ⟨a78 hk.1 (ak4 e2),hk.2⟩
def tTNew (P:Params):TE:=fun _ H Q=>∀ p o,H p=none→DtAt P (upd H p o) p []→Q (.ref p) (upd H p o)
def tTGet (P:Params) (td ty:TE):TE:=fun σ H Q=>td σ H fun x H1=>ty σ H1 fun y H2=>∃ a kvs t v,x=.ref a∧DtAt P H2 a kvs∧TK H2 t y∧valV kvs t=some v∧Q v H2
def tTNotIn (P:Params) (ty td:TE):TE:=fun σ H Q=>ty σ H fun y H1=>td σ H1 fun x H2=>∃ a kvs t,x=.ref a∧DtAt P H2 a kvs∧TK H2 t y∧Q (.bl (!(valV kvs t).isSome)) H2
def sTPut (P:Params) (td ty tv:TE):TS:=fun D σ H=>tv σ H fun v H1=>td σ H1 fun x H2=>ty σ H2 fun y H3=>∃ a kvs t,x=.ref a∧DtAt P H3 a kvs∧TK H3 t y∧kvs.length<sizeLine∧∀ o,DtAt P (upd H3 a o) a (putK kvs t v)→D.nx σ (upd H3 a o)
section
variable {X:Cx}{o i e f value:Expr}{pos pos' apos cpos:Pos}{td ty tv tx:TE}{P:Params}
theorem bq1 (h:Heap) (P:Params) (hb:sysModules<h.objs.size):DtP P h.objs.size [] (h.push { cls:=.type "dict",data:=.dict #[] }) :=
 ⟨Nat.zero_le _,beq_eq_false_iff_ne.mpr (Ne.symm (Nat.ne_of_lt hb)),_,#[],0,Heap.get?_push_size _ rfl,⟨rfl,rfl,rfl⟩,rfl,rfl,fun j x hx=>by simp at hx⟩
theorem aw6 (P:Params):PE X (.Dict [] [] pos) (tTNew P):=fun pins s σ H Q I h =>
 wpAny_Dict_empty ⟨.ref s.heap.objs.size,_,I.laid (a:=s.heap.objs.size) (o:=DtO P s.heap.objs.size []) (t':=s.toks) (fun _ _ q=>gP _ q) (Nat.le_refl _) (b98 (bq1 s.heap P I.big)),rfl,
  h _ _ (I.hok.fresh (Nat.le_refl _)) ⟨[],rfl,.of a33,fun x hx=>absurd hx (by simp),List.nodup_nil⟩⟩
theorem bq2 (hP:X.w.params=P) (hu:X.A.units+64<cLine) (ho:PE X o td) (hi:PE X i ty) (hs:NoSl i):PE X (.Subscript o i pos) (tTGet P td ty):=by
 subst hP
 intro pins s σ H Q I h
 refine b86 PySem.F.slot_dict_getitem.lookup hs (thn (ho pins s σ H _ I h) fun u s1 ⟨x,H1,I1,rx,q1⟩=>thn (hi pins s1 σ H1 _ I1 q1) fun iv s2 ⟨y,H2,I2,ry,a,kvs,t,v,ex,g,hk,hv,q2⟩=>?_)
 subst ex
 obtain rfl:u=Value.ref a:=rx
 obtain ⟨_,_,x,_⟩:=af9 I2 g
 exact ⟨x.ty,b51 (by omega) I2 g hk ry hv fun w' s3 I3 rw'=>⟨v,H2,I3,rw',q2⟩⟩
theorem as6 (hP:X.w.params=P) (hu:X.A.units+64<cLine) (hi:PE X i ty) (ho:PE X o td):PC X .NotIn i o (tTNotIn P ty td):=by
 subst hP
 intro pins s σ H Q I h
 refine thn (hi pins s σ H _ I h) fun iv s1 ⟨y,H1,I1,ry,q1⟩=>thn (ho pins s1 σ H1 _ I1 q1) fun u s2 ⟨x,H2,I2,rx,a,kvs,t,ex,g,hk,q2⟩=>?_
 subst ex
 obtain rfl:u=Value.ref a:=rx
 exact bh3 (by omega) I2 g hk ry fun s3 I3=>⟨.bl _,H2,I3,rfl,q2⟩
theorem ap1 (hP:X.w.params=P) (hu:X.A.units+64<cLine) (ho:PE X o td) (hi:PE X i ty) (hv:PE X value tv) (hs:swapsWith value (some (.Subscript o i pos')) pos.line X.env=pure false) :
 PS X (.Assign [.Subscript o i pos'] value pos) (sTPut P td ty tv):=by
 subst hP
 intro pins s σ H D I h
 refine wpAny_Assign_Subscript (thn (hv pins s σ H _ I h) fun r s1 ⟨v,H1,I1,rv,q1⟩=>thn (ho pins s1 σ H1 _ I1 q1) fun u s2 ⟨x,H2,I2,rx,q2⟩=>thn (hi pins s2 σ H2 _ I2 q2) fun iv s3 ⟨y,H3,I3,ry,a,kvs,t,ex,g,hk,hz,q3⟩=>?_) hs
 subst ex
 obtain rfl:u=Value.ref a:=rx
 obtain ⟨m,rfl,e2,e3,e4⟩:=g
 rw [gL] at hz
 exact b52 (by omega) I3 e2 e3 e4 hz hk ry rv fun s4 I4=>⟨σ,_,I4,q3 _ (bq0 e2 e3 e4 hk)⟩
end
def rNotInF (K:W.Frag):R2:=fun x y H Q=>∃ (t:Tr) (ts:List Tr) (a:Addr) (vs:List V),t.At H x []∧y=.ref a∧SqL K H a vs∧Tr.Ats H ts vs []∧t.h≤20∧Tr.hs ts≤20∧Q (.bl (!decide (t∈ts))) H
def rSum (K:W.Frag):List V→Hp→VK→Prop:=fun xs H Q=>∃ (a:Addr) (ns:List Int),xs=[.ref a]∧SqL K H a (ns.map V.int)∧Q (.int ns.sum) H
section
variable {X:Cx}
theorem ba0 {ts:List Tr}{t:Tr}(h:t∈ts):t.h≤Tr.hs ts:=by
 induction ts with
 | nil=>cases h
 | cons x xs ih =>
   simp only [Tr.hs]
   rcases List.mem_cons.mp h with rfl | h
   · omega
   · have:=ih h; omega
theorem ak5 {h:Heap}{ts:List Tr}{us:List Value}(x:Tr.Ins h ts us) {z:Value}(hz:z∈us):∃ t∈ts,Tr.In h t z:=by
 obtain ⟨j,hj,rfl⟩:=List.mem_iff_getElem.mp hz
 have hj':j<ts.length:=by rw [← x.len]; exact hj
 exact ⟨ts[j],List.getElem_mem hj',x.get j hj hj'⟩
theorem Tr.In.rcAt {s:Shared}{t r:Tr}{A:Around}{u z:Value}(h1:Tr.In s.heap t u) (h2:Tr.In s.heap r z) (hu:A.units+t.h+r.h+2<cLine):SeqAt.RcAt A s u z (decide (t=r)):=by
 cases t with
 | lst _=>exact h1.elim
 | non =>
   simp only [Tr.In] at h1
   subst h1
   cases r with
   | lst _=>exact h2.elim
   | non=>simp only [Tr.In] at h2; subst h2; rw [decide_eq_true rfl]; exact SeqAt.RcAt.none_none
   | int j =>
     rw [decide_eq_false (by simp)]
     rcases h2 with ⟨t2,rfl⟩ | ⟨b2,rfl,rfl⟩
     · exact SeqAt.RcAt.none_int _ _
     · exact SeqAt.RcAt.none_bool _
   | str j=>obtain ⟨t2,rfl⟩:=h2; rw [decide_eq_false (by simp)]; exact SeqAt.RcAt.none_str _ _
   | tup rs=>simp only [Tr.In] at h2; obtain ⟨b,vs,rfl,p,_⟩:=h2; rw [decide_eq_false (by simp)]; exact SeqAt.RcAt.none_tuple p (by omega)
 | int i =>
   cases r with
   | lst _=>exact h2.elim
   | non =>
     simp only [Tr.In] at h2
     subst h2
     rw [decide_eq_false (by simp)]
     rcases h1 with ⟨t1,rfl⟩ | ⟨b1,rfl,rfl⟩
     · exact SeqAt.RcAt.int_none _ _
     · exact SeqAt.RcAt.bool_none _
   | int j =>
     rw [show decide (Tr.int i=Tr.int j)=(i == j) from Bool.eq_iff_iff.mpr (by simp)]
     rcases h1 with ⟨t1,rfl⟩ | ⟨b1,rfl,rfl⟩
     · rcases h2 with ⟨t2,rfl⟩ | ⟨b2,rfl,rfl⟩
       · exact SeqAt.RcAt.int_int _ _ _ _
       · exact SeqAt.RcAt.int_bool _ _ _
     · rcases h2 with ⟨t2,rfl⟩ | ⟨b2,rfl,rfl⟩
       · exact SeqAt.RcAt.bool_int _ _ _
       · have:=SeqAt.RcAt.bool_bool (A:=A) (s:=s) b1 b2
         cases b1 <;> cases b2 <;> exact this
   | str j =>
     obtain ⟨t2,rfl⟩:=h2
     rw [decide_eq_false (by simp)]
     rcases h1 with ⟨t1,rfl⟩ | ⟨b1,rfl,rfl⟩
     · exact SeqAt.RcAt.int_str _ _ _ _
     · exact SeqAt.RcAt.bool_str _ _ _
   | tup rs =>
     simp only [Tr.In] at h2
     obtain ⟨b,vs,rfl,p,_⟩:=h2
     rw [decide_eq_false (by simp)]
     rcases h1 with ⟨t1,rfl⟩ | ⟨b1,rfl,rfl⟩
     · exact SeqAt.RcAt.int_tuple _ _ p (by omega)
     · exact SeqAt.RcAt.bool_tuple _ p (by omega)
 | str i =>
   obtain ⟨t1,rfl⟩:=h1
   cases r with
   | lst _=>exact h2.elim
   | non=>simp only [Tr.In] at h2; subst h2; rw [decide_eq_false (by simp)]; exact SeqAt.RcAt.str_none _ _
   | int j =>
     rw [decide_eq_false (by simp)]
     rcases h2 with ⟨t2,rfl⟩ | ⟨b2,rfl,rfl⟩
     · exact SeqAt.RcAt.str_int _ _ _ _
     · exact SeqAt.RcAt.str_bool _ _ _
   | str j =>
     obtain ⟨t2,rfl⟩:=h2
     have:=SeqAt.RcAt.str_str (A:=A) (s:=s) i t1 j t2
     rw [show (i == j)=decide (Tr.str i=Tr.str j) from Bool.eq_iff_iff.mpr (by simp)] at this
     exact this
   | tup rs=>simp only [Tr.In] at h2; obtain ⟨b,vs,rfl,p,_⟩:=h2; rw [decide_eq_false (by simp)]; exact SeqAt.RcAt.str_tuple _ _ p (by omega)
 | tup ts =>
   simp only [Tr.In] at h1
   obtain ⟨a,us,rfl,p1,c1⟩:=h1
   cases r with
   | lst _=>exact h2.elim
   | non=>simp only [Tr.In] at h2; subst h2; rw [decide_eq_false (by simp)]; exact SeqAt.RcAt.tuple_none p1 (by omega)
   | int j =>
     rw [decide_eq_false (by simp)]
     rcases h2 with ⟨t2,rfl⟩ | ⟨b2,rfl,rfl⟩
     · exact SeqAt.RcAt.tuple_int _ _ p1 (by omega)
     · exact SeqAt.RcAt.tuple_bool _ p1 (by omega)
   | str j=>obtain ⟨t2,rfl⟩:=h2; rw [decide_eq_false (by simp)]; exact SeqAt.RcAt.tuple_str _ _ p1 (by omega)
   | tup rs =>
     simp only [Tr.In] at h2
     obtain ⟨b,vs,rfl,p2,c2⟩:=h2
     simp only [Tr.h] at hu
     have l1:=c1.len
     have l2:=c2.len
     simp only [Array.length_toList] at l1 l2
     have:=SeqAt.RcAt.tuples (A:=A) (s:=s) (e:=fun j=>decide (ts.getD j .non=rs.getD j .non)) p1 p2 (by omega) (fun j h1 h2=>by
      have:=Tr.Ins.eqAts (A:=A.in1) c1 c2 (by rw [a60]; omega) j (by simpa using h1) (by simpa using h2)
      simpa using this)
     rw [l1,l2,b96] at this
     rw [show decide (Tr.tup ts=Tr.tup rs)=decide (ts=rs) from Bool.eq_iff_iff.mpr (by simp)]
     exact this
theorem b53 (K:W.Frag) (hu:X.A.units+64<cLine) (hK:X.K=K:=by rfl):OpR X (compareOp .NotIn) (rNotInF K):=by
 classical
 subst hK
 intro pins s σ H x y v u Q I rx ry h
 obtain ⟨t,ts,a,vs,h1,rfl,h2,h3,l1,l2,q⟩:=h
 cases ry
 obtain ⟨its,v1,p1,_⟩:=I.list h2
 have hin:=h1.isIn I rx
 have his:=h3.isIns I v1
 refine SeqAt.notIn_listAt (fun z=>decide (∃ r,Tr.In s.heap r z∧r=t)) p1.isList (fun z hz=>?_) ?_
 · obtain ⟨r,hr,hz'⟩:=ak5 his (by simpa using hz)
   have:=hz'.eqAt hin (A:=X.A.in1) (by have:=ba0 hr; rw [a60]; omega)
   rw [show decide (∃ q,Tr.In s.heap q z∧q=t)=decide (r=t) from Bool.eq_iff_iff.mpr (by
    simp only [decide_eq_true_iff]
    exact ⟨fun ⟨q,a,b⟩=>(hz'.inj a).trans b,fun e=>⟨r,hz',e⟩⟩)]
   exact this
 · refine ⟨.bl (!decide (t∈ts)),H,I,?_,q⟩
   rw [show its.toArray.any (fun z=>decide (∃ r,Tr.In s.heap r z∧r=t))=decide (t∈ts) from ?_]
   · rfl
   rw [← Array.any_toList,Bool.eq_iff_iff,List.any_eq_true,decide_eq_true_iff]
   constructor
   · rintro ⟨z,hz,e⟩
     obtain ⟨r,hr,rfl⟩:=of_decide_eq_true e
     obtain ⟨r',hm,hr'⟩:=ak5 his (by simpa using hz)
     exact hr'.inj hr ▸ hm
   · intro hm
     obtain ⟨j,hj,rfl⟩:=List.mem_iff_getElem.mp hm
     have hj':j<its.length:=by rw [his.len]; exact hj
     exact ⟨its[j],by simp,decide_eq_true ⟨_,his.get j hj' hj,rfl⟩⟩
theorem c03 (hc:X.calm=true):CallR X (.builtin "sum") (rSum X.K):=by
 intro pins s σ H xs us Q I r h
 obtain ⟨a,ns,rfl,hS,q⟩:=h
 cases r with
 | cons r1 r2 =>
 cases r2
 cases r1
 obtain ⟨its,v1,p1,_⟩:=I.list hS
 have hi:=b47 v1
 obtain ⟨ys,e⟩:=hi.allInts.items
 have hn:=nums_intItems (xs:=ys)
 rw [← e,show its.toArray.toList=its from rfl,hi.numsOf] at hn
 refine sum_intListG (xs:=ys) (I.ok.hd hc) (e ▸ p1.isList) fun h' tk t' hk=>⟨.int ns.sum,H,I.kept hk,⟨t',?_⟩,q⟩
 rw [preSum_eq,List.take_of_length_le (by simp),hn]
end
section
variable {P:Params}{σ:St} {H:Hp}{Q:VK}{td ty tx tv:TE}{nn bb cc:St→Hp→Prop}{rr:VK}
theorem c04 (h:∀ p o,H p=none→DtAt P (upd H p o) p []→Q (.ref p) (upd H p o)):tTNew P σ H Q:=h
theorem c05 (h:td σ H fun x H1=>ty σ H1 fun y H2=>∃ a kvs t v,x=.ref a∧DtAt P H2 a kvs∧TK H2 t y∧valV kvs t=some v∧Q v H2):tTGet P td ty σ H Q:=h
theorem bh4 (h:ty σ H fun y H1=>td σ H1 fun x H2=>∃ a kvs t,x=.ref a∧DtAt P H2 a kvs∧TK H2 t y∧Q (.bl (!(valV kvs t).isSome)) H2):tTNotIn P ty td σ H Q:=h
theorem c06 (h:tv σ H fun v H1=>td σ H1 fun x H2=>ty σ H2 fun y H3=>∃ a kvs t,x=.ref a∧DtAt P H3 a kvs∧TK H3 t y∧kvs.length<sizeLine∧∀ o,DtAt P (upd H3 a o) a (putK kvs t v)→nn σ (upd H3 a o)):sTPut P td ty tv ⟨nn,rr,bb,cc⟩ σ H:=h
end
def rEqNil (K:W.Frag):R2:=fun x y H Q=>∃ a b xs,x=.ref a∧y=.ref b∧SqL K H a xs∧SqL K H b []∧Q (.bl xs.isEmpty) H
def rNeNil (K:W.Frag):R2:=fun x y H Q=>∃ a b xs,x=.ref a∧y=.ref b∧SqL K H a xs∧SqL K H b []∧Q (.bl (!xs.isEmpty)) H
section
variable {X:Cx}
theorem as7 (K:W.Frag) (hu:X.A.units+64<cLine) (hK:X.K=K:=by rfl):OpR X (compareOp .Eq) (rEqNil K):=by
 subst hK
 intro pins s σ H x y v u Q I rx ry h
 obtain ⟨a,b,xs,rfl,rfl,h1,h2,q⟩:=h
 cases rx
 cases ry
 obtain ⟨is1,q1,p1,_⟩:=I.list h1
 obtain ⟨is2,q2,p2,_⟩:=I.list h2
 cases q2
 cases q1 with
 | nil =>
   have:=SeqAt.RcAt.lists (A:=X.A) (s:=s) (e:=fun _=>true) p1.isList p2.isList rfl (by omega) (fun j h1 _=>absurd h1 (by simp))
   exact this X.prog X.w X.xe (EP X pins σ Q) ⟨.bl true,H,I,rfl,q⟩
 | cons r1 r2 =>
   have:=SeqAt.RcAt.lists_lengths (A:=X.A) (s:=s) p1.isList p2.isList (by simp) (by omega)
   exact this X.prog X.w X.xe (EP X pins σ Q) ⟨.bl false,H,I,rfl,q⟩
theorem as8 (K:W.Frag) (hu:X.A.units+64<cLine) (hK:X.K=K:=by rfl):OpR X (compareOp .NotEq) (rNeNil K):=by
 subst hK
 intro pins s σ H x y v u Q I rx ry h
 obtain ⟨a,b,xs,rfl,rfl,h1,h2,q⟩:=h
 cases rx
 cases ry
 obtain ⟨is1,q1,p1,_⟩:=I.list h1
 obtain ⟨is2,q2,p2,_⟩:=I.list h2
 cases q2
 cases q1 with
 | nil =>
   have:=SeqAt.RcNeAt.lists (A:=X.A) (s:=s) (e:=fun _=>true) p1.isList p2.isList rfl (by omega) (fun j h1 _=>absurd h1 (by simp))
   exact this X.prog X.w X.xe (EP X pins σ Q) ⟨.bl false,H,I,rfl,q⟩
 | cons r1 r2 =>
   have:=SeqAt.RcNeAt.lists_lengths (A:=X.A) (s:=s) p1.isList p2.isList (by simp) (by omega)
   exact this X.prog X.w X.xe (EP X pins σ Q) ⟨.bl true,H,I,rfl,q⟩
theorem ba1 (K:W.Frag) (h:X.calm=true:=by rfl) (hK:X.K=K:=by rfl):CallR X (.builtin "sum") (rSum K):=hK ▸ c03 h
end
section
variable {K:W.Frag}{H:Hp}{Q:VK}
theorem ba2 {a b:Addr}{xs:List V}(h1:SqL K H a xs) (h2:SqL K H b []) (h:Q (.bl xs.isEmpty) H):rEqNil K (.ref a) (.ref b) H Q:=⟨a,b,xs,rfl,rfl,h1,h2,h⟩
theorem ba3 {a b:Addr}{xs:List V}(h1:SqL K H a xs) (h2:SqL K H b []) (h:Q (.bl (!xs.isEmpty)) H):rNeNil K (.ref a) (.ref b) H Q:=⟨a,b,xs,rfl,rfl,h1,h2,h⟩
theorem c07 {a:Addr}{ns:List Int}(h1:SqL K H a (ns.map V.int)) (h:Q (.int ns.sum) H):rSum K [.ref a] H Q:=⟨a,ns,rfl,h1,h⟩
theorem bh5 {x:V}{a:Addr}{t:Tr}{ts:List Tr}{vs:List V}(h1:t.At H x []) (h2:SqL K H a vs) (h3:Tr.Ats H ts vs []) (l1:t.h≤20) (l2:Tr.hs ts≤20) (h:Q (.bl (!decide (t∈ts))) H):rNotInF K x (.ref a) H Q:=⟨t,ts,a,vs,h1,rfl,h2,h3,l1,l2,h⟩
end
section
variable {X:Cx}{o e value:Expr}{f:Str}{pos pos':Pos}{ta tv:TE}
theorem ac5 (K:W.Frag) (he:PE X e ta) (hb:attributeBase e f X.env (eval e X.env)=eval e X.env) (hK:X.K=K:=by rfl):PE X (.Attribute e f pos) (tFld K ta f):=hK ▸ bw1 he hb
theorem ak6 (K:W.Frag) (ha:PE X o ta) (hv:PE X value tv) (hs:swapsWith value (some (.Attribute o f pos')) pos.line X.env=pure false) (hK:X.K=K:=by rfl):PS X (.Assign [.Attribute o f pos'] value pos) (sFld K ta tv f):=hK ▸ bw2 ha hv hs
end
section
variable {K:W.Frag}{σ:St} {H:Hp}{Q:VK}{ta tv:TE}{t:TA}{f m:Str}{C:Addr}{sp:Sp}{dvs:List V}{E:XK}{nn bb cc:St→Hp→Prop}{rr:VK}
theorem c85 (h:ta σ H fun x H1=>∃ a C dx fs v,x=.ref a∧H1 a=some (.ins C dx fs)∧Cls K C∧NoAttr K C f∧fs.lookup f=some v∧Q v H1):tFld K ta f σ H Q:=h
theorem c08 (h:tv σ H fun y H1=>ta σ H1 fun x H2=>∃ a C dx fs,x=.ref a∧H2 a=some (.ins C dx fs)∧Cls K C∧NoAttr K C f∧fs.length<1000∧nn σ (upd H2 a (.ins C dx (putF f y fs)))):sFld K ta tv f ⟨nn,rr,bb,cc⟩ σ H:=h
theorem c09 (h:ta σ H fun x H1=>∃ a dx fs,x=.ref a∧H1 a=some (.ins C dx fs)∧fs.lookup m=none∧t σ H1 fun vs H2=>sp (x::(vs++dvs)) H2 Q E):tMeth C m sp dvs E ta t σ H Q:=h
theorem c30 (h:t σ H fun vs H1=>∀ x dx,H1 x=none→H1 dx=none→dx≠x→sp (.ref x::(vs++dvs)) (upd (upd H1 dx (.own x)) x (.ins C dx [])) (fun v H2=>v=.non∧Q (.ref x) H2) E):tMake C sp dvs E t σ H Q:=h
end
theorem ag0 {H:Hp}{a C dx:Addr}{fs:List (Str×V)}{o:HO}(h:H a=some (.ins C dx fs)):Tups H (upd H a o):=fun b ys e=>by rw [a09 (ae0 e h (fun z=>nomatch z))]; exact e
inductive Tw where
 | sc (v:V)
 | tup (xs:List Tw)
 | lst (xs:List Tw)
def Scal:V→Prop
 | .non | .int _ | .str _ | .bl _=>True
 | _=>False
mutual
def Tw.At (H:Hp):Tw→V→List Addr→Prop
 | .sc x,v,fs=>v=x∧Scal x∧fs=[]
 | .tup xs,v,fs=>∃ a vs,v=.ref a∧H a=some (.tup vs)∧Tw.Ats H xs vs fs
 | .lst xs,v,fs=>∃ a vs gs,v=.ref a∧H a=some (.lst vs)∧Tw.Ats H xs vs gs∧fs=a::gs
def Tw.Ats (H:Hp):List Tw→List V→List Addr→Prop
 | [],vs,fs=>vs=[]∧fs=[]
 | x::xs,vs,fs=>∃ v ws f g,vs=v::ws∧fs=f++g∧Tw.At H x v f∧Tw.Ats H xs ws g
end
mutual
theorem Tw.At.mono {H H':Hp}:∀ {x:Tw}{v:V}{fs:List Addr},x.At H v fs→Keep fs H H'→x.At H' v fs
 | .sc _,_,_,h,_=>by simpa only [Tw.At] using h
 | .tup xs,v,fs,h,k=>by
   simp only [Tw.At] at h ⊢
   obtain ⟨a,vs,e,g,r⟩:=h
   exact ⟨a,vs,e,k.1 _ _ g,Tw.Ats.mono r k⟩
 | .lst xs,v,fs,h,k=>by
   simp only [Tw.At] at h ⊢
   obtain ⟨a,vs,gs,e,g,r,rfl⟩:=h
   exact ⟨a,vs,gs,e,k.2 _ (by simp) _ g,Tw.Ats.mono r (k.sub fun b m=>by simp [m]),rfl⟩
theorem Tw.Ats.mono {H H':Hp}:∀ {xs:List Tw}{vs:List V}{fs:List Addr},Tw.Ats H xs vs fs→Keep fs H H'→Tw.Ats H' xs vs fs
 | [],_,_,h,_=>by simpa only [Tw.Ats] using h
 | x::xs,vs,fs,h,k=>by
   simp only [Tw.Ats] at h ⊢
   obtain ⟨v,ws,f,g,e,rfl,a,b⟩:=h
   exact ⟨v,ws,f,g,e,rfl,Tw.At.mono a (k.sub fun c m=>by simp [m]),Tw.Ats.mono b (k.sub fun c m=>by simp [m])⟩
end
theorem Tw.Ats.same {H H':Hp}{xs:List Tw}{vs:List V}{fs:List Addr}(h:Tw.Ats H xs vs fs) (s:Same H H'):Tw.Ats H' xs vs fs:=h.mono (s.keep _)
theorem Tw.Ats.len {H:Hp}:∀ {xs:List Tw}{vs:List V}{fs:List Addr},Tw.Ats H xs vs fs→vs.length=xs.length
 | [],vs,fs,h=>by simp only [Tw.Ats] at h; rw [h.1]; rfl
 | x::xs,vs,fs,h=>by
   simp only [Tw.Ats] at h
   obtain ⟨v,ws,f,g,rfl,rfl,_,b⟩:=h
   simp [b.len]
theorem Tw.Ats.snoc {H:Hp}:∀ {xs:List Tw}{vs:List V}{fs gs:List Addr}{x:Tw}{v:V},Tw.Ats H xs vs fs→x.At H v gs→Tw.Ats H (xs++[x]) (vs++[v]) (fs++gs)
 | [],vs,fs,gs,x,v,h,a=>by
   simp only [Tw.Ats] at h
   obtain ⟨rfl,rfl⟩:=h
   simp only [List.nil_append,Tw.Ats]
   exact ⟨v,[],gs,[],rfl,by simp,a,rfl,rfl⟩
 | y::ys,vs,fs,gs,x,v,h,a=>by
   simp only [Tw.Ats,List.cons_append] at h ⊢
   obtain ⟨w,ws,f,g,rfl,rfl,b,c⟩:=h
   exact ⟨w,ws++[v],f,g++gs,rfl,by simp,b,c.snoc a⟩
theorem Tw.Ats.get {H:Hp}:∀ {xs:List Tw}{vs:List V}{fs:List Addr},Tw.Ats H xs vs fs→∀ (i:Nat) (v:V),vs[i]?=some v→∃ x f,xs[i]?=some x∧x.At H v f∧∀ a∈f,a∈fs
 | [],vs,fs,h,i,v,e=>by simp only [Tw.Ats] at h; rw [h.1] at e; simp at e
 | x::xs,vs,fs,h,i,v,e=>by
   simp only [Tw.Ats] at h
   obtain ⟨w,ws,f,g,rfl,rfl,a,b⟩:=h
   cases i with
   | zero =>
     obtain rfl:w=v:=by simpa using e
     exact ⟨x,f,rfl,a,fun c m=>by simp [m]⟩
   | succ i =>
     obtain ⟨y,f',h1,h2,h3⟩:=b.get i v (by simpa using e)
     exact ⟨y,f',by simpa using h1,h2,fun c m=>by simp [h3 c m]⟩
mutual
def Tw.h:Tw→Nat
 | .sc _=>0
 | .tup xs=>Tw.hs xs+1
 | .lst xs=>Tw.hs xs+1
def Tw.hs:List Tw→Nat
 | []=>0
 | x::xs=>max x.h (Tw.hs xs)
end
theorem bq3 {A:Around}{s:Shared}{x:V}{u z:Value}(h:Scal x) (r1:RelV x u) (r2:RelV x z):SeqAt.EqAt A s u z true:=by
 cases x with
 | non=>cases r1; cases r2; exact SeqAt.EqAt.same _
 | int i =>
   obtain ⟨t1,rfl⟩:=r1
   obtain ⟨t2,rfl⟩:=r2
   have:=SeqAt.EqAt.int_int (A:=A) (s:=s) i t1 i t2
   simpa using this
 | str i =>
   obtain ⟨t1,rfl⟩:=r1
   obtain ⟨t2,rfl⟩:=r2
   have:=SeqAt.EqAt.str_str (A:=A) (s:=s) i t1 i t2
   simpa using this
 | bl b =>
   cases (show u=Value.bool b from r1)
   cases (show z=Value.bool b from r2)
   exact SeqAt.EqAt.same _
 | _=>exact h.elim
section
variable {X:Cx}{pins:List (Addr×Obj)}{σ:St} {H:Hp}{s:Shared}
mutual
theorem Tw.eqAt (I:Inv X pins σ H s):∀ {t:Tw}{A:Around}{v w:V}{fs gs:List Addr}{u z:Value},t.At H v fs→t.At H w gs→RelV v u→RelV w z→A.units+t.h<cLine→SeqAt.EqAt A s u z true
 | .sc x,A,v,w,fs,gs,u,z,h1,h2,r1,r2,hu=>by
   simp only [Tw.At] at h1 h2
   obtain ⟨rfl,sc,-⟩:=h1
   obtain ⟨rfl,-,-⟩:=h2
   exact bq3 sc r1 r2
 | .tup xs,A,v,w,fs,gs,u,z,h1,h2,r1,r2,hu=>by
   simp only [Tw.At] at h1 h2
   obtain ⟨a,vs,rfl,e1,c1⟩:=h1
   obtain ⟨b,ws,rfl,e2,c2⟩:=h2
   cases r1
   cases r2
   by_cases hab:a=b
   · subst hab
     exact SeqAt.EqAt.same _
   refine SeqAt.EqAt.of_refs hab ?_
   obtain ⟨is1,q1,p1,_⟩:=I.tuple (SqT.of e1)
   obtain ⟨is2,q2,p2,_⟩:=I.tuple (SqT.of e2)
   simp only [Tw.h] at hu
   have hl:is1.length=is2.length:=by rw [← q1.length,←q2.length,c1.len,c2.len]
   have:=SeqAt.RcAt.tuples (A:=A) (s:=s) (e:=fun _=>true) p1 p2 (by omega) (fun j h1 h2=>by
    have:=Tw.eqAts I (A:=A.in1) c1 c2 q1 q2 (by rw [a60]; omega) j (by simpa using h1) (by simpa using h2)
    simpa using this)
   simpa [hl,ay9] using this
 | .lst xs,A,v,w,fs,gs,u,z,h1,h2,r1,r2,hu=>by
   simp only [Tw.At] at h1 h2
   obtain ⟨a,vs,_,rfl,e1,c1,_⟩:=h1
   obtain ⟨b,ws,_,rfl,e2,c2,_⟩:=h2
   cases r1
   cases r2
   by_cases hab:a=b
   · subst hab
     exact SeqAt.EqAt.same _
   refine SeqAt.EqAt.of_refs hab ?_
   obtain ⟨is1,q1,p1,_⟩:=I.list (SqL.of e1)
   obtain ⟨is2,q2,p2,_⟩:=I.list (SqL.of e2)
   simp only [Tw.h] at hu
   have hl:is1.length=is2.length:=by rw [← q1.length,←q2.length,c1.len,c2.len]
   have:=SeqAt.RcAt.lists (A:=A) (s:=s) (e:=fun _=>true) p1.isList p2.isList (by simpa using hl) (by omega) (fun j h1 h2=>by
    have:=Tw.eqAts I (A:=A.in1) c1 c2 q1 q2 (by rw [a60]; omega) j (by simpa using h1) (by simpa using h2)
    simpa using this)
   simpa [ay9] using this
theorem Tw.eqAts (I:Inv X pins σ H s):∀ {ts:List Tw}{A:Around}{vs ws:List V}{fs gs:List Addr}{us zs:List Value},Tw.Ats H ts vs fs→Tw.Ats H ts ws gs→Vals vs us→Vals ws zs→A.units+Tw.hs ts<cLine →
 ∀ (j:Nat) (h1:j<us.length) (h2:j<zs.length),SeqAt.EqAt A s us[j] zs[j] true
 | [],A,vs,ws,fs,gs,us,zs,c1,c2,q1,q2,hu,j,h1,h2=>by
   simp only [Tw.Ats] at c1
   obtain ⟨rfl,-⟩:=c1
   cases q1
   exact absurd h1 (by simp)
 | t::ts,A,vs,ws,fs,gs,us,zs,c1,c2,q1,q2,hu,j,h1,h2=>by
   simp only [Tw.Ats] at c1 c2
   obtain ⟨v,vs,f,g,rfl,rfl,a1,b1⟩:=c1
   obtain ⟨w,ws,f',g',rfl,rfl,a2,b2⟩:=c2
   cases q1 with
   | cons r1 q1 =>
   cases q2 with
   | cons r2 q2 =>
   simp only [Tw.hs] at hu
   cases j with
   | zero=>exact Tw.eqAt I a1 a2 r1 r2 (by omega)
   | succ j=>exact Tw.eqAts I b1 b2 q1 q2 (by omega) j (by simpa using h1) (by simpa using h2)
end
def rEqW:R2:=fun x y H Q=>∃ t fs gs,(Tw.tup t).At H x fs∧(Tw.tup t).At H y gs∧Tw.hs t≤50∧Q (.bl true) H
def rNeW:R2:=fun x y H Q=>∃ t fs gs,(Tw.tup t).At H x fs∧(Tw.tup t).At H y gs∧Tw.hs t≤50∧Q (.bl false) H
theorem c31 (I:Inv X pins σ H s) {A:Around}{t:List Tw}{x y:V}{v u:Value}{fs gs:List Addr}(rx:RelV x v) (ry:RelV y u) (h1:(Tw.tup t).At H x fs) (h2:(Tw.tup t).At H y gs) (hu:A.units+Tw.hs t+4<cLine):SeqAt.RcAt A s v u true∧SeqAt.RcNeAt A s v u false:=by
 simp only [Tw.At] at h1 h2
 obtain ⟨a,vs,rfl,e1,c1⟩:=h1
 obtain ⟨b,ws,rfl,e2,c2⟩:=h2
 cases rx
 cases ry
 obtain ⟨is1,q1,p1,_⟩:=I.tuple (SqT.of e1)
 obtain ⟨is2,q2,p2,_⟩:=I.tuple (SqT.of e2)
 have hl:is1.length=is2.length:=by rw [← q1.length,←q2.length,c1.len,c2.len]
 have hh:∀ (j:Nat) (h1:j<is1.toArray.size) (h2:j<is2.toArray.size),SeqAt.EqAt A.in1 s is1.toArray[j] is2.toArray[j] ((fun _=>true) j):=fun j h1 h2=>by
  have:=Tw.eqAts I (A:=A.in1) c1 c2 q1 q2 (by rw [a60]; omega) j (by simpa using h1) (by simpa using h2)
  simpa using this
 have k1:=SeqAt.RcAt.tuples (A:=A) (s:=s) (e:=fun _=>true) p1 p2 (by omega) hh
 have k2:=SeqAt.RcNeAt.tuples (A:=A) (s:=s) (e:=fun _=>true) p1 p2 (by omega) hh
 rw [show ((List.range (min is1.toArray.size is2.toArray.size)).all (fun _=>true) && is1.toArray.size == is2.toArray.size)=true by simp [hl]] at k1 k2
 exact ⟨k1,k2⟩
theorem bq4 (hu:X.A.units+64<cLine):OpR X (compareOp .Eq) rEqW:=by
 intro pins s σ H x y v u Q I rx ry h
 obtain ⟨t,fs,gs,h1,h2,hh,q⟩:=h
 exact (c31 I rx ry h1 h2 (A:=X.A) (by omega)).1 X.prog X.w X.xe (EP X pins σ Q) ⟨.bl true,H,I,rfl,q⟩
theorem bq5 (hu:X.A.units+64<cLine):OpR X (compareOp .NotEq) rNeW:=by
 intro pins s σ H x y v u Q I rx ry h
 obtain ⟨t,fs,gs,h1,h2,hh,q⟩:=h
 exact (c31 I rx ry h1 h2 (A:=X.A) (by omega)).2 X.prog X.w X.xe (EP X pins σ Q) ⟨.bl false,H,I,rfl,q⟩
end
def rInF (K:W.Frag):R2:=fun x y H Q=>∃ (t:Tr) (ts:List Tr) (a:Addr) (vs:List V),t.At H x []∧y=.ref a∧SqL K H a vs∧Tr.Ats H ts vs []∧t.h≤20∧Tr.hs ts≤20∧Q (.bl (decide (t∈ts))) H
def rIndexF (K:W.Frag):V→List V→Hp→VK→Prop:=fun x us H Q=>∃ (t:Tr) (ts:List Tr) (a:Addr) (vs:List V) (y:V) (j:Nat),x=.ref a∧us=[y]∧t.At H y []∧SqL K H a vs∧Tr.Ats H ts vs []∧t.h≤20∧Tr.hs ts≤20∧ts[j]?=some t∧(∀ m,m<j→ts[m]?≠some t)∧j<1000000∧Q (.int (j:Nat)) H
def ba4:List V→Hp→VK→Prop:=fun xs H Q=>∃ n:Nat,xs=[.int (n:Nat)]∧n≤1000000∧New H (.rng 0 (n:Nat)) Q
def rListR:List V→Hp→VK→Prop:=fun xs H Q=>∃ (a:Addr) (n:Nat),xs=[.ref a]∧H a=some (.rng 0 (n:Nat))∧n≤1000000∧New H (.lst (natsV (List.range n))) Q
section
variable {X:Cx}
theorem bq6 (K:W.Frag) (hu:X.A.units+64<cLine) (hK:X.K=K:=by rfl):OpR X (compareOp .In) (rInF K):=by
 classical
 subst hK
 intro pins s σ H x y v u Q I rx ry h
 obtain ⟨t,ts,a,vs,h1,rfl,h2,h3,l1,l2,q⟩:=h
 cases ry
 obtain ⟨its,v1,p1,_⟩:=I.list h2
 have hin:=h1.isIn I rx
 have his:=h3.isIns I v1
 refine SeqAt.in_listAt (fun z=>decide (∃ r,Tr.In s.heap r z∧r=t)) p1.isList (fun z hz=>?_) ?_
 · obtain ⟨r,hr,hz'⟩:=ak5 his (by simpa using hz)
   have:=hz'.eqAt hin (A:=X.A.in1) (by have:=ba0 hr; rw [a60]; omega)
   rw [show decide (∃ q,Tr.In s.heap q z∧q=t)=decide (r=t) from Bool.eq_iff_iff.mpr (by
    simp only [decide_eq_true_iff]
    exact ⟨fun ⟨q,a,b⟩=>(hz'.inj a).trans b,fun e=>⟨r,hz',e⟩⟩)]
   exact this
 · refine ⟨.bl (decide (t∈ts)),H,I,?_,q⟩
   rw [show its.toArray.any (fun z=>decide (∃ r,Tr.In s.heap r z∧r=t))=decide (t∈ts) from ?_]
   · rfl
   rw [← Array.any_toList,Bool.eq_iff_iff,List.any_eq_true,decide_eq_true_iff]
   constructor
   · rintro ⟨z,hz,e⟩
     obtain ⟨r,hr,rfl⟩:=of_decide_eq_true e
     obtain ⟨r',hm,hr'⟩:=ak5 his (by simpa using hz)
     exact hr'.inj hr ▸ hm
   · intro hm
     obtain ⟨j,hj,rfl⟩:=List.mem_iff_getElem.mp hm
     have hj':j<its.length:=by rw [his.len]; exact hj
     exact ⟨its[j],by simp,decide_eq_true ⟨_,his.get j hj' hj,rfl⟩⟩
theorem am9 (K:W.Frag) (hu:X.A.units+64<cLine) (hK:X.K=K:=by rfl):MtR X "list.index" (rIndexF K):=by
 classical
 subst hK
 intro pins s σ H x xs v us Q I rx rv h
 obtain ⟨t,ts,a,vs,y,j,rfl,rfl,h1,h2,h3,l1,l2,hj,hno,hjb,q⟩:=h
 cases rx
 obtain ⟨u,rfl,ru⟩:=rv.one
 obtain ⟨its,v1,p1,_⟩:=I.list h2
 have hin:=h1.isIn I ru
 have his:=h3.isIns I v1
 obtain ⟨⟨cls,dd,dt,sl⟩,ho,hc,n,hd⟩:=p1.isList
 simp only at hc hd
 subst hc hd
 have hj1:j<ts.length:=(gS hj).1
 have hj2:j<its.toArray.size:=by rw [List.size_toArray,his.len]; exact hj1
 have hv:∀ (m:Nat) (h1:m<its.length) (h2:m<ts.length),decide (∃ r,Tr.In s.heap r its[m]∧r=t)=decide (ts[m]=t):=fun m h1 h2=>Bool.eq_iff_iff.mpr (by
  simp only [decide_eq_true_iff]
  exact ⟨fun ⟨q,a,b⟩=>((his.get m h1 h2).inj a).trans b,fun e=>⟨_,his.get m h1 h2,e⟩⟩)
 refine call_meets F.slot_list_index ⟨_,ho,rfl⟩ F.entry_list_index (F.args_list_index_2 _ _) (SeqAt.list_indexAt a its.toArray n dd sl _ (fun z=>decide (∃ r,Tr.In s.heap r z∧r=t)) j hj2 (by omega) ?_ ?_) ⟨ho,fun z hz=>?_,⟨.int (j:Nat),H,I.tok _,⟨_,rfl⟩,q⟩⟩
 · have:=hv j (by simpa using hj2) hj1
   simp only [List.getElem_toArray]
   rw [this]
   obtain ⟨_,e⟩:=gS hj
   exact decide_eq_true e
 · intro m hm hmj
   have:=hv m (by simpa using hm) (by omega)
   simp only [List.getElem_toArray]
   rw [this]
   exact decide_eq_false fun e=>hno m hmj (by rw [gE (by omega),e])
 · obtain ⟨r,hr,hz'⟩:=ak5 his (by simpa using hz)
   have:=hz'.eqAt hin (A:=X.A.in1) (by have:=ba0 hr; rw [a60]; omega)
   rw [show decide (∃ q,Tr.In s.heap q z∧q=t)=decide (r=t) from Bool.eq_iff_iff.mpr (by
    simp only [decide_eq_true_iff]
    exact ⟨fun ⟨q,a,b⟩=>(hz'.inj a).trans b,fun e=>⟨r,hz',e⟩⟩)]
   exact this
theorem as9:CallR X (.type "range") ba4:=by
 intro pins s σ H xs us Q I r h
 obtain ⟨n,rfl,hn,q⟩:=h
 cases r with
 | cons r1 r2 =>
 cases r2
 obtain ⟨t,rfl⟩:=r1
 refine call_range_1 ⟨.ref s.heap.objs.size,upd H s.heap.objs.size (.rng 0 (n:Nat)),I.laid (fun b o e=>gP _ e) (Nat.le_refl _) ⟨_,_,_,Heap.get?_push_size _ rfl⟩,rfl,New.to q _ I.fresh⟩
theorem az2 (hc:X.calm=true):CallR X (.type "list") rListR:=by
 intro pins s σ H xs us Q I r h
 obtain ⟨a,n,rfl,e,hn,q⟩:=h
 cases r with
 | cons r1 r2 =>
 cases r2
 cases r1
 obtain ⟨t,u,v,hg⟩:=I.hok a _ e
 refine call_list_range (n:=n) (I.ok.hd hc) hg (small_one (by omega) (by omega) (by omega) (by omega)) (by rw [rangeSize_one]; split <;> omega) (by omega) fun h' tk acc c hk hS hacc=>⟨.ref s.heap.objs.size,_,I.laid (a:=s.heap.objs.size) (t':=tk) hk (Nat.le_refl _) ?_,rfl,New.to q _ I.fresh⟩
 refine ⟨le_line (by simp [natsV]; omega),acc.toList,c,?_,by simpa using hS⟩
 refine b99 (by simp [natsV,hacc.1]) fun j x1 x2 hx1 hx2=>?_
 have hj:j<n:=by
  have:=(gS hx1).1
  simpa [natsV] using this
 obtain ⟨t2,rfl⟩:=hacc.2 j x2 (by rw [← Array.getElem?_toList]; exact hx2)
 have:x1=.int (j:Nat):=by simpa [natsV,hj] using hx1.symm
 subst this
 exact ⟨t2,by simp⟩
end
theorem az3 {K:W.Frag}{a:Addr}{xs:List V}{g:TG}{tb:TS}{D:Ends}{σ:St} {H:Hp}(Pv:Nat→St→Hp→Prop) (h0:Pv 0 σ H) (hl:∀ i σ H,i≤xs.length→Pv i σ H→SqL K H a xs)
 (hs:∀ i x σ H q H2,xs[i]?=some x→Pv i σ H→Same H H2→H2 q=some (.tup [.int (i:Nat),x])→g (.ref q) σ H2 fun σ1 H1=>tb { D with nx:=Pv (i+1),ct:=Pv (i+1),bk:=D.nx } σ1 H1)
 (hd:∀ σ H,Pv xs.length σ H→D.nx σ H):ForEnd (Ite K a) g tb D σ H:=by
 refine ⟨fun i m σ H=>m=xs.length - i∧i≤xs.length∧Pv i σ H,⟨xs.length,by simp,Nat.zero_le _,h0⟩,?_⟩
 rintro i m σ' H' ⟨rfl,hi,p⟩
 have hq:=hl i σ' H' hi p
 by_cases hlt:i<xs.length
 · refine .inr ⟨⟨xs,xs[i],hq,by simp [hlt]⟩,Pv (i+1),fun σ2 H2 p'=>⟨xs.length - (i+1),by omega,rfl,hlt,p'⟩,fun v H2 y=>?_⟩
   obtain ⟨q,x,rfl,hn,sm,hT,hx⟩:=y
   exact hs i x σ' H' q H2 (hx xs hq) p sm hT
 · have e:i=xs.length:=by omega
   subst e
   exact .inl ⟨⟨xs,hq,Nat.le_refl _⟩,hd σ' H' p⟩
section
variable {K:W.Frag}{H:Hp}{Q:VK}
theorem c86 {x:V}{a:Addr}{t:Tr}{ts:List Tr}{vs:List V}(h1:t.At H x []) (h2:SqL K H a vs) (h3:Tr.Ats H ts vs []) (l1:t.h≤20) (l2:Tr.hs ts≤20) (h:Q (.bl (decide (t∈ts))) H):rInF K x (.ref a) H Q:=⟨t,ts,a,vs,h1,rfl,h2,h3,l1,l2,h⟩
theorem az4 {n:Nat}(hn:n≤1000000) (h:New H (.rng 0 (n:Nat)) Q):ba4 [.int (n:Nat)] H Q:=⟨n,rfl,hn,h⟩
theorem ba5 {a:Addr}{n:Nat}(e:H a=some (.rng 0 (n:Nat))) (hn:n≤1000000) (h:New H (.lst (natsV (List.range n))) Q):rListR [.ref a] H Q:=⟨a,n,rfl,e,hn,h⟩
end
section
variable {X:Cx}{tg:Expr}
end
section
variable {σ:St} {H:Hp}{R:It→Hp→Prop}{ts:TA}
end
section
variable {X:Cx}
def rIntS:List V→Hp→VK→Prop:=fun xs H Q=>∃ (x:Str) (n:Int),xs=[.str x]∧intText? x=some n∧x.length≤640∧Q (.int n) H
theorem ak7:CallR X (.type "int") rIntS:=by
 intro pins s σ H xs us Q I r h
 obtain ⟨x,n,rfl,h1,h2,q⟩:=h
 cases r with
 | cons r1 r2 =>
 cases r2
 obtain ⟨t,rfl⟩:=r1
 have:=W.KTb.int_tab (prog:=X.prog) (w:=X.w) (A:=X.A) (E:=X.xe) (s:=s) (L:=[x]) (zs:=[n]) (n:=1) (k:=0) (t:=t) (Q:=fun v s'=>∃ x7 H',Inv X pins σ H' s'∧RelV x7 v∧Q x7 H') (by decide) (fun j hj=>by
  obtain rfl:j=0:=by omega
  exact ⟨h1,h2⟩) fun t' k'=>⟨.int n,H,I.tok _,⟨t',rfl⟩,q⟩
 exact this
end
section
variable {K:W.Frag}{H:Hp}{Q:VK}
end
theorem b54 (n:Nat):sliceBounds none none (some (-1)) n=((n:Int) - 1,-1,-1):=by
 unfold sliceBounds
 simp
theorem ba6 (n:Nat):sliceRange ((n:Int) - 1) (-1) (-1)=(List.range n).reverse:=by
 unfold sliceRange
 have hc:(if ((-1:Int) > 0) then (if ((n:Int) - 1 < -1) then ((-1:Int) - (n - 1)+-1 - 1) / -1 else 0) else (if ((n:Int) - 1 > -1) then ((n:Int) - 1 - -1 - -1 - 1) / - -1 else 0)).toNat=n:=by
  rw [if_neg (by decide)]
  split
  · rw [show (- -1:Int)=1 from rfl,Int.ediv_one]
    omega
  · omega
 simp only [hc]
 refine List.ext_getElem? fun k=>?_
 by_cases hk:k<n
 · rw [gM,List.getElem?_range hk,List.getElem?_reverse (by simpa using hk),List.length_range,List.getElem?_range (by omega)]
   simp
   omega
 · rw [List.getElem?_eq_none (by simp; omega),List.getElem?_eq_none (by simp; omega)]
theorem bh6 (items:List Value):slicePick items.toArray none none (some (-1))=items.reverse.toArray:=by
 unfold slicePick
 rw [b54]
 simp only [List.size_toArray]
 rw [ba6]
 congr 1
 rw [List.filterMap_reverse]
 congr 1
 refine List.ext_getElem? fun k=>?_
 have:(List.range items.length).filterMap (fun x=>items.toArray[x]?)=items:=by
  have h:∀ n,n≤items.length→(List.range n).filterMap (fun x=>items.toArray[x]?)=items.take n:=fun n=>by
   induction n with
   | zero=>intro _; simp
   | succ n ih =>
     intro hn
     rw [List.range_succ,List.filterMap_append,ih (by omega),List.take_add_one]
     simp [show n<items.length by omega]
  rw [h _ (Nat.le_refl _),List.take_length]
 rw [this]
def tRev (K:W.Frag) (te ts:TE):TE:=fun σ H Q=>te σ H fun x H1=>ts σ H1 fun y H2=>y=.int (-1)∧∃ a xs,x=.ref a∧SqL K H2 a xs∧New H2 (.lst xs.reverse) Q
section
variable {X:Cx}{e st:Expr}{te ts:TE}{p2 pos:Pos}
theorem c32 (K:W.Frag) (he:PE X e te) (hs:PE X st ts) (ht:∀ (o r:Value),letTemporaryGo e o r=pure ():=by intro _ _; rfl) (hK:X.K=K:=by rfl):PE X (.Subscript e (.Slice none none (some st) p2) pos) (tRev K te ts):=by
 subst hK
 intro pins s σ H Q I h
 refine wpAny_Subscript_Slice_step PySem.F.slot_list_getitem.lookup (thn (he pins s σ H _ I h) fun v s1 ⟨x,H1,I1,r1,q1⟩=>?_) ht
 refine wpAny_Slice ?_
 rw [evalPart_none]
 refine wpAny_pure ?_
 refine wpAny_pure ?_
 rw [evalPart_some]
 refine thn (hs pins s1 σ H1 _ I1 q1) fun w2 s2 ⟨y,H2,I2,r2,q2⟩=>?_
 obtain ⟨rfl,a,xs,rfl,hS,q⟩:=q2
 cases r1
 obtain ⟨t,rfl⟩:=r2
 have I3:Inv X pins σ H2 { s2 with heap:=s2.heap.push { cls:=.type "slice",data:=.fields #[.none,.none,.int (-1) t] } }:=I2.kept (t':=s2.toks) fun b ob q=>gP _ q
 obtain ⟨its,v1,p1,hz⟩:=I3.list hS
 refine ⟨p1.isList.typeIs,wpAny_getItem_list_slice (lo:=none) (hi:=none) (st:=some (-1)) p1.isList (Heap.IsSliceOf.new ..) .none .none (.int _ _) (by decide) ?_ (by rw [List.size_toArray,←v1.length]; exact hz)⟩
 refine ⟨.ref _,_,I3.laid (t':=s2.toks) (o:=.lst xs.reverse) (fun b ob q=>gP _ q) (Nat.le_refl _) ?_,rfl,New.to q _ (I3.hok.fresh (Nat.le_refl _))⟩
 rw [bh6]
 exact ⟨by rw [List.length_reverse]; exact hz,its.reverse,0,v1.reverse,Heap.get?_push_size _ rfl⟩
theorem c87 {K:W.Frag}{σ:St} {H:Hp}{Q:VK}(h:te σ H fun x H1=>ts σ H1 fun y H2=>y=.int (-1)∧∃ a xs,x=.ref a∧SqL K H2 a xs∧New H2 (.lst xs.reverse) Q):tRev K te ts σ H Q:=h
end
@[reducible] def IsTri (h:Heap) (T:Addr) (a b c:Value):Prop:=h.get? T=some { cls:=.type "tuple",data:=.seq #[a,b,c] }
theorem aa0 {prog:Program}{w:World}{A:Around}{E:Value→Shared→Prop}{s:Shared}{T:Addr}{a b c x:Value}{k:Nat}{Q:Unit→Shared→Prop}(h:IsTri s.heap T a b c)
 (q:∀ h':Heap,h'.get? T=some { cls:=.type "tuple",data:=.seq (#[a,b,c].setIfInBounds k x) }→Heap.SameBut T s.heap h'→Q () { s with heap:=h' }):wpAny (model prog w) A (updateSeq T fun v=>v.setIfInBounds k x) Q E s:=by
 refine wpAny_updateSeq h rfl (q _ ?_ (Heap.SameBut.update _ _ _)) (by simp [sizeLine_eq]) (by simp [sizeLine_eq])
 rw [Heap.get?_update_self _ h rfl]
 simp [Obj.mapSeq]
structure ItS (prog:Program) (w:World) (it l:Addr) (xs:Array Value) (st:Nat→Heap→Prop):Prop where
 keep:∀ {k:Nat}{h h':Heap},st k h→(∀ c o,c=it∨c=l→h.get? c=some o→h'.get? c=some o)→st k h'
 item:∀ {A:Around}{E:Value→Shared→Prop}{s:Shared}{k:Nat}{x:Value}{Q:Value→Shared→Prop},st k s.heap→xs[k]?=some x→(∀ h':Heap,st (k+1) h'→Heap.SameBut it s.heap h'→Q x { s with heap:=h' })→wpAny (model prog w) A (Builtin.SmallTypes.nextOf (.ref it)) Q E s
 done:∀ {A:Around}{E:Value→Shared→Prop}{s:Shared}{k:Nat}{Q:Value→Shared→Prop},A.handled=none→st k s.heap→xs[k]?=none→(∀ (h':Heap) (e:Addr),Heap.ExtBut it s.heap h'→(∃ o,h'.get? e=some o∧o.cls=.type "StopIteration")→E (.ref e) { s with heap:=h' })→wpAny (model prog w) A (Builtin.SmallTypes.nextOf (.ref it)) Q E s
theorem a97 {prog:Program}{w:World}{it l:Addr}{xs:Array Value}(hn:l≠it):ItS prog w it l xs (fun k h=>h.IsListIter it l k∧h.IsList l xs) where
 keep:=fun ⟨h1,h2⟩ k=>⟨h1.at fun o e=>k it o (.inl rfl) e,by obtain ⟨o,e,r⟩:=h2; exact ⟨o,k l o (.inr rfl) e,r⟩⟩
 item:=fun ⟨h1,h2⟩ e q=>wpAny_nextOf_list_item h1 h2 e fun h' a b=>q h' ⟨a,h2.extBut b.extBut hn⟩ b
 done:=fun hA ⟨h1,h2⟩ e q=>wpAny_nextOf_list_end hA h1 h2 e q
structure Apt (z TI TO i1 i2 i3 l1 l2 l3:Addr):Prop where
 nd:[z,TI,TO,i1,i2,i3].Nodup
 ls:∀ l∈[l1,l2,l3],l∉[z,TO,i1,i2,i3]
theorem a02 {a b:Addr}{h h':Heap}{o:Obj}(s:Heap.SameBut a h h') (hn:b≠a) (e:h.get? b=some o):h'.get? b=some o:=(s.2 b hn).trans e
section
variable {prog:Program}{w:World}{z TI TO i1 i2 i3 l1 l2 l3:Addr}{xs ys us:Array Value}{st1 st2 st3:Nat→Heap→Prop}
theorem ba7 {A:Around}{E:Value→Shared→Prop}{s:Shared}{k:Nat}{x y u a b c:Value}{Q:Value→Shared→Prop}
 (D:Apt z TI TO i1 i2 i3 l1 l2 l3) (J1:ItS prog w i1 l1 xs st1) (J2:ItS prog w i2 l2 ys st2) (J3:ItS prog w i3 l3 us st3) (hz:IsZip s.heap z TI TO .none) (hTI:IsTri s.heap TI (.ref i1) (.ref i2) (.ref i3)) (hTO:IsTri s.heap TO a b c)
 (h1:st1 k s.heap) (h2:st2 k s.heap) (h3:st3 k s.heap) (e1:xs[k]?=some x) (e2:ys[k]?=some y) (e3:us[k]?=some u)
 (q:∀ h':Heap,IsZip h' z TI TO (rawInt s.heap.objs.size)→IsTri h' TO x y u→st1 (k+1) h'→st2 (k+1) h'→st3 (k+1) h'→IsTri h' s.heap.objs.size x y u→h'.objs.size=s.heap.objs.size+1→(∀ (c:Addr) (o:Obj),c∉[z,TO,i1,i2,i3]→s.heap.get? c=some o→h'.get? c=some o)→Q (.ref s.heap.objs.size) { s with heap:=h' }) :
 wpAny (model prog w) A (Builtin.«zip.__next__» { pos:=[.ref z] }) (fun fin s'=>∃ v,fin=Fin.done (Flow.ret v)∧Q v s') E s:=by
 obtain ⟨D,D2⟩:=D
 unfold Builtin.«zip.__next__»
 refine wB (wpAny_pure ?_)
 refine wB (wpAny_field (x:=.bool false) hz rfl rfl ?_)
 refine wB (wpAny_field (x:=.ref TI) hz rfl rfl ?_)
 refine wB (wpAny_seqItems hTI rfl ?_)
 dsimp only
 rw [if_neg (show ¬ (#[Value.ref i1,Value.ref i2,Value.ref i3].isEmpty=true) by simp)]
 refine wB (wB (wpAny_field (x:=.none) hz rfl rfl (wpAny_pure ?_)))
 rw [if_pos rfl]
 refine wB (wpAny_rule ?_)
 refine wB (wpAny_field (x:=.ref TO) hz rfl rfl ?_)
 dsimp only
 refine wB (wpAny_setField_rec hz (by simp) fun g1 z1 b1=>?_)
 refine wB ?_
 have D':z≠TI∧z≠TO∧z≠i1∧z≠i2∧z≠i3∧TI≠TO∧TI≠i1∧TI≠i2∧TI≠i3∧TO≠i1∧TO≠i2∧TO≠i3∧i1≠i2∧i1≠i3∧i2≠i3:=by
  simp only [List.nodup_cons,List.mem_cons,List.not_mem_nil,or_false,not_or,List.nodup_nil,and_true] at D
  obtain ⟨⟨a1,a2,a3,a4,a5⟩,⟨a6,a7,a8,a9⟩,⟨a10,a11,a12⟩,⟨a13,a14⟩,a15,_⟩:=D
  exact ⟨a1,a2,a3,a4,a5,a6,a7,a8,a9,a10,a11,a12,a13,a14,a15⟩
 obtain ⟨n1,n2,n3,n4,n5,n6,n7,n8,n9,n10,n11,n12,n13,n14,n15⟩:=D'
 obtain ⟨m1,m2,m3,m4,m5⟩:l1≠z∧l1≠TO∧l1≠i1∧l1≠i2∧l1≠i3:=by simpa using D2 l1 (by simp)
 obtain ⟨m6,m7,m8,m9,m10⟩:l2≠z∧l2≠TO∧l2≠i1∧l2≠i2∧l2≠i3:=by simpa using D2 l2 (by simp)
 obtain ⟨m11,m12,m13,m14,m15⟩:l3≠z∧l3≠TO∧l3≠i1∧l3≠i2∧l3≠i3:=by simpa using D2 l3 (by simp)
 have mv:∀ {it l p:Addr}{X:Array Value}{st:Nat→Heap→Prop}{j:Nat}{h h':Heap},ItS prog w it l X st→st j h→Heap.SameBut p h h'→it≠p→l≠p→st j h':=fun J hs b x1 x2=>J.keep hs fun c o hc e=>by
  rcases hc with rfl | rfl
  · exact a02 b x1 e
  · exact a02 b x2 e
 show wpAny (model prog w) A (forIn [(Value.ref i1,0),(Value.ref i2,1),(Value.ref i3,2)] (none,()) _) _ E _
 rw [List.forIn_cons]
 refine wB (wB (wpAny_onRaise ?_))
 refine wB (m:=Builtin.SmallTypes.nextOf (.ref i1)) (f:=fun v=>pure (some v)) ?_
 refine J1.item (mv J1 h1 b1 n3.symm m1) e1 fun g2 z2 b2=>wpAny_pure ?_
 dsimp only
 refine wB (wpAny_seqItems (items:=#[a,b,c]) (a02 b2 n10 (a02 b1 n2.symm hTO)) rfl ?_)
 dsimp only
 refine wB (aa0 (a02 b2 n10 (a02 b1 n2.symm hTO)) fun g3 t3 b3=>?_)
 refine wB (wpAny_letGo (wpAny_pure ?_))
 dsimp only
 rw [List.forIn_cons]
 refine wB (wB (wpAny_onRaise ?_))
 refine wB (m:=Builtin.SmallTypes.nextOf (.ref i2)) (f:=fun v=>pure (some v)) ?_
 refine J2.item (mv J2 (mv J2 (mv J2 h2 b1 n4.symm m6) b2 n13.symm m8) b3 n11.symm m7) e2 fun g4 z4 b4=>wpAny_pure ?_
 dsimp only
 have t4:IsTri g4 TO x b c:=a02 b4 n11 (by rw [t3]; rfl)
 refine wB (wpAny_seqItems (items:=#[x,b,c]) t4 rfl ?_)
 dsimp only
 refine wB (aa0 t4 fun g5 t5 b5=>?_)
 refine wB (wpAny_letGo (wpAny_pure ?_))
 dsimp only
 rw [List.forIn_cons]
 refine wB (wB (wpAny_onRaise ?_))
 refine wB (m:=Builtin.SmallTypes.nextOf (.ref i3)) (f:=fun v=>pure (some v)) ?_
 refine J3.item (mv J3 (mv J3 (mv J3 (mv J3 (mv J3 h3 b1 n5.symm m11) b2 n14.symm m13) b3 n12.symm m12) b4 n15.symm m14) b5 n12.symm m12) e3 fun g6 z6 b6=>wpAny_pure ?_
 dsimp only
 have t6:IsTri g6 TO x y c:=a02 b6 n12 (by rw [t5]; rfl)
 refine wB (wpAny_seqItems (items:=#[x,y,c]) t6 rfl ?_)
 dsimp only
 refine wB (aa0 t6 fun g7 t7 b7=>?_)
 refine wB (wpAny_letGo (wpAny_pure ?_))
 dsimp only
 rw [List.forIn_nil]
 refine wpAny_pure ?_
 dsimp only
 have t7':IsTri g7 TO x y u:=by rw [IsTri,t7]; rfl
 refine wB (wpAny_seqItems (items:=#[x,y,u]) t7' rfl ?_)
 dsimp only
 refine wB (wpAny_newTuple ?_ (by simp [sizeLine_eq]))
 have sz:g7.objs.size=s.heap.objs.size:=by rw [b7.1,b6.1,b5.1,b4.1,b3.1,b2.1,b1.1]
 have zz:g7.get? z=some { cls:=.type "zip",data:=.fields #[.ellipsis,.bool false,.bool false,.ref TI,.ref TO] }:=a02 b7 n2 (a02 b6 n5 (a02 b5 n2 (a02 b4 n4 (a02 b3 n2 (a02 b2 n3 z1)))))
 refine wB (wB ?_)
 refine wpAny_setField_rec (gP _ zz) (by simp) fun g8 z8 b8=>?_
 refine wpAny_setField_rec z8 (by simp) fun g9 z9 b9=>?_
 refine wpAny_pure ⟨_,rfl,?_⟩
 have lt:∀ {c:Addr}{o:Obj},g7.get? c=some o→c≠g7.objs.size:=fun e=>Nat.ne_of_lt (Heap.lt_size e)
 have mvp:∀ {it l:Addr}{X:Array Value}{st:Nat→Heap→Prop}{j:Nat},ItS prog w it l X st→st j g7→it≠z→l≠z→st j g9:=fun J hs x1 x2=>J.keep hs fun c o hc e=>by
  rcases hc with rfl | rfl
  · exact a02 b9 x1 (a02 b8 x1 (gP _ e))
  · exact a02 b9 x2 (a02 b8 x2 (gP _ e))
 have zne:g7.objs.size≠z:=(lt zz).symm
 rw [sz]
 refine q g9 ?_ ?_ (mvp J1 ?_ n3.symm m1) (mvp J2 ?_ n4.symm m6) (mvp J3 ?_ n5.symm m11) ?_ ?_ ?_
 · rw [IsZip,z9]
   simp [sz]
 · exact a02 b9 n2.symm (a02 b8 n2.symm (gP _ t7'))
 · exact mv J1 (mv J1 (mv J1 (mv J1 (mv J1 z2 b3 n10.symm m2) b4 n13 m4) b5 n10.symm m2) b6 n14 m5) b7 n10.symm m2
 · exact mv J2 (mv J2 (mv J2 z4 b5 n11.symm m7) b6 n15 m10) b7 n11.symm m7
 · exact mv J3 z6 b7 n12.symm m12
 · have:=a02 b9 zne (a02 b8 zne (Heap.get?_push_size g7 rfl))
   rw [← sz]
   exact this
 · rw [b9.1,b8.1,Heap.size_push,sz]
 · intro c o hc e
   simp only [List.mem_cons,List.not_mem_nil,or_false,not_or] at hc
   obtain ⟨c1,c2,c3,c4,c5⟩:=hc
   exact a02 b9 c1 (a02 b8 c1 (gP _ (a02 b7 c2 (a02 b6 c5 (a02 b5 c2 (a02 b4 c4 (a02 b3 c2 (a02 b2 c3 (a02 b1 c1 e)))))))))
theorem bh7 {A:Around}{E:Value→Shared→Prop}{s:Shared}{k:Nat}{a b c:Value}{Q:PySem.Fin→Shared→Prop}(hA:A.handled=none)
 (D:Apt z TI TO i1 i2 i3 l1 l2 l3) (J1:ItS prog w i1 l1 xs st1) (J2:ItS prog w i2 l2 ys st2) (J3:ItS prog w i3 l3 us st3) (hz:IsZip s.heap z TI TO .none) (hTI:IsTri s.heap TI (.ref i1) (.ref i2) (.ref i3)) (hTO:IsTri s.heap TO a b c)
 (h1:st1 k s.heap) (h2:st2 k s.heap) (h3:st3 k s.heap) (e:xs[k]?=none∨ys[k]?=none∨us[k]?=none)
 (q:∀ (h':Heap) (ex:Addr),(∀ (c:Addr) (o:Obj),c∉[z,TO,i1,i2,i3]→s.heap.get? c=some o→h'.get? c=some o)→(∃ o,h'.get? ex=some o∧o.cls=.type "StopIteration")→E (.ref ex) { s with heap:=h' }) :
 wpAny (model prog w) A (Builtin.«zip.__next__» { pos:=[.ref z] }) Q E s:=by
 obtain ⟨D,D2⟩:=D
 unfold Builtin.«zip.__next__»
 refine wB (wpAny_pure ?_)
 refine wB (wpAny_field (x:=.bool false) hz rfl rfl ?_)
 refine wB (wpAny_field (x:=.ref TI) hz rfl rfl ?_)
 refine wB (wpAny_seqItems hTI rfl ?_)
 dsimp only
 rw [if_neg (show ¬ (#[Value.ref i1,Value.ref i2,Value.ref i3].isEmpty=true) by simp)]
 refine wB (wB (wpAny_field (x:=.none) hz rfl rfl (wpAny_pure ?_)))
 rw [if_pos rfl]
 refine wB (wpAny_rule ?_)
 refine wB (wpAny_field (x:=.ref TO) hz rfl rfl ?_)
 dsimp only
 refine wB (wpAny_setField_rec hz (by simp) fun g1 z1 b1=>?_)
 refine wB ?_
 have D':z≠TI∧z≠TO∧z≠i1∧z≠i2∧z≠i3∧TI≠TO∧TI≠i1∧TI≠i2∧TI≠i3∧TO≠i1∧TO≠i2∧TO≠i3∧i1≠i2∧i1≠i3∧i2≠i3:=by
  simp only [List.nodup_cons,List.mem_cons,List.not_mem_nil,or_false,not_or,List.nodup_nil,and_true] at D
  obtain ⟨⟨a1,a2,a3,a4,a5⟩,⟨a6,a7,a8,a9⟩,⟨a10,a11,a12⟩,⟨a13,a14⟩,a15,_⟩:=D
  exact ⟨a1,a2,a3,a4,a5,a6,a7,a8,a9,a10,a11,a12,a13,a14,a15⟩
 obtain ⟨n1,n2,n3,n4,n5,n6,n7,n8,n9,n10,n11,n12,n13,n14,n15⟩:=D'
 obtain ⟨m1,m2,m3,m4,m5⟩:l1≠z∧l1≠TO∧l1≠i1∧l1≠i2∧l1≠i3:=by simpa using D2 l1 (by simp)
 obtain ⟨m6,m7,m8,m9,m10⟩:l2≠z∧l2≠TO∧l2≠i1∧l2≠i2∧l2≠i3:=by simpa using D2 l2 (by simp)
 obtain ⟨m11,m12,m13,m14,m15⟩:l3≠z∧l3≠TO∧l3≠i1∧l3≠i2∧l3≠i3:=by simpa using D2 l3 (by simp)
 have mv:∀ {it l p:Addr}{X:Array Value}{st:Nat→Heap→Prop}{j:Nat}{h h':Heap},ItS prog w it l X st→st j h→Heap.SameBut p h h'→it≠p→l≠p→st j h':=fun J hs b x1 x2=>J.keep hs fun c o hc e=>by
  rcases hc with rfl | rfl
  · exact a02 b x1 e
  · exact a02 b x2 e
 have fin:∀ {it l p:Addr}{X:Array Value}{st:Nat→Heap→Prop}{g:Heap}{Q':Option Value→Shared→Prop},it∈[i1,i2,i3]→ItS prog w it l X st→st k g→X[k]?=none→(∀ (c:Addr) (o:Obj),c∉[z,TO,i1,i2,i3]→s.heap.get? c=some o→g.get? c=some o)→g.get? z=some { cls:=.type "zip",data:=.fields #[.ellipsis,.bool false,.bool false,.ref TI,.ref TO] }→z≠it →
  wpAny (model prog w) A (Builtin.SmallTypes.nextOf (.ref it) >>= fun v=>pure (some v)) Q' (fun e s'=>wpAny (model prog w) A (setField (.ref z) 0 .none) (fun _ s''=>E e s'') E s') { s with heap:=g }:=fun {it l p X st g Q'} hit J hs hx hk hzz hne=>by
  refine wB (J.done hA hs hx fun g' ex b' hex=>?_)
  refine wpAny_setField_rec (b' _ _ hne hzz) (by simp) fun g'' z'' b''=>q g'' ex (fun c o hc e=>?_) ?_
  · have hc':=hc
    simp only [List.mem_cons,List.not_mem_nil,or_false,not_or] at hc
    refine a02 b'' hc.1 (b' c o (fun hq=>?_) (hk c o hc' e))
    subst hq
    simp only [List.mem_cons,List.not_mem_nil,or_false] at hit
    rcases hit with h | h | h
    · exact hc.2.2.1 h
    · exact hc.2.2.2.1 h
    · exact hc.2.2.2.2 h
  · obtain ⟨o,e1,e2⟩:=hex
    by_cases hq:ex=z
    · subst hq
      rw [b' _ _ hne hzz] at e1
      cases e1
      simp at e2
    · exact ⟨o,a02 b'' hq e1,e2⟩
 show wpAny (model prog w) A (forIn [(Value.ref i1,0),(Value.ref i2,1),(Value.ref i3,2)] (none,()) _) _ E _
 rw [List.forIn_cons]
 refine wB (wB (wpAny_onRaise ?_))
 have k1:∀ (c:Addr) (o:Obj),c∉[z,TO,i1,i2,i3]→s.heap.get? c=some o→g1.get? c=some o:=fun c o hc e=>by
  simp only [List.mem_cons,List.not_mem_nil,or_false,not_or] at hc
  exact a02 b1 hc.1 e
 cases hx1:xs[k]? with
 | none=>exact fin (p:=z) (by simp) J1 (mv J1 h1 b1 n3.symm m1) hx1 k1 z1 n3
 | some x =>
   refine wB (m:=Builtin.SmallTypes.nextOf (.ref i1)) (f:=fun v=>pure (some v)) ?_
   refine J1.item (mv J1 h1 b1 n3.symm m1) hx1 fun g2 z2 b2=>wpAny_pure ?_
   dsimp only
   refine wB (wpAny_seqItems (items:=#[a,b,c]) (a02 b2 n10 (a02 b1 n2.symm hTO)) rfl ?_)
   dsimp only
   refine wB (aa0 (a02 b2 n10 (a02 b1 n2.symm hTO)) fun g3 t3 b3=>?_)
   refine wB (wpAny_letGo (wpAny_pure ?_))
   dsimp only
   rw [List.forIn_cons]
   refine wB (wB (wpAny_onRaise ?_))
   have k3:∀ (c:Addr) (o:Obj),c∉[z,TO,i1,i2,i3]→s.heap.get? c=some o→g3.get? c=some o:=fun c o hc e=>by
    have hc':=hc
    simp only [List.mem_cons,List.not_mem_nil,or_false,not_or] at hc
    exact a02 b3 hc.2.1 (a02 b2 hc.2.2.1 (k1 c o hc' e))
   have zz3:=a02 b3 n2 (a02 b2 n3 z1)
   cases hx2:ys[k]? with
   | none=>exact fin (p:=z) (by simp) J2 (mv J2 (mv J2 (mv J2 h2 b1 n4.symm m6) b2 n13.symm m8) b3 n11.symm m7) hx2 k3 zz3 n4
   | some y =>
     refine wB (m:=Builtin.SmallTypes.nextOf (.ref i2)) (f:=fun v=>pure (some v)) ?_
     refine J2.item (mv J2 (mv J2 (mv J2 h2 b1 n4.symm m6) b2 n13.symm m8) b3 n11.symm m7) hx2 fun g4 z4 b4=>wpAny_pure ?_
     dsimp only
     have t4:IsTri g4 TO x b c:=a02 b4 n11 (by rw [t3]; rfl)
     refine wB (wpAny_seqItems (items:=#[x,b,c]) t4 rfl ?_)
     dsimp only
     refine wB (aa0 t4 fun g5 t5 b5=>?_)
     refine wB (wpAny_letGo (wpAny_pure ?_))
     dsimp only
     rw [List.forIn_cons]
     refine wB (wB (wpAny_onRaise ?_))
     have k5:∀ (c:Addr) (o:Obj),c∉[z,TO,i1,i2,i3]→s.heap.get? c=some o→g5.get? c=some o:=fun c o hc e=>by
      have hc':=hc
      simp only [List.mem_cons,List.not_mem_nil,or_false,not_or] at hc
      exact a02 b5 hc.2.1 (a02 b4 hc.2.2.2.1 (k3 c o hc' e))
     have zz5:=a02 b5 n2 (a02 b4 n4 zz3)
     have hx3:us[k]?=none:=by
      rcases e with e | e | e
      · rw [hx1] at e; cases e
      · rw [hx2] at e; cases e
      · exact e
     exact fin (p:=z) (by simp) J3 (mv J3 (mv J3 (mv J3 (mv J3 (mv J3 h3 b1 n5.symm m11) b2 n14.symm m13) b3 n12.symm m12) b4 n15.symm m14) b5 n12.symm m12) hx3 k5 zz5 n5
theorem ac2 {A:Around}{E:Value→Shared→Prop}{s:Shared}{k:Nat}{x y u a b c:Value}{Q:Option Value→Shared→Prop}
 (D:Apt z TI TO i1 i2 i3 l1 l2 l3) (J1:ItS prog w i1 l1 xs st1) (J2:ItS prog w i2 l2 ys st2) (J3:ItS prog w i3 l3 us st3) (hz:IsZip s.heap z TI TO .none) (hTI:IsTri s.heap TI (.ref i1) (.ref i2) (.ref i3)) (hTO:IsTri s.heap TO a b c)
 (h1:st1 k s.heap) (h2:st2 k s.heap) (h3:st3 k s.heap) (e1:xs[k]?=some x) (e2:ys[k]?=some y) (e3:us[k]?=some u)
 (q:∀ h':Heap,IsZip h' z TI TO (rawInt s.heap.objs.size)→IsTri h' TO x y u→st1 (k+1) h'→st2 (k+1) h'→st3 (k+1) h'→IsTri h' s.heap.objs.size x y u→h'.objs.size=s.heap.objs.size+1→(∀ (c:Addr) (o:Obj),c∉[z,TO,i1,i2,i3]→s.heap.get? c=some o→h'.get? c=some o)→Q (some (.ref s.heap.objs.size)) { s with heap:=h' }) :
 wpAny (model prog w) A (pyNext (.ref z)) Q E s:=by
 unfold pyNext
 refine wB (wpAny_attempt (wpAny_callSpecial?_slot (T:="zip") ⟨_,hz,rfl⟩ F.slot_zip_next (wpAny_call_entry F.slot_zip_next ⟨_,hz,rfl⟩ F.entry_zip_next ?_ (F.args_zip_next_1 _))))
 exact ba7 D J1 J2 J3 hz hTI hTO h1 h2 h3 e1 e2 e3 fun h' a1 a2 a3 a4 a5 a6 a7 a8=>wpAny_pure (q h' a1 a2 a3 a4 a5 a6 a7 a8)
theorem ac6 {A:Around}{E:Value→Shared→Prop}{s:Shared}{k:Nat}{a b c:Value}{Q:Option Value→Shared→Prop}(hA:A.handled=none)
 (D:Apt z TI TO i1 i2 i3 l1 l2 l3) (J1:ItS prog w i1 l1 xs st1) (J2:ItS prog w i2 l2 ys st2) (J3:ItS prog w i3 l3 us st3) (hz:IsZip s.heap z TI TO .none) (hTI:IsTri s.heap TI (.ref i1) (.ref i2) (.ref i3)) (hTO:IsTri s.heap TO a b c)
 (h1:st1 k s.heap) (h2:st2 k s.heap) (h3:st3 k s.heap) (e:xs[k]?=none∨ys[k]?=none∨us[k]?=none)
 (q:∀ h':Heap,(∀ (c:Addr) (o:Obj),c∉[z,TO,i1,i2,i3]→s.heap.get? c=some o→h'.get? c=some o)→Q none { s with heap:=h' }):wpAny (model prog w) A (pyNext (.ref z)) Q E s:=by
 unfold pyNext
 refine wB (wpAny_attempt (wpAny_callSpecial?_slot (T:="zip") ⟨_,hz,rfl⟩ F.slot_zip_next (wpAny_call_entry F.slot_zip_next ⟨_,hz,rfl⟩ F.entry_zip_next ?_ (F.args_zip_next_1 _))))
 refine bh7 (by exact hA) D J1 J2 J3 hz hTI hTO h1 h2 h3 e fun h' ex hk ⟨o,x1,x2⟩=>?_
 refine wB (wpAny_isInstance (T:="StopIteration") ⟨o,x1,x2⟩ isSubtype_stop ?_)
 rw [if_pos rfl]
 exact wpAny_pure (q h' hk)
end
structure SrcO (l:Addr) (o:Obj) (P:Heap→Prop):Prop where
 push:∀ {h:Heap}{o':Obj},P h→P (h.push o')
 iter:∀ {prog:Program}{w:World}{A:Around}{E:Value→Shared→Prop}{s:Shared}{Q:Value→Shared→Prop},P s.heap→Q (.ref s.heap.objs.size) { s with heap:=s.heap.push o }→wpAny (model prog w) A (pyIter (.ref l)) Q E s
@[reducible] def z3H (h:Heap) (o1 o2 o3:Obj):Heap:=(((((h.push o1).push o2).push o3).push { cls:=.type "tuple",data:=.seq #[.ref h.objs.size,.ref (h.objs.size+1),.ref (h.objs.size+2)] }).push { cls:=.type "tuple",data:=.seq #[.none,.none,.none] }).push { cls:=.type "zip",data:=.fields #[.none,.bool false,.bool false,.ref (h.objs.size+3),.ref (h.objs.size+4)] }
theorem ao0 {l1 l2 l3:Addr}{o1 o2 o3:Obj}{P1 P2 P3:Heap→Prop}(S1:SrcO l1 o1 P1) (S2:SrcO l2 o2 P2) (S3:SrcO l3 o3 P3):Meets (Builtin.«zip.__new__» { pos:=[.type "zip",.ref l1,.ref l2,.ref l3] }) fun _ R s=>P1 s.heap∧P2 s.heap∧P3 s.heap∧R (.ok (.ret (.ref (s.heap.objs.size+5)))) { s with heap:=z3H s.heap o1 o2 o3 }:=by
 refine Meets.of_wp fun prog w A R s ⟨p1,p2,p3,r⟩=>?_
 unfold Builtin.«zip.__new__»
 refine wB ?_
 unfold Builtin.SmallTypes.newClass
 dsimp only
 refine wB (wpAny_pure ?_)
 rw [if_neg (by decide)]
 refine wB ?_
 rw [sub_zip]
 refine wpAny_pure ?_
 rw [if_neg (by decide)]
 refine wpAny_pure ?_
 dsimp only
 rw [if_neg (by decide)]
 refine wB ?_
 unfold Builtin.SmallTypes.iterAll
 refine wB ?_
 rw [List.forIn_cons]
 refine wB (wB (wpAny_holding (S1.iter p1 (wpAny_pure ?_))))
 dsimp only
 rw [List.forIn_cons]
 refine wB (wB (wpAny_holding (S2.iter (S2.push p2) (wpAny_pure ?_))))
 dsimp only
 rw [List.forIn_cons]
 refine wB (wB (wpAny_holding (S3.iter (S3.push (S3.push p3)) (wpAny_pure ?_))))
 dsimp only
 rw [List.forIn_nil]
 refine wpAny_pure (wpAny_pure ?_)
 refine wB (wpAny_newTuple ?_ (by simp [sizeLine_eq]))
 refine wB (wpAny_newTuple ?_ (by simp [sizeLine_eq]))
 refine wB ?_
 refine wB (wpAny_alloc' ?_)
 refine wpAny_pure ?_
 refine wpAny_pure ⟨_,rfl,?_⟩
 simp only [Heap.size_push]
 exact r
theorem ad9 (a b c:Value):checkTypeCall "zip" { pos:=[a,b,c] }=pure ():=by
 with_unfolding_all rfl
theorem ag1 (a b c:Value):checkBuiltinCall "zip.__new__" { pos:=[.type "zip",a,b,c] }=pure ():=by
 with_unfolding_all rfl
theorem ak8 (a b c d:Value):argsOk "object.__init__" { pos:=[a,b,c,d] }:=by
 with_unfolding_all rfl
theorem ad4 (l:Addr) (xs:Array Value):SrcO l { cls:=.type "list_iterator",data:=.fields #[.ref l,.int 0 0] } (fun h=>h.IsList l xs) where
 push:=fun h=>h.push _
 iter:=fun p q=>wpAny_pyIter_list p q
theorem b55 {prog:Program}{w:World}{A:Around}{E:Value→Shared→Prop}{s:Shared}{l1 l2 l3:Addr}{xs ys us:Array Value}{Q:Value→Shared→Prop}(p1:s.heap.IsList l1 xs) (p2:s.heap.IsList l2 ys) (p3:s.heap.IsList l3 us)
 (q:∀ h':Heap,IsZip h' (s.heap.objs.size+5) (s.heap.objs.size+3) (s.heap.objs.size+4) .none→IsTri h' (s.heap.objs.size+3) (.ref s.heap.objs.size) (.ref (s.heap.objs.size+1)) (.ref (s.heap.objs.size+2))→IsTri h' (s.heap.objs.size+4) .none .none .none →
  h'.IsListIter s.heap.objs.size l1 0→h'.IsListIter (s.heap.objs.size+1) l2 0→h'.IsListIter (s.heap.objs.size+2) l3 0→(∀ (c:Addr) (o:Obj),s.heap.get? c=some o→h'.get? c=some o)→Q (.ref (s.heap.objs.size+5)) { s with heap:=h' }) :
 wpAny (model prog w) A (call (.type "zip") [.ref l1,.ref l2,.ref l3]) Q E s:=by
 refine callType_new F.called_zip (by decide) (ad9 _ _ _) (ag1 _ _ _) (fun obj=>ak8 _ _ _ _) F.entry_zip_new (ao0 (ad4 l1 xs) (ad4 l2 ys) (ad4 l3 us)) ⟨p1,p2,p3,?_⟩
 have e5:(z3H s.heap { cls:=.type "list_iterator",data:=.fields #[.ref l1,.int 0 0] } { cls:=.type "list_iterator",data:=.fields #[.ref l2,.int 0 0] } { cls:=.type "list_iterator",data:=.fields #[.ref l3,.int 0 0] }).get? (s.heap.objs.size+5)=some { cls:=.type "zip",data:=.fields #[.none,.bool false,.bool false,.ref (s.heap.objs.size+3),.ref (s.heap.objs.size+4)] }:=by
  have:=Heap.get?_push_size (((((s.heap.push { cls:=.type "list_iterator",data:=.fields #[.ref l1,.int 0 0] }).push { cls:=.type "list_iterator",data:=.fields #[.ref l2,.int 0 0] }).push { cls:=.type "list_iterator",data:=.fields #[.ref l3,.int 0 0] }).push { cls:=.type "tuple",data:=.seq #[.ref s.heap.objs.size,.ref (s.heap.objs.size+1),.ref (s.heap.objs.size+2)] }).push { cls:=.type "tuple",data:=.seq #[.none,.none,.none] }) (o:={ cls:=.type "zip",data:=.fields #[.none,.bool false,.bool false,.ref (s.heap.objs.size+3),.ref (s.heap.objs.size+4)] }) rfl
  simp only [Heap.size_push] at this
  exact this
 refine ⟨⟨_,e5,rfl⟩,q _ e5 ?_ ?_ ?_ ?_ ?_ ?_⟩
 · have:=Heap.get?_push_size ((((s.heap.push { cls:=.type "list_iterator",data:=.fields #[.ref l1,.int 0 0] }).push { cls:=.type "list_iterator",data:=.fields #[.ref l2,.int 0 0] }).push { cls:=.type "list_iterator",data:=.fields #[.ref l3,.int 0 0] })) (o:={ cls:=.type "tuple",data:=.seq #[.ref s.heap.objs.size,.ref (s.heap.objs.size+1),.ref (s.heap.objs.size+2)] }) rfl
   simp only [Heap.size_push] at this
   exact gP _ (gP _ this)
 · have:=Heap.get?_push_size ((((s.heap.push { cls:=.type "list_iterator",data:=.fields #[.ref l1,.int 0 0] }).push { cls:=.type "list_iterator",data:=.fields #[.ref l2,.int 0 0] }).push { cls:=.type "list_iterator",data:=.fields #[.ref l3,.int 0 0] }).push { cls:=.type "tuple",data:=.seq #[.ref s.heap.objs.size,.ref (s.heap.objs.size+1),.ref (s.heap.objs.size+2)] }) (o:={ cls:=.type "tuple",data:=.seq #[.none,.none,.none] }) rfl
   simp only [Heap.size_push] at this
   exact gP _ this
 · refine ⟨_,gP _ (gP _ (gP _ (gP _ (gP _ (Heap.get?_push_size s.heap rfl))))),rfl,rfl⟩
 · have:=Heap.get?_push_size (s.heap.push { cls:=.type "list_iterator",data:=.fields #[.ref l1,.int 0 0] }) (o:={ cls:=.type "list_iterator",data:=.fields #[.ref l2,.int 0 0] }) rfl
   simp only [Heap.size_push] at this
   exact ⟨_,gP _ (gP _ (gP _ (gP _ this))),rfl,rfl⟩
 · have:=Heap.get?_push_size ((s.heap.push { cls:=.type "list_iterator",data:=.fields #[.ref l1,.int 0 0] }).push { cls:=.type "list_iterator",data:=.fields #[.ref l2,.int 0 0] }) (o:={ cls:=.type "list_iterator",data:=.fields #[.ref l3,.int 0 0] }) rfl
   simp only [Heap.size_push] at this
   exact ⟨_,gP _ (gP _ (gP _ this)),rfl,rfl⟩
 · intro c o e
   exact gP _ (gP _ (gP _ (gP _ (gP _ (gP _ e)))))
def Itz3 (K:W.Frag) (a b c:Addr):It :=
 ⟨fun i H=>∃ xs ys us x y u,SqL K H a xs∧SqL K H b ys∧SqL K H c us∧xs[i]?=some x∧ys[i]?=some y∧us[i]?=some u,
  fun i H v H'=>∃ p x y u,v=.ref p∧H p=none∧Same H H'∧H' p=some (.tup [x,y,u])∧(∀ xs,SqL K H a xs→xs[i]?=some x)∧(∀ ys,SqL K H b ys→ys[i]?=some y)∧∀ us,SqL K H c us→us[i]?=some u,
  fun i H=>∃ xs ys us,SqL K H a xs∧SqL K H b ys∧SqL K H c us∧(xs.length≤i∨ys.length≤i∨us.length≤i)⟩
theorem ba8 {P:Program}{w:World}{K:W.Frag}{elts:List Expr}{x1:Nat}{pos:Pos}(a b c z TI TO i1 i2 i3:Addr) (D:Apt z TI TO i1 i2 i3 a b c) (E1:a≠i1) (E2:b≠i2) (E3:c≠i3) :
 Turn P w K (.Tuple elts x1 pos) (Itz3 K a b c) [z,TI,TO,i1,i2,i3] z (fun i h=>IsZip h z TI TO .none∧IsTri h TI (.ref i1) (.ref i2) (.ref i3)∧(∃ a b c,IsTri h TO a b c)∧h.IsListIter i1 a i∧h.IsListIter i2 b i∧h.IsListIter i3 c i) where
 mem:=by simp
 obj:=fun i h st d hd=>by
  obtain ⟨hz,hTI,⟨a,b,c,hTO⟩,⟨o1,h1,_,d1⟩,⟨o2,h2,_,d2⟩,o3,h3,_,d3⟩:=st
  rcases (by simpa using hd:d=z∨d=TI∨d=TO∨d=i1∨d=i2∨d=i3) with rfl | rfl | rfl | rfl | rfl | rfl
  · exact ⟨_,hz,fun v q=>by cases q⟩
  · exact ⟨_,hTI,fun v q=>by cases q⟩
  · exact ⟨_,hTO,fun v q=>by cases q⟩
  · exact ⟨_,h1,fun v q=>by rw [d1] at q; cases q⟩
  · exact ⟨_,h2,fun v q=>by rw [d2] at q; cases q⟩
  · exact ⟨_,h3,fun v q=>by rw [d3] at q; cases q⟩
 keep:=fun i h h' st k=>by
  obtain ⟨hz,hTI,⟨a,b,c,hTO⟩,h1,h2,h3⟩:=st
  exact ⟨k z (by simp) _ hz,k TI (by simp) _ hTI,⟨a,b,c,k TO (by simp) _ hTO⟩,h1.at fun o x=>k i1 (by simp) o x,h2.at fun o x=>k i2 (by simp) o x,h3.at fun o x=>k i3 (by simp) o x⟩
 item:=by
  intro X hP hw hK hc i pins s σ H E I hf st hg
  subst hP hw hK
  obtain ⟨xs,ys,us,x,y,u,hqa,hqb,hqc,hx,hy,hu⟩:=hg
  obtain ⟨it1,rv1,p1,hz1⟩:=I.list hqa
  obtain ⟨it2,rv2,p2,hz2⟩:=I.list hqb
  obtain ⟨it3,rv3,p3,hz3⟩:=I.list hqc
  obtain ⟨u1,hu1,ru1⟩:=rv1.get hx
  obtain ⟨u2,hu2,ru2⟩:=rv2.get hy
  obtain ⟨u3,hu3,ru3⟩:=rv3.get hu
  obtain ⟨hz,hTI,⟨a',b',c',hTO⟩,h1,h2,h3⟩:=st
  have fr:H s.heap.objs.size=none:=I.hok.fresh (Nat.le_refl _)
  have lt:∀ d∈[z,TI,TO,i1,i2,i3],d<s.heap.objs.size:=fun d hd=>by
   obtain ⟨o1,e1,_⟩:=h1
   obtain ⟨o2,e2,_⟩:=h2
   obtain ⟨o3,e3,_⟩:=h3
   rcases (by simpa using hd:d=z∨d=TI∨d=TO∨d=i1∨d=i2∨d=i3) with rfl | rfl | rfl | rfl | rfl | rfl
   · exact Heap.lt_size hz
   · exact Heap.lt_size hTI
   · exact Heap.lt_size hTO
   · exact Heap.lt_size e1
   · exact Heap.lt_size e2
   · exact Heap.lt_size e3
  refine ac2 (k:=i) D (a97 (xs:=it1.toArray) E1) (a97 (xs:=it2.toArray) E2) (a97 (xs:=it3.toArray) E3) hz hTI hTO ⟨h1,p1.isList⟩ ⟨h2,p2.isList⟩ ⟨h3,p3.isList⟩ (x:=u1) (y:=u2) (u:=u3) (by simpa using hu1) (by simpa using hu2) (by simpa using hu3) fun h' a1 a2 a3 a4 a5 a6 a7 hk=>?_
  have I1:Inv X pins σ H { s with heap:=h' }:=I.turnedL (t':=s.toks) (ch:=[z,TI,TO,i1,i2,i3]) (fun d o hd q=>hk d o (fun e=>hd (by simp at e ⊢; rcases e with e | e | e | e | e <;> simp [e])) q) hf
  have I2:Inv X pins σ (upd H s.heap.objs.size (.tup [x,y,u])) { s with heap:=h' }:=I1.adopt (o:=.tup [x,y,u]) fr I.sz (Nat.ne_of_gt I.lt) (fun n c ec e=>by
   obtain ⟨v,q⟩:=I.cell n c ec
   exact absurd q.lt (by rw [e]; exact Nat.lt_irrefl _)) (fun q hq e=>absurd (Heap.lt_size (I.pin q hq).1) (by rw [e]; exact Nat.lt_irrefl _))
   ⟨le_line (by simp),[u1,u2,u3],.cons ru1 (.cons ru2 (.cons ru3 .nil)),⟨_,a6,rfl,_,rfl⟩⟩
  have hf2:∀ d∈[z,TI,TO,i1,i2,i3],FpOk X pins (upd H s.heap.objs.size (.tup [x,y,u])) d:=fun d hd=>⟨by rw [a09 (Nat.ne_of_lt (lt d hd))]; exact (hf d hd).1,(hf d hd).2⟩
  obtain ⟨nd,_⟩:=D
  simp only [List.nodup_cons,List.mem_cons,List.not_mem_nil,or_false,not_or,List.nodup_nil,and_true] at nd
  obtain ⟨⟨n1,n2,n3,n4,n5⟩,⟨n6,n7,n8,n9⟩,⟨n10,n11,n12⟩,⟨n13,n14⟩,n15,_⟩:=nd
  refine ⟨_,rfl,wpAny_letOwnedTupleGo_zip a1 fun h2' hz' hs'=>⟨.ref s.heap.objs.size,_,I2.turnedL (t':=s.toks) (ch:=[z]) (fun d o hd q=>(hs'.2 d (fun e=>hd (by simp [e]))).trans q) (fun d hd=>hf2 d (by simp at hd; simp [hd])),rfl,⟨s.heap.objs.size,x,y,u,rfl,fr,Same.new fr,a33,fun q hq=>by rw [I.list_inj hq hqa]; exact hx,fun q hq=>by rw [I.list_inj hq hqb]; exact hy,fun q hq=>by rw [I.list_inj hq hqc]; exact hu⟩,⟨hz',a02 hs' (Ne.symm n1) (hk _ _ (by simp [Ne.symm n1,n6,n7,n8,n9]) hTI),⟨_,_,_,a02 hs' (Ne.symm n2) a2⟩,a3.1.extBut hs'.extBut (Ne.symm n3),a4.1.extBut hs'.extBut (Ne.symm n4),a5.1.extBut hs'.extBut (Ne.symm n5)⟩,fun d hd=>(hf2 d hd).1⟩⟩
 done:=by
  intro X hP hw hK hc i pins s σ H E I hf st hg
  subst hP hw hK
  obtain ⟨xs,ys,us,hqa,hqb,hqc,hx⟩:=hg
  obtain ⟨it1,rv1,p1,hz1⟩:=I.list hqa
  obtain ⟨it2,rv2,p2,hz2⟩:=I.list hqb
  obtain ⟨it3,rv3,p3,hz3⟩:=I.list hqc
  obtain ⟨hz,hTI,⟨a',b',c',hTO⟩,h1,h2,h3⟩:=st
  have l1:=rv1.length
  have l2:=rv2.length
  have l3:=rv3.length
  refine ac6 (k:=i) (I.ok.hd hc) D (a97 (xs:=it1.toArray) E1) (a97 (xs:=it2.toArray) E2) (a97 (xs:=it3.toArray) E3) hz hTI hTO ⟨h1,p1.isList⟩ ⟨h2,p2.isList⟩ ⟨h3,p3.isList⟩ ?_ fun h' hk=>⟨rfl,I.turnedL (t':=s.toks) (ch:=[z,TI,TO,i1,i2,i3]) (fun d o hd q=>hk d o (fun e=>hd (by simp at e ⊢; rcases e with e | e | e | e | e <;> simp [e])) q) hf⟩
  rcases hx with e | e | e
  · exact .inl (by simp; omega)
  · exact .inr (.inl (by simp; omega))
  · exact .inr (.inr (by simp; omega))
 self:=fun A i s Q E st h=>wpAny_pyIter_zip st.1 h
section
variable {X:Cx}{elts:List Expr}{x1:Nat}{tpos:Pos}
def c33 (K:W.Frag) (ta:TA):TI:=fun σ H R=>ta σ H fun vs H1=>∃ a b c,vs=[.ref a,.ref b,.ref c]∧(∃ xs,SqL K H1 a xs)∧(∃ ys,SqL K H1 b ys)∧(∃ us,SqL K H1 c us)∧R (Itz3 K a b c) H1
theorem bq7 (K:W.Frag) {a b c:Expr}{ta:TA}{p pos:Pos}(hg:Gl X "zip") (hm:X.mg "zip"=none) (ha:PA X [a,b,c] ta) (hs:starEach [a,b,c] X.env=[(false,eval a X.env),(false,eval b X.env),(false,eval c X.env)]:=by rfl) (hs2:starEach [b,c] X.env=[(false,eval b X.env),(false,eval c X.env)]:=by rfl) (hK:X.K=K:=by rfl) :
 PI X (.Tuple elts x1 tpos) (.Call (.Name "zip" p) [a,b,c] [] pos) (c33 K ta):=by
 subst hK
 intro pins s σ H R I h
 refine Call_ (ae7 I hg hm af8 (PyProof.Rows.callWith_type1 (thn (ha pos pins s σ H _ I h) fun us s1 ⟨vs,H1,I1,r1,q1⟩=>?_) (by rw [hs,hs2]) (by rw [hs2]; rfl)))
 obtain ⟨l1,l2,l3,e,⟨xs,hq1⟩,⟨ys,hq2⟩,⟨zs,hq3⟩,q⟩:=q1
 subst e
 cases r1 with
 | cons r1 rr =>
 cases rr with
 | cons r2 rr =>
 cases rr with
 | cons r3 rr =>
 cases rr
 cases r1
 cases r2
 cases r3
 obtain ⟨it1,rv1,p1,hz1⟩:=I1.list hq1
 obtain ⟨it2,rv2,p2,hz2⟩:=I1.list hq2
 obtain ⟨it3,rv3,p3,hz3⟩:=I1.list hq3
 have a1:l1<s1.heap.objs.size:=by obtain ⟨_,e,_⟩:=p1.isList; exact Heap.lt_size e
 have a2:l2<s1.heap.objs.size:=by obtain ⟨_,e,_⟩:=p2.isList; exact Heap.lt_size e
 have a3:l3<s1.heap.objs.size:=by obtain ⟨_,e,_⟩:=p3.isList; exact Heap.lt_size e
 refine b55 p1.isList p2.isList p3.isList fun h' b1 b2 b3 b4 b5 b6 hk=>?_
 refine wpAny_pyIter_zip b1 ?_
 have fp:∀ d,s1.heap.objs.size≤d→FpOk X pins H1 d:=fun d hd=>I1.fpOk hd (I1.hok.fresh hd)
 generalize s1.heap.objs.size=m at a1 a2 a3 b1 b2 b3 b4 b5 b6 fp ⊢
 have hA1:l1<m:=a1
 have hA2:l2<m:=a2
 have hA3:l3<m:=a3
 have ne:∀ {l k:Addr},l<m→l≠m+k:=fun {l k} h=>Nat.ne_of_lt (Nat.lt_of_lt_of_le h (Nat.le_add_right _ _))
 have D:Apt (m+5) (m+3) (m+4) m (m+1) (m+2) l1 l2 l3:=by
  constructor
  · simp
  · intro l hl
    have hlm:l<m:=by
     simp only [List.mem_cons,List.not_mem_nil,or_false] at hl
     rcases hl with rfl | rfl | rfl
     · exact hA1
     · exact hA2
     · exact hA3
    simp only [List.mem_cons,List.not_mem_nil,or_false,not_or]
    exact ⟨ne hlm,ne hlm,Nat.ne_of_lt hlm,ne hlm,ne hlm⟩
 refine ⟨m+5,[m+5,m+3,m+4,m,m+1,m+2],_,_,H1,rfl,I1.kept (t':=s1.toks) hk,ba8 l1 l2 l3 _ _ _ _ _ _ D (Nat.ne_of_lt hA1) (ne hA2) (ne hA3),⟨b1,b2,⟨_,_,_,b3⟩,b4,b5,b6⟩,fun d hd=>fp d ?_,q⟩
 simp only [List.mem_cons,List.not_mem_nil,or_false] at hd
 rcases hd with rfl | rfl | rfl | rfl | rfl | rfl
 · exact Nat.le_add_right _ _
 · exact Nat.le_add_right _ _
 · exact Nat.le_add_right _ _
 · exact Nat.le_refl _
 · exact Nat.le_add_right _ _
 · exact Nat.le_add_right _ _
end
theorem c34 {K:W.Frag}{σ:St} {H:Hp}{R:It→Hp→Prop}{ts:TA}(h:ts σ H fun vs H1=>∃ a b c,vs=[.ref a,.ref b,.ref c]∧(∃ xs,SqL K H1 a xs)∧(∃ ys,SqL K H1 b ys)∧(∃ us,SqL K H1 c us)∧R (Itz3 K a b c) H1):c33 K ts σ H R:=h
section
variable {X:Cx}{k v:Expr}{pos:Pos}{tk tv:TE}{P:Params}
end
def Each {α β:Type}(R:α→β→Prop) (vs:List α) (xs:List β):Prop:=vs.length=xs.length∧∀ (j:Nat) (v:α) (x:β),vs[j]?=some v→xs[j]?=some x→R v x
section
variable {α β:Type}{R:α→β→Prop}{vs:List α}{xs:List β}
theorem Each.nil:Each R ([]:List α) ([]:List β):=⟨rfl,fun j v x h=>by simp at h⟩
theorem Each.mono {R':α→β→Prop}(h:Each R vs xs) (k:∀ v x,R v x→R' v x):Each R' vs xs:=⟨h.1,fun j v x h1 h2=>k v x (h.2 j v x h1 h2)⟩
theorem Each.append {ws:List α}{ys:List β}(h:Each R vs xs) (k:Each R ws ys):Each R (vs++ws) (xs++ys):=by
 refine ⟨by simp [h.1,k.1],fun j v x h1 h2=>?_⟩
 by_cases hj:j<vs.length
 · rw [List.getElem?_append_left hj] at h1
   rw [List.getElem?_append_left (by rw [← h.1]; exact hj)] at h2
   exact h.2 j v x h1 h2
 · rw [List.getElem?_append_right (by omega)] at h1
   rw [List.getElem?_append_right (by rw [← h.1]; omega),←h.1] at h2
   exact k.2 _ v x h1 h2
theorem Each.snoc {v:α}{x:β}(h:Each R vs xs) (k:R v x):Each R (vs++[v]) (xs++[x]):=h.append ⟨rfl,fun j w y h1 h2=>by
 cases j with
 | zero=>cases h1; cases h2; exact k
 | succ j=>simp at h1⟩
theorem Each.get {j:Nat}{x:β}(h:Each R vs xs) (k:xs[j]?=some x):∃ v,vs[j]?=some v∧R v x:=by
 have hj:j<vs.length:=by rw [h.1]; exact (gS k).1
 exact ⟨vs[j],gE hj,h.2 j _ x (gE hj) k⟩
end
abbrev RRow:=List Str×Nat
abbrev RRoom:=Bool×List RRow
section
variable {f:Nat→Option Nat}{rep rk:Nat→Nat}
end
def hF (d:Addr):List (Str×V):=putF "heads" (.ref d) []
abbrev Pr:=Nat×Nat
def rCatU:R2:=fun x y H Q=>∃ a b xs ys,x=.ref a∧y=.ref b∧H a=some (.tup xs)∧H b=some (.tup ys)∧xs.length+ys.length≤sizeLine∧∀ c H',Same H H'→H' c=some (.tup (xs++ys))→Q (.ref c) H'
section
variable {X:Cx}
theorem bh8:OpR X (binaryOp .Add) rCatU:=by
 intro pins s σ H x y v u Q I rx ry h
 obtain ⟨a,b,xs,ys,rfl,rfl,ha,hb,hz,q⟩:=h
 cases rx
 cases ry
 obtain ⟨its,r1,p1,_⟩:=I.tuple (SqT.of ha)
 obtain ⟨its2,r2,p2,_⟩:=I.tuple (SqT.of hb)
 obtain ⟨⟨cls,dd,data,sl⟩,ho,hc,n,hd⟩:=id p1
 obtain ⟨⟨cls2,dd2,data2,sl2⟩,ho2,hc2,n2,hd2⟩:=id p2
 simp only at hc hd hc2 hd2
 subst hc hd hc2 hd2
 have e:its.toArray++its2.toArray=(its++its2).toArray:=by simp
 by_cases hv:its=[]
 · refine concat_meets ⟨_,ho,rfl⟩ ⟨_,ho2,rfl⟩ noFill_tuple_add seq_tuple_add PySem.F.slot_tuple_add PySem.F.entry_tuple_add (PySem.F.args_tuple_add_2 _ _)
    (tuple_addW0 a b its.toArray its2.toArray n n2 dd dd2 sl sl2 (by simp [hv])) ⟨ho,ho2,⟨.ref b,H,I,rfl,q b H (Same.refl _) ?_⟩⟩
   rw [r1.nil_iff.mp hv,List.nil_append]
   exact hb
 · by_cases hw:its2=[]
   · refine concat_meets ⟨_,ho,rfl⟩ ⟨_,ho2,rfl⟩ noFill_tuple_add seq_tuple_add PySem.F.slot_tuple_add PySem.F.entry_tuple_add (PySem.F.args_tuple_add_2 _ _)
      (tuple_addW1 a b its.toArray its2.toArray n n2 dd dd2 sl sl2 (by simpa using hv) (by simp [hw])) ⟨ho,ho2,⟨.ref a,H,I,rfl,q a H (Same.refl _) ?_⟩⟩
     rw [r2.nil_iff.mp hw,List.append_nil]
     exact ha
   · refine concat_meets ⟨_,ho,rfl⟩ ⟨_,ho2,rfl⟩ noFill_tuple_add seq_tuple_add PySem.F.slot_tuple_add PySem.F.entry_tuple_add (PySem.F.args_tuple_add_2 _ _)
      (tuple_addW2 a b its.toArray its2.toArray n n2 dd dd2 sl sl2 (by simpa using hv) (by simpa using hw) (by rw [List.size_toArray,List.size_toArray,←r1.length,←r2.length]; exact hz)) ⟨ho,ho2,?_⟩
     rw [e]
     have fr:=I.hok.fresh (Nat.le_refl s.heap.objs.size)
     refine ⟨.ref s.heap.objs.size,_,I.laid (t':=s.toks) (o:=.tup (xs++ys)) (fun b ob q=>gP _ q) (Nat.le_refl _) ?_,rfl,q _ _ (Same.new fr) a33⟩
     exact ⟨by rw [List.length_append]; exact hz,_,r1.append r2,IsTup.new _ _⟩
theorem ah1 {prog:Program}{w:World}{A:Around}{E:Value→Shared→Prop}{s:Shared}{t sl:Addr}{items:Array Value}{vl vu:Value}{lo hi:Option Int}{Q:Value→Shared→Prop}(ht:IsTup s.heap t items) (hs:s.heap.IsSliceOf sl vl vu .none) (pl:IsPart vl lo) (pu:IsPart vu hi)
 (hw:HT.sIx items.size 0 lo=0∧HT.sIx items.size items.size hi=items.size) (h:Q (.ref t) s):wpAny (model prog w) A (getItem (.ref t) (.ref sl)) Q E s:=by
 obtain ⟨os,hos,hcs,hds⟩:=id hs
 have hTs:s.TypeIs (.ref sl) "slice":=⟨os,hos,hcs⟩
 unfold getItem
 try with_reducible refine wpAny_holding ?_
 first | refine wB (wpAny_pure ?_) | skip
 refine wB (wpAny_sequenceKey ht.typeIs (by decide) ?_)
 refine wB (wpAny_callSpecial?_slot (name:=Str.ofString "__getitem__") ht.typeIs PyProof.Rows.slot_tuple_getitem
  (wpAny_call_entry PyProof.Rows.slot_tuple_getitem ht.typeIs PyProof.Rows.entry_tuple_getitem ?_ (PyProof.Rows.args_tuple_getitem _ _)))
 show wpAny _ _ (Builtin.Tuple.tupleItemsOf (.ref t) >>= _) _ _ s
 refine wB (PyProof.Rows.tupleItemsOf_ ht ?_)
 refine wB (wpAny_typeOf hTs ?_)
 rw [if_pos (by decide)]
 refine wB (HT.sliceApplied_gen hs pl pu ?_)
 have hyes:(((HT.sIx items.size 0 lo:Nat):Int) == 0 && (1:Int) == 1 && (HT.sIx items.size items.size hi - HT.sIx items.size 0 lo) == items.size)=true:=by
  rw [hw.1,hw.2]
  simp
 show wpAny _ _ (if (((HT.sIx items.size 0 lo:Nat):Int) == 0 && (1:Int) == 1 && (HT.sIx items.size items.size hi - HT.sIx items.size 0 lo) == items.size)=true then _ else _) _ _ s
 rw [if_pos hyes]
 refine wB ?_
 unfold Builtin.Tuple.tupleIsExact
 refine wB (wpAny_typeOf ht.typeIs (wpAny_pure ?_))
 rw [if_pos (by decide)]
 exact wB (wpAny_rule (wpAny_pure ⟨_,rfl,wpAny_pure h⟩))
def rSlU:V→Option Int→Option Int→Hp→VK→Prop:=fun x lo hi H Q=>∃ a xs,x=.ref a∧H a=some (.tup xs)∧∀ c H',Same H H'→H' c=some (.tup (cutV xs lo hi))→Q (.ref c) H'
theorem bh9:SlR X rSlU:=by
 intro pins s σ H x v vl vu lo hi sl Q I rx hs pl pu h
 obtain ⟨a,xs,rfl,hx,q⟩:=h
 by_cases hw:HT.sIx xs.length 0 lo=0∧HT.sIx xs.length xs.length hi=xs.length
 · cases rx
   obtain ⟨its,r,ht,hz⟩:=I.tuple (SqT.of hx)
   have hlen:its.toArray.size=xs.length:=by rw [List.size_toArray]; exact r.length.symm
   refine ⟨"tuple",_,PyProof.Rows.slot_tuple_getitem.lookup,ht.typeIs,?_⟩
   refine ah1 ht hs pl pu (by rw [hlen]; exact hw) ⟨.ref a,H,I,rfl,q a H (Same.refl _) ?_⟩
   have e:cutV xs lo hi=xs:=by
    unfold cutV
    rw [hw.1,hw.2,List.drop_zero,Nat.sub_zero,List.take_length]
   rw [e]
   exact hx
 · exact bw5 pins s σ H (.ref a) v vl vu lo hi sl Q I rx hs pl pu ⟨a,xs,rfl,SqT.of hx,hw,fun p hp=>q p _ (Same.new hp) a33⟩
end
section
variable {H:Hp}{Q:VK}
theorem c35 {a b:Addr}{xs ys:List V}(h1:H a=some (.tup xs)) (h2:H b=some (.tup ys)) (hz:xs.length+ys.length≤sizeLine) (h:∀ c H',Same H H'→H' c=some (.tup (xs++ys))→Q (.ref c) H'):rCatU (.ref a) (.ref b) H Q:=⟨a,b,xs,ys,rfl,rfl,h1,h2,hz,h⟩
theorem c88 {a:Addr}{xs:List V}{lo hi:Option Int}(h1:H a=some (.tup xs)) (h:∀ c H',Same H H'→H' c=some (.tup (cutV xs lo hi))→Q (.ref c) H'):rSlU (.ref a) lo hi H Q:=⟨a,xs,rfl,h1,h⟩
end
def TupK (K:W.Frag) (a:Addr) (xs:List V):Prop:=∃ (o:Obj) (its:Array Value) (n:Nat),K.lookup a=some o∧o.cls=.type "tuple"∧o.data=.seq its n∧its.size≤sizeLine∧Vals xs its.toList
theorem TupK.sq {K:W.Frag}{a:Addr}{xs:List V}(h:TupK K a xs) (H:Hp):SqT K H a xs:=.inr h
mutual
def Tr.AtK (K:W.Frag) (H:Hp):Tr→V→Prop
 | .non,v=>v=.non
 | .int i,v=>v=.int i
 | .str s,v=>v=.str s
 | .tup xs,v=>∃ a vs,v=.ref a∧(H a=some (.tup vs)∨TupK K a vs)∧Tr.AtsK K H xs vs
 | .lst _,_=>False
def Tr.AtsK (K:W.Frag) (H:Hp):List Tr→List V→Prop
 | [],vs=>vs=[]
 | x::xs,vs=>∃ v ws,vs=v::ws∧Tr.AtK K H x v∧Tr.AtsK K H xs ws
end
mutual
theorem Tr.AtK.mono {K:W.Frag}{H H':Hp}:∀ {x:Tr}{v:V},x.AtK K H v→Tups H H'→x.AtK K H' v
 | .non,_,h,_=>by simpa only [Tr.AtK] using h
 | .int _,_,h,_=>by simpa only [Tr.AtK] using h
 | .str _,_,h,_=>by simpa only [Tr.AtK] using h
 | .tup xs,v,h,k=>by
   simp only [Tr.AtK] at h ⊢
   obtain ⟨a,vs,e,g,r⟩:=h
   exact ⟨a,vs,e,g.imp (fun z=>k _ _ z) id,Tr.AtsK.mono r k⟩
 | .lst xs,v,h,k=>by simp only [Tr.AtK] at h
theorem Tr.AtsK.mono {K:W.Frag}{H H':Hp}:∀ {xs:List Tr}{vs:List V},Tr.AtsK K H xs vs→Tups H H'→Tr.AtsK K H' xs vs
 | [],_,h,_=>by simpa only [Tr.AtsK] using h
 | x::xs,vs,h,k=>by
   simp only [Tr.AtsK] at h ⊢
   obtain ⟨v,ws,e,a,b⟩:=h
   exact ⟨v,ws,e,Tr.AtK.mono a k,Tr.AtsK.mono b k⟩
end
mutual
theorem Tr.At.toK (K:W.Frag) {H:Hp}:∀ {x:Tr}{v:V},x.At H v []→x.AtK K H v
 | .non,_,h=>by simp only [Tr.At] at h; simp only [Tr.AtK]; exact h.1
 | .int _,_,h=>by simp only [Tr.At] at h; simp only [Tr.AtK]; exact h.1
 | .str _,_,h=>by simp only [Tr.At] at h; simp only [Tr.AtK]; exact h.1
 | .tup xs,v,h=>by
   simp only [Tr.At] at h
   simp only [Tr.AtK]
   obtain ⟨a,vs,e,g,r⟩:=h
   exact ⟨a,vs,e,.inl g,Tr.Ats.toK K r⟩
 | .lst xs,v,h=>(as5 (h:=h)).elim
theorem Tr.Ats.toK (K:W.Frag) {H:Hp}:∀ {xs:List Tr}{vs:List V},Tr.Ats H xs vs []→Tr.AtsK K H xs vs
 | [],_,h=>by simp only [Tr.Ats] at h; simp only [Tr.AtsK]; exact h.1
 | x::xs,vs,h=>by
   simp only [Tr.Ats] at h
   simp only [Tr.AtsK]
   obtain ⟨v,ws,f,g,e,e2,a,b⟩:=h
   have hf:f=[]∧g=[]:=by simpa using e2.symm
   obtain ⟨rfl,rfl⟩:=hf
   exact ⟨v,ws,e,Tr.At.toK K a,Tr.Ats.toK K b⟩
end
section
variable {X:Cx}{pins:List (Addr×Obj)}{σ:St} {H:Hp}{s:Shared}
mutual
theorem Tr.AtK.isIn (I:Inv X pins σ H s):∀ {t:Tr}{v:V}{u:Value},t.AtK X.K H v→RelV v u→Tr.In s.heap t u
 | .non,v,u,h,r=>by
   simp only [Tr.AtK] at h
   subst h
   cases r
   exact rfl
 | .int z,v,u,h,r=>by
   simp only [Tr.AtK] at h
   subst h
   obtain ⟨t,rfl⟩:=r
   exact .inl ⟨t,rfl⟩
 | .str z,v,u,h,r=>by
   simp only [Tr.AtK] at h
   subst h
   obtain ⟨t,rfl⟩:=r
   exact ⟨t,rfl⟩
 | .lst _,v,u,h,r=>by simp only [Tr.AtK] at h
 | .tup ts,v,u,h,r=>by
   simp only [Tr.AtK] at h
   obtain ⟨a,vs,rfl,e1,c1⟩:=h
   cases r
   obtain ⟨is1,q1,p1,_⟩:=I.tuple (show SqT X.K H a vs from e1.elim SqT.of (fun z=>z.sq H))
   simp only [Tr.In]
   exact ⟨a,is1.toArray,rfl,p1,by simpa using Tr.AtsK.isIns I c1 q1⟩
theorem Tr.AtsK.isIns (I:Inv X pins σ H s):∀ {ts:List Tr}{vs:List V}{us:List Value},Tr.AtsK X.K H ts vs→Vals vs us→Tr.Ins s.heap ts us
 | [],vs,us,c,q=>by
   simp only [Tr.AtsK] at c
   subst c
   cases q
   exact rfl
 | t::ts,vs,us,c,q=>by
   simp only [Tr.AtsK] at c
   obtain ⟨v,vs,rfl,a1,b1⟩:=c
   cases q with
   | cons r1 r2 =>
     simp only [Tr.Ins]
     exact ⟨_,_,rfl,Tr.AtK.isIn I a1 r1,Tr.AtsK.isIns I b1 r2⟩
end
end
def TKK (K:W.Frag) (H:Hp) (t:Tr) (y:V):Prop:=t.AtK K H y∧t.h≤8
def tTGetK (K:W.Frag) (P:Params) (td ty:TE):TE:=fun σ H Q=>td σ H fun x H1=>ty σ H1 fun y H2=>∃ a kvs t v,x=.ref a∧DtAt P H2 a kvs∧TKK K H2 t y∧valV kvs t=some v∧Q v H2
def tTInK (K:W.Frag) (P:Params) (ty td:TE):TE:=fun σ H Q=>ty σ H fun y H1=>td σ H1 fun x H2=>∃ a kvs t,x=.ref a∧DtAt P H2 a kvs∧TKK K H2 t y∧Q (.bl (valV kvs t).isSome) H2
def tTGet2K (K:W.Frag) (P:Params) (td ty tx:TE):TE:=fun σ H Q=>td σ H fun x H1=>∃ a kvs,x=.ref a∧DtAt P H1 a kvs∧ty σ H1 fun y H2=>tx σ H2 fun z H3=>∃ kvs' t,DtAt P H3 a kvs'∧TKK K H3 t y∧Q ((valV kvs' t).getD z) H3
def rEqFK (K:W.Frag):R2:=fun x y H Q=>∃ (t r:Tr),t.AtK K H x∧r.AtK K H y∧t.h≤20∧r.h≤20∧Q (.bl (decide (t=r))) H
section
variable {X:Cx}{pins:List (Addr×Obj)}{σ:St} {H:Hp}{s:Shared}{a:Addr}{t:Tr}{y v z:V}{u r:Value}{A:Around}{E:Value→Shared→Prop}{kvs:List (Tr×V)}{m:List (Tr×V×V)}
theorem ba9 {Q:Option Value→Shared→Prop}(hu:A.units+16<cLine) (I:Inv X pins σ H s) (g:DtAt X.w.params H a kvs) (hk:TKK X.K H t y) (ry:RelV y u) (h:∀ o s',Inv X pins σ H s'→RelO (valV kvs t) o→Q o s') :
 wpAny (model X.prog X.w) A (dictGet a u) Q E s:=by
 obtain ⟨m,rfl,e2,e3,e4⟩:=g
 obtain ⟨o,es,ep,q1,q2,q3,q4,q5,_⟩:=ak3 I e2 e3 e4
 have hin:=hk.1.isIn I ry
 unfold dictGet
 try (with_reducible refine wpAny_holding ?_)
 refine wB (hin.pyHash (by have:=hk.2; omega) fun n=>wB (aw4 (s:={ s with toks:=n }) q1 q3 q5 hin hk.2 hu (fun hn=>?_) fun j hj=>?_))
 · refine wpAny_pure (h _ _ (I.tok _) ?_)
   rw [(ak2 hn).1]
   exact True.intro
 · rw [gM] at hj
   obtain ⟨x,hx,rfl⟩:=gO hj
   obtain ⟨en,f1,f2,f3,f4⟩:=q4.at_ j x hx
   refine wB (wpAny_dictEntries (s:={ s with toks:=n }) q1 q3 ?_)
   rw [f1]
   refine wpAny_pure (h _ _ (I.tok _) ?_)
   rw [az1 e4 hx]
   exact f4
theorem b56 {Q:Value→Shared→Prop}(hu:A.units+20<cLine) (I:Inv X pins σ H s) (g:DtAt X.w.params H a kvs) (hk:TKK X.K H t y) (ry:RelV y u) (hv:valV kvs t=some v) (h:∀ w' s',Inv X pins σ H s'→RelV v w'→Q w' s') :
 wpAny (model X.prog X.w) A (getItem (.ref a) u) Q E s:=by
 obtain ⟨_,_,x,_,_,_⟩:=af9 I g
 have T:=x.ty
 unfold getItem
 try (with_reducible refine wpAny_holding ?_)
 refine wB (wpAny_sequenceKey T (by decide) (wB (wpAny_callSpecial?_slot (name:=Str.ofString "__getitem__") T slot_dict_getitem (wpAny_call_entry slot_dict_getitem T entry_dict_getitem ?_ (args_dict_getitem _ _)))))
 show wpAny _ A.in1 (dictGet a u >>= _) _ _ s
 refine wB (ba9 (by rw [a60]; omega) I g hk ry fun o s' I' ro=>?_)
 rw [hv] at ro
 obtain ⟨w',rfl,rw'⟩:=ro.some_of
 exact wpAny_pure ⟨w',rfl,wpAny_pure (h w' s' I' rw')⟩
theorem aw7 {Q:Bool→Shared→Prop}(hu:A.units+20<cLine) (I:Inv X pins σ H s) (g:DtAt X.w.params H a kvs) (hk:TKK X.K H t y) (ry:RelV y u) (h:∀ s',Inv X pins σ H s'→Q (valV kvs t).isSome s') :
 wpAny (model X.prog X.w) A (contains (.ref a) u) Q E s:=by
 obtain ⟨_,_,x,lo,_,_⟩:=af9 I g
 have T:=x.ty
 unfold contains
 try (with_reducible refine wpAny_holding ?_)
 refine wB (wpAny_specialOf T slot_dict_contains.lookup ?_)
 show wpAny _ A (if (some (Value.builtin "dict.__contains__") == some Value.none)=true then _ else _) _ E s
 rw [if_neg (by rw [beq_builtin_none]; simp)]
 refine wB (wpAny_callSpecialUnlessNone?_slot (name:=Str.ofString "__contains__") T slot_dict_contains (wpAny_call_entry slot_dict_contains T entry_dict_contains ?_ (args_dict_contains _ _)))
 show wpAny _ A.in1 (dictGet a u >>= _) _ _ s
 refine wB (ba9 (by rw [a60]; omega) I g hk ry fun o s' I' ro=>?_)
 have h:=h s' I'
 rw [ro.isSome_eq] at h
 cases o with
 | some w'=>exact (show wpAny _ _ (ret (.bool true)) _ _ _ from wpAny_pure ⟨_,rfl,wpAny_truthy_bool h⟩)
 | none=>exact (show wpAny _ _ (Builtin.Dict.pendingKey? a u >>= _) _ _ _ from wB (wpAny_pendingKey_other lo (wpAny_pure ⟨_,rfl,wpAny_truthy_bool h⟩)))
theorem c89 {Q:Value→Shared→Prop}(hu:A.units+20<cLine) (I:Inv X pins σ H s) (g:DtAt X.w.params H a kvs) (hk:TKK X.K H t y) (ry:RelV y u) (h:∀ s',Inv X pins σ H s'→Q (.bool (valV kvs t).isSome) s') :
 wpAny (model X.prog X.w) A (compareOp .In u (.ref a)) Q E s :=
 (show wpAny _ _ (do return .bool (← contains (.ref a) u)) Q E s from wB (aw7 hu I g hk ry fun s' I'=>wpAny_pure (h s' I')))
theorem bq8 {Q:Value→Shared→Prop}(hu:A.units+20<cLine) (I:Inv X pins σ H s) (g:DtAt X.w.params H a kvs) (hk:TKK X.K H t y) (ry:RelV y u) (rz:RelV z r) (h:∀ w' s',Inv X pins σ H s'→RelV ((valV kvs t).getD z) w'→Q w' s') :
 wpAny (model X.prog X.w) A (call (.builtin "dict.get") [.ref a,u,r]) Q E s:=by
 obtain ⟨_,_,x,lo,_,_⟩:=af9 I g
 refine wpAny_call_entry PySem.F.slot_dict_get x.ty PySem.F.entry_dict_get ?_ (PySem.F.args_dict_get_3 _ _ _)
 show wpAny _ A.in1 (dictGet a u >>= _) _ _ s
 refine wB (ba9 (by rw [a60]; omega) I g hk ry fun o s' I' ro=>?_)
 have h:=h (o.getD r) s' I' (ro.getD rz)
 cases o with
 | some w'=>exact wpAny_pure ⟨w',rfl,h⟩
 | none=>exact (show wpAny _ _ (Builtin.Dict.missed a u >>= _) _ _ _ from wB (wpAny_missed_other lo (wpAny_pure ⟨r,rfl,h⟩)))
end
section
variable {X:Cx}{o i e f value:Expr}{pos pos' apos cpos:Pos}{td ty tv tx:TE}{P:Params}
theorem bi0 (hP:X.w.params=P) (hu:X.A.units+64<cLine) (ho:PE X o td) (hi:PE X i ty) (hs:NoSl i):PE X (.Subscript o i pos) (tTGetK X.K P td ty):=by
 subst hP
 intro pins s σ H Q I h
 refine b86 PySem.F.slot_dict_getitem.lookup hs (thn (ho pins s σ H _ I h) fun u s1 ⟨x,H1,I1,rx,q1⟩=>thn (hi pins s1 σ H1 _ I1 q1) fun iv s2 ⟨y,H2,I2,ry,a,kvs,t,v,ex,g,hk,hv,q2⟩=>?_)
 subst ex
 obtain rfl:u=Value.ref a:=rx
 obtain ⟨_,_,x,_⟩:=af9 I2 g
 exact ⟨x.ty,b56 (by omega) I2 g hk ry hv fun w' s3 I3 rw'=>⟨v,H2,I3,rw',q2⟩⟩
theorem bq9 (hP:X.w.params=P) (hu:X.A.units+64<cLine) (hi:PE X i ty) (ho:PE X o td):PC X .In i o (tTInK X.K P ty td):=by
 subst hP
 intro pins s σ H Q I h
 refine thn (hi pins s σ H _ I h) fun iv s1 ⟨y,H1,I1,ry,q1⟩=>thn (ho pins s1 σ H1 _ I1 q1) fun u s2 ⟨x,H2,I2,rx,a,kvs,t,ex,g,hk,q2⟩=>?_
 subst ex
 obtain rfl:u=Value.ref a:=rx
 exact c89 (by omega) I2 g hk ry fun s3 I3=>⟨.bl _,H2,I3,rfl,q2⟩
theorem bb0 (hP:X.w.params=P) (hu:X.A.units+64<cLine) (ho:PE X o td) (he:PE X e ty) (hf:PE X f tx) (m:M2 X o "get" apos e f cpos):PE X (.Call (.Attribute o "get" apos) [e,f] [] cpos) (tTGet2K X.K P td ty tx):=by
 subst hP
 intro pins s σ H Q I h
 refine wpAny_Call_method m.base m.few m.line PySem.F.plainAttrs_dict PySem.F.slot_dict_get PySem.F.type_dict_get (thn (ho pins s σ H _ I h) fun u s1 ⟨x,H1,I1,rx,a,kvs,ex,g1,q1⟩=>?_)
 subst ex
 obtain rfl:u=Value.ref a:=rx
 obtain ⟨es,ep,x,_⟩:=af9 I1 g1
 refine ⟨x.ty,(fun b q=>by cases q; obtain ⟨ob,h1,h2,_⟩:=x; exact ⟨ob,h1,h2.2.1⟩),?_⟩
 rw [m.trees]
 refine Calls.callWith_builtin rfl (Calls.evalArgs_plain (Calls.spliced_cons (thn (he pins s1 σ H1 _ I1 q1) fun iv s2 ⟨y,H2,I2,ry,q2⟩=>Calls.spliced_cons (thn (hf pins s2 σ H2 _ I2 q2) fun fv s3 ⟨z,H3,I3,rz,kvs',t,g,hk,q3⟩=>Calls.spliced_nil ?_))))
 exact bq8 (by omega) I3 g hk ry rz fun w' s4 I4 rw'=>⟨_,H3,I4,rw',q3⟩
theorem bi1 (K:W.Frag) (hu:X.A.units+64<cLine) (hK:X.K=K:=by rfl):OpR X (compareOp .Eq) (rEqFK K):=by
 subst hK
 intro pins s σ H x y v u Q I rx ry h
 obtain ⟨t,r,h1,h2,l1,l2,q⟩:=h
 exact (h1.isIn I rx).rcAt (h2.isIn I ry) (A:=X.A) (by omega) X.prog X.w X.xe (EP X pins σ Q) ⟨.bl _,H,I,rfl,q⟩
theorem bi2 (K:W.Frag) (hP:X.w.params=P) (hu:X.A.units+64<cLine) (ho:PE X o td) (hi:PE X i ty) (hs:NoSl i) (hK:X.K=K:=by rfl):PE X (.Subscript o i pos) (tTGetK K P td ty):=hK ▸ bi0 hP hu ho hi hs
theorem br0 (K:W.Frag) (hP:X.w.params=P) (hu:X.A.units+64<cLine) (hi:PE X i ty) (ho:PE X o td) (hK:X.K=K:=by rfl):PC X .In i o (tTInK K P ty td):=hK ▸ bq9 hP hu hi ho
theorem bb1 (K:W.Frag) (hP:X.w.params=P) (hu:X.A.units+64<cLine) (ho:PE X o td) (he:PE X e ty) (hf:PE X f tx) (m:M2 X o "get" apos e f cpos) (hK:X.K=K:=by rfl):PE X (.Call (.Attribute o "get" apos) [e,f] [] cpos) (tTGet2K K P td ty tx):=hK ▸ bb0 hP hu ho he hf m
end
section
variable {K:W.Frag}{P:Params}{σ:St} {H:Hp}{Q:VK}{td ty tx tv:TE}
theorem br1 (h:td σ H fun x H1=>ty σ H1 fun y H2=>∃ a kvs t v,x=.ref a∧DtAt P H2 a kvs∧TKK K H2 t y∧valV kvs t=some v∧Q v H2):tTGetK K P td ty σ H Q:=h
theorem c36 (h:ty σ H fun y H1=>td σ H1 fun x H2=>∃ a kvs t,x=.ref a∧DtAt P H2 a kvs∧TKK K H2 t y∧Q (.bl (valV kvs t).isSome) H2):tTInK K P ty td σ H Q:=h
theorem bi3 (h:td σ H fun x H1=>∃ a kvs,x=.ref a∧DtAt P H1 a kvs∧ty σ H1 fun y H2=>tx σ H2 fun z H3=>∃ kvs' t,DtAt P H3 a kvs'∧TKK K H3 t y∧Q ((valV kvs' t).getD z) H3):tTGet2K K P td ty tx σ H Q:=h
theorem c37 {x y:V}{t r:Tr}(h1:t.AtK K H x) (h2:r.AtK K H y) (l1:t.h≤20) (l2:r.h≤20) (h:Q (.bl (decide (t=r))) H):rEqFK K x y H Q:=⟨t,r,h1,h2,l1,l2,h⟩
end
def rPart:V→List V→Hp→VK→Prop:=fun x vs H Q=>∃ z y,x=.str z∧vs=[.str y]∧(y.length == 0)=false∧z.length≤sizeLine∧New H (.tup [.str (Txt.partition z y).1,.str (Txt.partition z y).2.1,.str (Txt.partition z y).2.2]) Q
theorem br2 {X:Cx}:MtR X "str.partition" rPart:=by
 intro pins s σ H x vs v us Q I rx rv h
 obtain ⟨z,y,rfl,rfl,hy,hz,q⟩:=h
 obtain ⟨t,rfl⟩:=rx
 obtain ⟨u,rfl,ru⟩:=rv.one
 obtain ⟨t',rfl⟩:=ru
 refine call_meets F.slot_str_partition (typeIs_str _ _ _) F.entry_str_partition (F.args_str_partition_2 _ _) (meets_str_partition z y t t' hy hz) ?_
 have fr:=I.hok.fresh (Nat.le_refl s.heap.objs.size)
 have fin:∀ (ta tb tc:Tok) (k:Nat),EP X pins σ Q (.ref s.heap.objs.size) { s with toks:=k,heap:=s.heap.push { cls:=.type "tuple",data:=.seq [.str (Txt.partition z y).1 ta,.str (Txt.partition z y).2.1 tb,.str (Txt.partition z y).2.2 tc].toArray } }:=fun ta tb tc k =>
  ⟨.ref s.heap.objs.size,_,I.laid (t':=k) (o:=.tup [.str (Txt.partition z y).1,.str (Txt.partition z y).2.1,.str (Txt.partition z y).2.2]) (fun b ob q=>gP _ q) (Nat.le_refl _) ⟨le_line (by simp),[.str (Txt.partition z y).1 ta,.str (Txt.partition z y).2.1 tb,.str (Txt.partition z y).2.2 tc],.cons ⟨ta,rfl⟩ (.cons ⟨tb,rfl⟩ (.cons ⟨tc,rfl⟩ .nil)),IsTup.new _ _⟩,rfl,New.to q _ fr⟩
 unfold Txt.partition at fin
 revert fin
 cases Builtin.Str.occurrences z y 0 z.length 1 with
 | nil=>intro fin; exact fin _ _ _ _
 | cons i r=>intro fin; exact fin _ _ _ _
theorem bb2 {H:Hp}{Q:VK}{z y:Str}(hy:(y.length == 0)=false) (hz:z.length≤sizeLine) (h:New H (.tup [.str (Txt.partition z y).1,.str (Txt.partition z y).2.1,.str (Txt.partition z y).2.2]) Q):rPart (.str z) [.str y] H Q:=⟨z,y,rfl,rfl,hy,hz,h⟩
section
variable {prog:Program}{w:World}{A:Around}{E:Value→Shared→Prop}{s:Shared}
theorem ah2 {it l:Addr}{i:Nat}{items}{x:Value}{Q:Value→Shared→Prop}(hit:s.heap.IsTupleIter it l i)
 (hl:s.heap.IsTuple l items) (hx:items[i]?=some x)
 (hQ:∀ h',h'.IsTupleIter it l (i+1)→Heap.SameBut it s.heap h'→Q x { s with heap:=h' }) :
 wpAny (model prog w) A (Builtin.SmallTypes.nextOf (.ref it)) Q E s:=by
 obtain ⟨o,ho,hc,hd⟩:=id hit
 obtain ⟨ol,hol,_,nl,hdl⟩:=hl
 unfold Builtin.SmallTypes.nextOf
 refine wB (wpAny_callSpecial?_slot (name:=Str.ofString "__next__") hit.typeIs F.slot_tuple_iterator_next
  (wpAny_call_entry F.slot_tuple_iterator_next hit.typeIs F.entry_tuple_iterator_next ?_ (F.args_tuple_iterator_next_1 _)))
 show wpAny _ _ (field (.ref it) 0 >>= _) _ _ s
 refine wB (wpAny_field ho hd (x:=.ref l) rfl ?_)
 show wpAny _ _ (if (Value.ref l == Value.none)=true then _ else _) _ _ s
 rw [if_neg (show ¬ ((Value.ref l == Value.none)=true) from Bool.false_ne_true)]
 show wpAny _ _ (field (.ref it) 1 >>= _) _ _ s
 refine wB (wpAny_field ho hd (x:=.int i 0) rfl ?_)
 show wpAny _ _ (seqItems? (.ref l) >>= _) _ _ s
 refine wB (wpAny_seqItems hol hdl ?_)
 simp only [Int.toNat_natCast,hx]
 refine wB (wpAny_setField ho hd (by simp) (wpAny_pure ⟨x,rfl,wpAny_pure (hQ _ ?_ (Heap.SameBut.update ..))⟩))
 exact ⟨_,Heap.get?_update_self _ ho (Obj.isFreed_of_fields (Obj.data_mapFields hd _)),(Obj.cls_mapFields ..).trans hc,by
  rw [Obj.data_mapFields hd]; simp [rawInt]⟩
theorem ai2 {it l:Addr}{i:Nat}{items}{Q:Value→Shared→Prop}(hh:A.handled=none)
 (hit:s.heap.IsTupleIter it l i) (hl:s.heap.IsTuple l items) (hx:items[i]?=none)
 (hE:∀ h' e,Heap.ExtBut it s.heap h'→(∃ o,h'.get? e=some o∧o.cls=.type "StopIteration")→E (.ref e) { s with heap:=h' }) :
 wpAny (model prog w) A (Builtin.SmallTypes.nextOf (.ref it)) Q E s:=by
 obtain ⟨o,ho,hc,hd⟩:=id hit
 obtain ⟨ol,hol,_,nl,hdl⟩:=hl
 unfold Builtin.SmallTypes.nextOf
 refine wB (wpAny_callSpecial?_slot (name:=Str.ofString "__next__") hit.typeIs F.slot_tuple_iterator_next
  (wpAny_call_entry F.slot_tuple_iterator_next hit.typeIs F.entry_tuple_iterator_next ?_ (F.args_tuple_iterator_next_1 _)))
 show wpAny _ _ (field (.ref it) 0 >>= _) _ _ s
 refine wB (wpAny_field ho hd (x:=.ref l) rfl ?_)
 show wpAny _ _ (if (Value.ref l == Value.none)=true then _ else _) _ _ s
 rw [if_neg (show ¬ ((Value.ref l == Value.none)=true) from Bool.false_ne_true)]
 show wpAny _ _ (field (.ref it) 1 >>= _) _ _ s
 refine wB (wpAny_field ho hd (x:=.int i 0) rfl ?_)
 show wpAny _ _ (seqItems? (.ref l) >>= _) _ _ s
 refine wB (wpAny_seqItems hol hdl ?_)
 simp only [Int.toNat_natCast,hx]
 refine wB (wpAny_rule (wB (wpAny_setField ho hd (by simp) ?_)))
 show wpAny _ _ (newExc (.type "StopIteration") [] >>= _) _ _ _
 refine wB ?_
 simp only [newExc,newTuple]
 refine wB (wpAny_newObj_type ?_ (by size_fits))
 refine wB (m:=firstArgMember _ _) (wpAny_of_eq (a:=Value.none) (by first | rfl | (simp only [firstArgMember]; rfl)) ?_)
 refine wpAny_newObj_type ?_ (by size_fits)
 simp only [raiseNew]
 refine wB (wpAny_handled ?_)
 first | rw [show A.in1.handled=none from hh] | rw [hh]
 refine wB (wpAny_pure (wpAny_throw ?_))
 exact hE _ _ (((Heap.SameBut.update ..).extBut.push _).push _) ⟨_,Heap.get?_push_size _ rfl,rfl⟩
end
theorem ah3 {h h':Heap}{a t:Addr}{i:Nat}(x:h.IsTupleIter a t i) (k:∀ o,h.get? a=some o→h'.get? a=some o):h'.IsTupleIter a t i:=let ⟨o,ho,r⟩:=x; ⟨o,k o ho,r⟩
theorem ag2 {prog:Program}{w:World}{it l:Addr}{xs:Array Value}(hn:l≠it):ItS prog w it l xs (fun k h=>h.IsTupleIter it l k∧h.IsTuple l xs) where
 keep:=fun ⟨h1,h2⟩ k=>⟨ah3 h1 fun o e=>k it o (.inl rfl) e,by obtain ⟨o,e,r⟩:=h2; exact ⟨o,k l o (.inr rfl) e,r⟩⟩
 item:=fun ⟨h1,h2⟩ e q=>ah2 h1 h2 e fun h' a b=>q h' ⟨a,h2.extBut b.extBut hn⟩ b
 done:=fun hA ⟨h1,h2⟩ e q=>ai2 hA h1 h2 e q
theorem at0 (l:Addr) (xs:Array Value):SrcO l { cls:=.type "tuple_iterator",data:=.fields #[.ref l,.int 0 0] } (fun h=>h.IsTuple l xs) where
 push:=fun h=>h.push _
 iter:=fun p q=>wpAny_pyIter_tuple p q
theorem aw8 {prog:Program}{w:World}{A:Around}{E:Value→Shared→Prop}{s:Shared}{l1 l2 l3:Addr}{xs ys us:Array Value}{Q:Value→Shared→Prop}(p1:s.heap.IsList l1 xs) (p2:s.heap.IsTuple l2 ys) (p3:s.heap.IsList l3 us)
 (q:∀ h':Heap,IsZip h' (s.heap.objs.size+5) (s.heap.objs.size+3) (s.heap.objs.size+4) .none→IsTri h' (s.heap.objs.size+3) (.ref s.heap.objs.size) (.ref (s.heap.objs.size+1)) (.ref (s.heap.objs.size+2))→IsTri h' (s.heap.objs.size+4) .none .none .none →
  h'.IsListIter s.heap.objs.size l1 0→h'.IsTupleIter (s.heap.objs.size+1) l2 0→h'.IsListIter (s.heap.objs.size+2) l3 0→(∀ (c:Addr) (o:Obj),s.heap.get? c=some o→h'.get? c=some o)→Q (.ref (s.heap.objs.size+5)) { s with heap:=h' }) :
 wpAny (model prog w) A (call (.type "zip") [.ref l1,.ref l2,.ref l3]) Q E s:=by
 refine callType_new F.called_zip (by decide) (ad9 _ _ _) (ag1 _ _ _) (fun obj=>ak8 _ _ _ _) F.entry_zip_new (ao0 (ad4 l1 xs) (at0 l2 ys) (ad4 l3 us)) ⟨p1,p2,p3,?_⟩
 have e5:(z3H s.heap { cls:=.type "list_iterator",data:=.fields #[.ref l1,.int 0 0] } { cls:=.type "tuple_iterator",data:=.fields #[.ref l2,.int 0 0] } { cls:=.type "list_iterator",data:=.fields #[.ref l3,.int 0 0] }).get? (s.heap.objs.size+5)=some { cls:=.type "zip",data:=.fields #[.none,.bool false,.bool false,.ref (s.heap.objs.size+3),.ref (s.heap.objs.size+4)] }:=by
  have:=Heap.get?_push_size (((((s.heap.push { cls:=.type "list_iterator",data:=.fields #[.ref l1,.int 0 0] }).push { cls:=.type "tuple_iterator",data:=.fields #[.ref l2,.int 0 0] }).push { cls:=.type "list_iterator",data:=.fields #[.ref l3,.int 0 0] }).push { cls:=.type "tuple",data:=.seq #[.ref s.heap.objs.size,.ref (s.heap.objs.size+1),.ref (s.heap.objs.size+2)] }).push { cls:=.type "tuple",data:=.seq #[.none,.none,.none] }) (o:={ cls:=.type "zip",data:=.fields #[.none,.bool false,.bool false,.ref (s.heap.objs.size+3),.ref (s.heap.objs.size+4)] }) rfl
  simp only [Heap.size_push] at this
  exact this
 refine ⟨⟨_,e5,rfl⟩,q _ e5 ?_ ?_ ?_ ?_ ?_ ?_⟩
 · have:=Heap.get?_push_size ((((s.heap.push { cls:=.type "list_iterator",data:=.fields #[.ref l1,.int 0 0] }).push { cls:=.type "tuple_iterator",data:=.fields #[.ref l2,.int 0 0] }).push { cls:=.type "list_iterator",data:=.fields #[.ref l3,.int 0 0] })) (o:={ cls:=.type "tuple",data:=.seq #[.ref s.heap.objs.size,.ref (s.heap.objs.size+1),.ref (s.heap.objs.size+2)] }) rfl
   simp only [Heap.size_push] at this
   exact gP _ (gP _ this)
 · have:=Heap.get?_push_size ((((s.heap.push { cls:=.type "list_iterator",data:=.fields #[.ref l1,.int 0 0] }).push { cls:=.type "tuple_iterator",data:=.fields #[.ref l2,.int 0 0] }).push { cls:=.type "list_iterator",data:=.fields #[.ref l3,.int 0 0] }).push { cls:=.type "tuple",data:=.seq #[.ref s.heap.objs.size,.ref (s.heap.objs.size+1),.ref (s.heap.objs.size+2)] }) (o:={ cls:=.type "tuple",data:=.seq #[.none,.none,.none] }) rfl
   simp only [Heap.size_push] at this
   exact gP _ this
 · refine ⟨_,gP _ (gP _ (gP _ (gP _ (gP _ (Heap.get?_push_size s.heap rfl))))),rfl,rfl⟩
 · have:=Heap.get?_push_size (s.heap.push { cls:=.type "list_iterator",data:=.fields #[.ref l1,.int 0 0] }) (o:={ cls:=.type "tuple_iterator",data:=.fields #[.ref l2,.int 0 0] }) rfl
   simp only [Heap.size_push] at this
   exact ⟨_,gP _ (gP _ (gP _ (gP _ this))),rfl,rfl⟩
 · have:=Heap.get?_push_size ((s.heap.push { cls:=.type "list_iterator",data:=.fields #[.ref l1,.int 0 0] }).push { cls:=.type "tuple_iterator",data:=.fields #[.ref l2,.int 0 0] }) (o:={ cls:=.type "list_iterator",data:=.fields #[.ref l3,.int 0 0] }) rfl
   simp only [Heap.size_push] at this
   exact ⟨_,gP _ (gP _ (gP _ this)),rfl,rfl⟩
 · intro c o e
   exact gP _ (gP _ (gP _ (gP _ (gP _ (gP _ e)))))
def Itz3t (K:W.Frag) (a b c:Addr):It :=
 ⟨fun i H=>∃ xs ys us x y u,SqL K H a xs∧SqT K H b ys∧SqL K H c us∧xs[i]?=some x∧ys[i]?=some y∧us[i]?=some u,
  fun i H v H'=>∃ p x y u,v=.ref p∧H p=none∧Same H H'∧H' p=some (.tup [x,y,u])∧(∀ xs,SqL K H a xs→xs[i]?=some x)∧(∀ ys,SqT K H b ys→ys[i]?=some y)∧∀ us,SqL K H c us→us[i]?=some u,
  fun i H=>∃ xs ys us,SqL K H a xs∧SqT K H b ys∧SqL K H c us∧(xs.length≤i∨ys.length≤i∨us.length≤i)⟩
theorem b57 {P:Program}{w:World}{K:W.Frag}{elts:List Expr}{x1:Nat}{pos:Pos}(a b c z TI TO i1 i2 i3:Addr) (D:Apt z TI TO i1 i2 i3 a b c) (E1:a≠i1) (E2:b≠i2) (E3:c≠i3) :
 Turn P w K (.Tuple elts x1 pos) (Itz3t K a b c) [z,TI,TO,i1,i2,i3] z (fun i h=>IsZip h z TI TO .none∧IsTri h TI (.ref i1) (.ref i2) (.ref i3)∧(∃ a b c,IsTri h TO a b c)∧h.IsListIter i1 a i∧h.IsTupleIter i2 b i∧h.IsListIter i3 c i) where
 mem:=by simp
 obj:=fun i h st d hd=>by
  obtain ⟨hz,hTI,⟨a,b,c,hTO⟩,⟨o1,h1,_,d1⟩,⟨o2,h2,_,d2⟩,o3,h3,_,d3⟩:=st
  rcases (by simpa using hd:d=z∨d=TI∨d=TO∨d=i1∨d=i2∨d=i3) with rfl | rfl | rfl | rfl | rfl | rfl
  · exact ⟨_,hz,fun v q=>by cases q⟩
  · exact ⟨_,hTI,fun v q=>by cases q⟩
  · exact ⟨_,hTO,fun v q=>by cases q⟩
  · exact ⟨_,h1,fun v q=>by rw [d1] at q; cases q⟩
  · exact ⟨_,h2,fun v q=>by rw [d2] at q; cases q⟩
  · exact ⟨_,h3,fun v q=>by rw [d3] at q; cases q⟩
 keep:=fun i h h' st k=>by
  obtain ⟨hz,hTI,⟨a,b,c,hTO⟩,h1,h2,h3⟩:=st
  exact ⟨k z (by simp) _ hz,k TI (by simp) _ hTI,⟨a,b,c,k TO (by simp) _ hTO⟩,h1.at fun o x=>k i1 (by simp) o x,ah3 h2 fun o x=>k i2 (by simp) o x,h3.at fun o x=>k i3 (by simp) o x⟩
 item:=by
  intro X hP hw hK hc i pins s σ H E I hf st hg
  subst hP hw hK
  obtain ⟨xs,ys,us,x,y,u,hqa,hqb,hqc,hx,hy,hu⟩:=hg
  obtain ⟨it1,rv1,p1,hz1⟩:=I.list hqa
  obtain ⟨it2,rv2,p2,hz2⟩:=I.tuple hqb
  obtain ⟨it3,rv3,p3,hz3⟩:=I.list hqc
  obtain ⟨u1,hu1,ru1⟩:=rv1.get hx
  obtain ⟨u2,hu2,ru2⟩:=rv2.get hy
  obtain ⟨u3,hu3,ru3⟩:=rv3.get hu
  obtain ⟨hz,hTI,⟨a',b',c',hTO⟩,h1,h2,h3⟩:=st
  have fr:H s.heap.objs.size=none:=I.hok.fresh (Nat.le_refl _)
  have lt:∀ d∈[z,TI,TO,i1,i2,i3],d<s.heap.objs.size:=fun d hd=>by
   obtain ⟨o1,e1,_⟩:=h1
   obtain ⟨o2,e2,_⟩:=h2
   obtain ⟨o3,e3,_⟩:=h3
   rcases (by simpa using hd:d=z∨d=TI∨d=TO∨d=i1∨d=i2∨d=i3) with rfl | rfl | rfl | rfl | rfl | rfl
   · exact Heap.lt_size hz
   · exact Heap.lt_size hTI
   · exact Heap.lt_size hTO
   · exact Heap.lt_size e1
   · exact Heap.lt_size e2
   · exact Heap.lt_size e3
  refine ac2 (k:=i) D (a97 (xs:=it1.toArray) E1) (ag2 (xs:=it2.toArray) E2) (a97 (xs:=it3.toArray) E3) hz hTI hTO ⟨h1,p1.isList⟩ ⟨h2,p2⟩ ⟨h3,p3.isList⟩ (x:=u1) (y:=u2) (u:=u3) (by simpa using hu1) (by simpa using hu2) (by simpa using hu3) fun h' a1 a2 a3 a4 a5 a6 a7 hk=>?_
  have I1:Inv X pins σ H { s with heap:=h' }:=I.turnedL (t':=s.toks) (ch:=[z,TI,TO,i1,i2,i3]) (fun d o hd q=>hk d o (fun e=>hd (by simp at e ⊢; rcases e with e | e | e | e | e <;> simp [e])) q) hf
  have I2:Inv X pins σ (upd H s.heap.objs.size (.tup [x,y,u])) { s with heap:=h' }:=I1.adopt (o:=.tup [x,y,u]) fr I.sz (Nat.ne_of_gt I.lt) (fun n c ec e=>by
   obtain ⟨v,q⟩:=I.cell n c ec
   exact absurd q.lt (by rw [e]; exact Nat.lt_irrefl _)) (fun q hq e=>absurd (Heap.lt_size (I.pin q hq).1) (by rw [e]; exact Nat.lt_irrefl _))
   ⟨le_line (by simp),[u1,u2,u3],.cons ru1 (.cons ru2 (.cons ru3 .nil)),⟨_,a6,rfl,_,rfl⟩⟩
  have hf2:∀ d∈[z,TI,TO,i1,i2,i3],FpOk X pins (upd H s.heap.objs.size (.tup [x,y,u])) d:=fun d hd=>⟨by rw [a09 (Nat.ne_of_lt (lt d hd))]; exact (hf d hd).1,(hf d hd).2⟩
  obtain ⟨nd,_⟩:=D
  simp only [List.nodup_cons,List.mem_cons,List.not_mem_nil,or_false,not_or,List.nodup_nil,and_true] at nd
  obtain ⟨⟨n1,n2,n3,n4,n5⟩,⟨n6,n7,n8,n9⟩,⟨n10,n11,n12⟩,⟨n13,n14⟩,n15,_⟩:=nd
  refine ⟨_,rfl,wpAny_letOwnedTupleGo_zip a1 fun h2' hz' hs'=>⟨.ref s.heap.objs.size,_,I2.turnedL (t':=s.toks) (ch:=[z]) (fun d o hd q=>(hs'.2 d (fun e=>hd (by simp [e]))).trans q) (fun d hd=>hf2 d (by simp at hd; simp [hd])),rfl,⟨s.heap.objs.size,x,y,u,rfl,fr,Same.new fr,a33,fun q hq=>by rw [I.list_inj hq hqa]; exact hx,fun q hq=>by rw [I.tuple_inj hq hqb]; exact hy,fun q hq=>by rw [I.list_inj hq hqc]; exact hu⟩,⟨hz',a02 hs' (Ne.symm n1) (hk _ _ (by simp [Ne.symm n1,n6,n7,n8,n9]) hTI),⟨_,_,_,a02 hs' (Ne.symm n2) a2⟩,a3.1.extBut hs'.extBut (Ne.symm n3),a4.1.extBut hs'.extBut (Ne.symm n4),a5.1.extBut hs'.extBut (Ne.symm n5)⟩,fun d hd=>(hf2 d hd).1⟩⟩
 done:=by
  intro X hP hw hK hc i pins s σ H E I hf st hg
  subst hP hw hK
  obtain ⟨xs,ys,us,hqa,hqb,hqc,hx⟩:=hg
  obtain ⟨it1,rv1,p1,hz1⟩:=I.list hqa
  obtain ⟨it2,rv2,p2,hz2⟩:=I.tuple hqb
  obtain ⟨it3,rv3,p3,hz3⟩:=I.list hqc
  obtain ⟨hz,hTI,⟨a',b',c',hTO⟩,h1,h2,h3⟩:=st
  have l1:=rv1.length
  have l2:=rv2.length
  have l3:=rv3.length
  refine ac6 (k:=i) (I.ok.hd hc) D (a97 (xs:=it1.toArray) E1) (ag2 (xs:=it2.toArray) E2) (a97 (xs:=it3.toArray) E3) hz hTI hTO ⟨h1,p1.isList⟩ ⟨h2,p2⟩ ⟨h3,p3.isList⟩ ?_ fun h' hk=>⟨rfl,I.turnedL (t':=s.toks) (ch:=[z,TI,TO,i1,i2,i3]) (fun d o hd q=>hk d o (fun e=>hd (by simp at e ⊢; rcases e with e | e | e | e | e <;> simp [e])) q) hf⟩
  rcases hx with e | e | e
  · exact .inl (by simp; omega)
  · exact .inr (.inl (by simp; omega))
  · exact .inr (.inr (by simp; omega))
 self:=fun A i s Q E st h=>wpAny_pyIter_zip st.1 h
section
variable {X:Cx}{elts:List Expr}{x1:Nat}{tpos:Pos}
def iZip3t (K:W.Frag) (ta:TA):TI:=fun σ H R=>ta σ H fun vs H1=>∃ a b c,vs=[.ref a,.ref b,.ref c]∧(∃ xs,SqL K H1 a xs)∧(∃ ys,SqT K H1 b ys)∧(∃ us,SqL K H1 c us)∧R (Itz3t K a b c) H1
theorem az5 (K:W.Frag) {a b c:Expr}{ta:TA}{p pos:Pos}(hg:Gl X "zip") (hm:X.mg "zip"=none) (ha:PA X [a,b,c] ta) (hs:starEach [a,b,c] X.env=[(false,eval a X.env),(false,eval b X.env),(false,eval c X.env)]:=by rfl) (hs2:starEach [b,c] X.env=[(false,eval b X.env),(false,eval c X.env)]:=by rfl) (hK:X.K=K:=by rfl) :
 PI X (.Tuple elts x1 tpos) (.Call (.Name "zip" p) [a,b,c] [] pos) (iZip3t K ta):=by
 subst hK
 intro pins s σ H R I h
 refine Call_ (ae7 I hg hm af8 (PyProof.Rows.callWith_type1 (thn (ha pos pins s σ H _ I h) fun us s1 ⟨vs,H1,I1,r1,q1⟩=>?_) (by rw [hs,hs2]) (by rw [hs2]; rfl)))
 obtain ⟨l1,l2,l3,e,⟨xs,hq1⟩,⟨ys,hq2⟩,⟨zs,hq3⟩,q⟩:=q1
 subst e
 cases r1 with
 | cons r1 rr =>
 cases rr with
 | cons r2 rr =>
 cases rr with
 | cons r3 rr =>
 cases rr
 cases r1
 cases r2
 cases r3
 obtain ⟨it1,rv1,p1,hz1⟩:=I1.list hq1
 obtain ⟨it2,rv2,p2,hz2⟩:=I1.tuple hq2
 obtain ⟨it3,rv3,p3,hz3⟩:=I1.list hq3
 have a1:l1<s1.heap.objs.size:=by obtain ⟨_,e,_⟩:=p1.isList; exact Heap.lt_size e
 have a2:l2<s1.heap.objs.size:=by obtain ⟨_,e,_⟩:=p2; exact Heap.lt_size e
 have a3:l3<s1.heap.objs.size:=by obtain ⟨_,e,_⟩:=p3.isList; exact Heap.lt_size e
 refine aw8 p1.isList p2 p3.isList fun h' b1 b2 b3 b4 b5 b6 hk=>?_
 refine wpAny_pyIter_zip b1 ?_
 have fp:∀ d,s1.heap.objs.size≤d→FpOk X pins H1 d:=fun d hd=>I1.fpOk hd (I1.hok.fresh hd)
 generalize s1.heap.objs.size=m at a1 a2 a3 b1 b2 b3 b4 b5 b6 fp ⊢
 have hA1:l1<m:=a1
 have hA2:l2<m:=a2
 have hA3:l3<m:=a3
 have ne:∀ {l k:Addr},l<m→l≠m+k:=fun {l k} h=>Nat.ne_of_lt (Nat.lt_of_lt_of_le h (Nat.le_add_right _ _))
 have D:Apt (m+5) (m+3) (m+4) m (m+1) (m+2) l1 l2 l3:=by
  constructor
  · simp
  · intro l hl
    have hlm:l<m:=by
     simp only [List.mem_cons,List.not_mem_nil,or_false] at hl
     rcases hl with rfl | rfl | rfl
     · exact hA1
     · exact hA2
     · exact hA3
    simp only [List.mem_cons,List.not_mem_nil,or_false,not_or]
    exact ⟨ne hlm,ne hlm,Nat.ne_of_lt hlm,ne hlm,ne hlm⟩
 refine ⟨m+5,[m+5,m+3,m+4,m,m+1,m+2],_,_,H1,rfl,I1.kept (t':=s1.toks) hk,b57 l1 l2 l3 _ _ _ _ _ _ D (Nat.ne_of_lt hA1) (ne hA2) (ne hA3),⟨b1,b2,⟨_,_,_,b3⟩,b4,b5,b6⟩,fun d hd=>fp d ?_,q⟩
 simp only [List.mem_cons,List.not_mem_nil,or_false] at hd
 rcases hd with rfl | rfl | rfl | rfl | rfl | rfl
 · exact Nat.le_add_right _ _
 · exact Nat.le_add_right _ _
 · exact Nat.le_add_right _ _
 · exact Nat.le_refl _
 · exact Nat.le_add_right _ _
 · exact Nat.le_add_right _ _
end
theorem br3 {K:W.Frag}{σ:St} {H:Hp}{R:It→Hp→Prop}{ts:TA}(h:ts σ H fun vs H1=>∃ a b c,vs=[.ref a,.ref b,.ref c]∧(∃ xs,SqL K H1 a xs)∧(∃ ys,SqT K H1 b ys)∧(∃ us,SqL K H1 c us)∧R (Itz3t K a b c) H1):iZip3t K ts σ H R:=h
theorem at1 {K:W.Frag}{a b c:Addr}{xs ys us:List V}{g:TG}{tb:TS}{D:Ends}{σ:St} {H:Hp}(hz:xs.length=ys.length) (hz2:xs.length=us.length) (Pv:Nat→St→Hp→Prop) (h0:Pv 0 σ H) (hl:∀ i σ H,i≤xs.length→Pv i σ H→SqL K H a xs∧SqT K H b ys∧SqL K H c us)
 (hs:∀ i x y u σ H q H2,xs[i]?=some x→ys[i]?=some y→us[i]?=some u→Pv i σ H→Same H H2→H2 q=some (.tup [x,y,u])→g (.ref q) σ H2 fun σ1 H1=>tb { D with nx:=Pv (i+1),ct:=Pv (i+1),bk:=D.nx } σ1 H1)
 (hd:∀ σ H,Pv xs.length σ H→D.nx σ H):ForEnd (Itz3t K a b c) g tb D σ H:=by
 refine ⟨fun i m σ H=>m=xs.length - i∧i≤xs.length∧Pv i σ H,⟨xs.length,by simp,Nat.zero_le _,h0⟩,?_⟩
 rintro i m σ' H' ⟨rfl,hi,p⟩
 obtain ⟨q1,q2,q3⟩:=hl i σ' H' hi p
 by_cases hlt:i<xs.length
 · refine .inr ⟨⟨xs,ys,us,xs[i],ys[i]'(by omega),us[i]'(by omega),q1,q2,q3,by simp [hlt],gE _,gE _⟩,Pv (i+1),fun σ2 H2 p'=>⟨xs.length - (i+1),by omega,rfl,hlt,p'⟩,fun v H2 yy=>?_⟩
   obtain ⟨q,x,y,u,rfl,hn,sm,hT,hx,hy,hu⟩:=yy
   exact hs i x y u σ' H' q H2 (hx xs q1) (hy ys q2) (hu us q3) p sm hT
 · have e:i=xs.length:=by omega
   subst e
   exact .inl ⟨⟨xs,ys,us,q1,q2,q3,.inl (Nat.le_refl _)⟩,hd σ' H' p⟩
theorem bm1 {K:W.Frag}{a b:Addr}{xs ys:List V}{te:TE}{tt:TT}{caps:List Nat}{σ:St} {H:Hp}{Q:VK}(hl2:xs.length=ys.length) (hz:xs.length≤sizeLine) (Pv:Nat→List V→Hp→Prop) (h0:Pv 0 [] H) (hl:∀ i acc H,Pv i acc H→acc.length≤i∧SqL K H a xs∧SqL K H b ys)
 (hs:∀ i x z acc H H2,xs[i]?=some x→ys[i]?=some z→Pv i acc H→Same H H2→tt (some x::some z::capV caps σ) H2 fun b H4=>if b=true then te (some x::some z::capV caps σ) H4 fun y H5=>Pv (i+1) (acc++[y]) H5 else Pv (i+1) acc H4)
 (hd:∀ acc H,Pv xs.length acc H→New H (.lst acc) Q):CompEnd (Itz K a b) (gTup K 2 (gCons (gName 0) (gCons (gName 1) gNil))) tt te 2 caps σ H Q:=by
 refine ⟨fun i m acc σ' H=>m=xs.length - i∧i≤xs.length∧(∃ u v,σ'=u::v::capV caps σ)∧Pv i acc H,⟨xs.length,by simp,Nat.zero_le _,⟨none,none,rfl⟩,h0⟩,?_⟩
 rintro i m acc σ' H' ⟨rfl,hi,⟨u0,v0,rfl⟩,p⟩
 obtain ⟨hl1,hq,hq2⟩:=hl i acc H' p
 by_cases hlt:i<xs.length
 · have hlt2:i<ys.length:=by omega
   refine .inr ⟨⟨xs,ys,xs[i],ys[i],hq,hq2,by simp [hlt],by simp [hlt2]⟩,by omega,fun ac σ2 H2=>(∃ u v,σ2=u::v::capV caps σ)∧Pv (i+1) ac H2,fun ac σ2 H2 ⟨e,p'⟩=>⟨xs.length - (i+1),by omega,rfl,hlt,e,p'⟩,fun x H2 y=>?_⟩
   obtain ⟨q,x,z,rfl,hn,sm,hT,hx,hy⟩:=y
   have hst:=hs i x z acc H' H2 (hx xs hq) (hy ys hq2) p sm
   have eN:∀ ac H5,((∃ u1 v1,some x::some z::capV caps σ=u1::v1::capV caps σ)∧Pv (i+1) ac H5)=Pv (i+1) ac H5:=fun ac H5=>propext ⟨And.right,fun p=>⟨⟨_,_,rfl⟩,p⟩⟩
   refine ⟨q,[x,z],rfl,SqT.of hT,rfl,x,[z],rfl,z,[],rfl,rfl,?_⟩
   show tt (some x::some z::capV caps σ) _ fun b H4=>if b=true then te (some x::some z::capV caps σ) H4 fun y H5=>((∃ u1 v1,some x::some z::capV caps σ=u1::v1::capV caps σ)∧Pv (i+1) (acc++[y]) H5) else ((∃ u1 v1,some x::some z::capV caps σ=u1::v1::capV caps σ)∧Pv (i+1) acc H4)
   simp only [eN]
   exact hst
 · have e:i=xs.length:=by omega
   subst e
   exact .inl ⟨⟨xs,ys,hq,hq2,.inl (Nat.le_refl _)⟩,New.to (hd acc H' p)⟩
theorem Each.len {α β:Type}{R:α→β→Prop}{vs:List α}{xs:List β}(h:Each R vs xs):vs.length=xs.length:=h.1
theorem Each.set {α β:Type}{R:α→β→Prop}{vs:List α}{xs:List β}{v:α}{x:β}(h:Each R vs xs) (j:Nat) (k:R v x):Each R (vs.set j v) (xs.set j x):=by
 refine ⟨by simp [h.1],fun i a b h1 h2=>?_⟩
 rw [List.getElem?_set] at h1 h2
 by_cases e:j=i
 · rw [if_pos e] at h1 h2
   split at h1
   · cases h1
     split at h2
     · cases h2; exact k
     · cases h2
   · cases h1
 · rw [if_neg e] at h1 h2
   exact h.2 i a b h1 h2
def rSlS:V→Option Int→Option Int→Hp→VK→Prop:=fun x lo hi H Q=>∃ z,x=.str z∧z.length≤sizeLine∧Q (.str (Txt.slice z lo hi)) H
theorem br4 {X:Cx}:SlR X rSlS:=by
 intro pins s σ H x v vl vu lo hi sl Q I rx hs pl pu h
 obtain ⟨z,rfl,hz,q⟩:=h
 obtain ⟨t,rfl⟩:=rx
 have fin:∀ (t':Tok) (k:Nat),EP X pins σ Q (.str (Txt.slice z lo hi) t') { s with toks:=k }:=fun t' k=>⟨.str _,H,I.tok _,⟨_,rfl⟩,q⟩
 have hle:=Nat.le_trans (Txt.slice_le z lo hi) hz
 refine ⟨"str",_,F.slot_str_getitem.lookup,typeIs_str _ _ _,?_⟩
 cases pl with
 | none=>cases pu with
   | none=>exact wpAny_getItem_str_slice (l:=none) (u:=none) (st:=none) hs rfl (post_val_or_str ⟨hle,fin⟩)
   | int j uj=>exact wpAny_getItem_str_slice (l:=none) (u:=some (j,uj)) (st:=none) hs rfl (post_val_or_str ⟨hle,fin⟩)
 | int i ui=>cases pu with
   | none=>exact wpAny_getItem_str_slice (l:=some (i,ui)) (u:=none) (st:=none) hs rfl (post_val_or_str ⟨hle,fin⟩)
   | int j uj=>exact wpAny_getItem_str_slice (l:=some (i,ui)) (u:=some (j,uj)) (st:=none) hs rfl (post_val_or_str ⟨hle,fin⟩)
theorem c90 {H:Hp}{Q:VK}{z:Str}{lo hi:Option Int}(hz:z.length≤sizeLine) (h:Q (.str (Txt.slice z lo hi)) H):rSlS (.str z) lo hi H Q:=⟨z,rfl,hz,h⟩
theorem twoH {b:Bool}{t1 t2:TE}{σ:St} {H4:Hp}{C:VK}(Ok:V→Hp→Prop) (h:∀ v H,Ok v H→C v H) (h1:b=true→(∀ v H,Ok v H→C v H)→t1 σ H4 C) (h2:b=false→(∀ v H,Ok v H→C v H)→t2 σ H4 C):if b=true then t1 σ H4 C else t2 σ H4 C:=by
 cases b with
 | true=>rw [if_pos rfl]; exact h1 rfl h
 | false=>rw [if_neg (by decide)]; exact h2 rfl h
theorem Tr.In.rcNeAt {s:Shared}{ts rs:List Tr}{A:Around}{u z:Value}(h1:Tr.In s.heap (.tup ts) u) (h2:Tr.In s.heap (.tup rs) z) (hu:A.units+(Tr.tup ts).h+(Tr.tup rs).h+2<cLine):SeqAt.RcNeAt A s u z (!decide (Tr.tup ts=Tr.tup rs)):=by
 simp only [Tr.In] at h1 h2
 obtain ⟨a,us,rfl,p1,c1⟩:=h1
 obtain ⟨b,vs,rfl,p2,c2⟩:=h2
 simp only [Tr.h] at hu
 have l1:=c1.len
 have l2:=c2.len
 simp only [Array.length_toList] at l1 l2
 have:=SeqAt.RcNeAt.tuples (A:=A) (s:=s) (e:=fun j=>decide (ts.getD j .non=rs.getD j .non)) p1 p2 (by omega) (fun j h1 h2=>by
  have:=Tr.Ins.eqAts (A:=A.in1) c1 c2 (by rw [a60]; omega) j (by simpa using h1) (by simpa using h2)
  simpa using this)
 rw [l1,l2,b96] at this
 rw [show decide (Tr.tup ts=Tr.tup rs)=decide (ts=rs) from Bool.eq_iff_iff.mpr (by simp)]
 exact this
def rNeFK (K:W.Frag):R2:=fun x y H Q=>∃ (ts rs:List Tr),(Tr.tup ts).AtK K H x∧(Tr.tup rs).AtK K H y∧(Tr.tup ts).h≤20∧(Tr.tup rs).h≤20∧Q (.bl (!decide (Tr.tup ts=Tr.tup rs))) H
theorem az6 {X:Cx}(K:W.Frag) (hu:X.A.units+64<cLine) (hK:X.K=K:=by rfl):OpR X (compareOp .NotEq) (rNeFK K):=by
 subst hK
 intro pins s σ H x y v u Q I rx ry h
 obtain ⟨t,r,h1,h2,l1,l2,q⟩:=h
 exact (h1.isIn I rx).rcNeAt (h2.isIn I ry) (A:=X.A) (by omega) X.prog X.w X.xe (EP X pins σ Q) ⟨.bl _,H,I,rfl,q⟩
theorem bm2 {K:W.Frag}{H:Hp}{Q:VK}{x y:V}{ts rs:List Tr}(h1:(Tr.tup ts).AtK K H x) (h2:(Tr.tup rs).AtK K H y) (l1:(Tr.tup ts).h≤20) (l2:(Tr.tup rs).h≤20) (h:Q (.bl (!decide (Tr.tup ts=Tr.tup rs))) H):rNeFK K x y H Q:=⟨ts,rs,h1,h2,l1,l2,h⟩
theorem keepE {α:Type}{a:α}{P:α→Prop}(h:∀ x,a=x→P x):∀ x,a=x→P x:=h
section
variable {prog:Program}{w:World}{A:Around}{E:Value→Shared→Prop}{s:Shared}{d:Addr}{es:Array DictEntry}{ep:Nat}
theorem br5 {Q:Value→Shared→Prop}(lo:(d == sysModules)=false) (x:RawD s.heap d es ep) (hz:(es.size:Int)<2 ^ 63) (h:Q (.int es.size (s.toks+1)) { s with toks:=s.toks+1+1 }):wpAny (model prog w) A (call (.builtin "len") [.ref d]) Q E s:=by
 have T:=x.ty
 obtain ⟨o,e1,e2,e3⟩:=x
 refine Calls.call_function_entry kind_len plain_len entry_len (args_len1 _) ?_
 unfold Builtin.«len»
 refine wB (m:=oneArg "len" _) (wpAny_pure ?_)
 refine wB (m:=callSpecial? (.ref d) (Str.ofString "__len__")) (wpAny_callSpecial?_slot (name:=Str.ofString "__len__") T F.slot_dict_len (wpAny_call_entry F.slot_dict_len T F.entry_dict_len ?_ (F.args_dict_len_1 _)))
 unfold Builtin.«dict.__len__»
 show wpAny _ _ (dictSize d >>= _) _ _ s
 unfold dictSize
 refine wB (wB (wpAny_dictEntries e1 e3 (wpAny_pure ?_)))
 show wpAny _ _ (Builtin.Dict.pendingCount d >>= _) _ _ s
 refine wB (wpAny_pendingCount_other lo ?_)
 show wpAny _ _ (retInt _) _ _ s
 unfold retInt
 refine wB (wpAny_mkInt (wpAny_pure ⟨_,rfl,?_⟩))
 rw [show ((es.size:Nat):Int)+((0:Nat):Int)=((es.size:Nat):Int) by simp]
 refine wB (wpAny_holding (wpAny_pure ?_))
 refine wB (wpAny_letGo ?_)
 show wpAny _ _ (if ((es.size:Nat):Int)<0 then _ else _) _ _ _
 rw [if_neg (by omega)]
 show wpAny _ _ (if ((es.size:Nat):Int) ≥ 2 ^ 63 then _ else _) _ _ _
 rw [if_neg (by omega)]
 exact wB (wpAny_mkInt (wpAny_pure ⟨_,rfl,h⟩))
end
def rLenT (P:Params):List V→Hp→VK→Prop:=fun vs H Q=>∃ a kvs,vs=[V.ref a]∧DtAt P H a kvs∧Q (.int (kvs.length:Nat)) H
theorem ap2 {X:Cx}{P:Params}(hP:X.w.params=P):CallR X (.builtin "len") (rLenT P):=by
 subst hP
 intro pins s σ H xs us Q I r h
 obtain ⟨a,kvs,rfl,⟨m,rfl,e2,e3,e4⟩,q⟩:=h
 cases r with
 | cons r1 r2 =>
 cases r2
 cases r1
 obtain ⟨o,es,ep,g1,g2,g3,g4,g5,z1,z2⟩:=ak3 I e2 e3 e4
 have hsz:es.size=m.length:=g4.len
 refine br5 z2 ⟨o,g1,g2,g3⟩ (by rw [hsz]; rw [sizeLine_eq] at z1; omega) ?_
 rw [hsz]
 exact ⟨.int (m.length:Nat),H,I.tok _,⟨_,rfl⟩,by rw [gL] at q; exact q⟩
section
variable {prog:Program}{w:World}{A:Around}{E:Value→Shared→Prop}{s:Shared}{d it:Addr}{es:Array DictEntry}{ep i:Nat}
end
section
variable {X:Cx}{P:Params}{o:Expr}{td:TE}{apos cpos:Pos}
end
section
variable {prog:Program}{w:World}{A:Around}{E:Value→Shared→Prop}{s:Shared}{d v:Addr}{es:Array DictEntry}{ep:Nat}
end
section
variable {X:Cx}{P:Params}
end
open AutoSeq1 (wpAny_loadPart')
section
variable {X:Cx}{elts:List Expr}{x1:Nat}{tpos:Pos}
end
section
variable {prog:Program}{w:World}
variable {A:Around}{E:Value→Shared→Prop}{s:Shared}
end
section
variable {prog:Program}{w:World}{A:Around}{R:Result→Shared→Prop}{I:Addr}{fp wr:List Addr}{G:Array GenState→Array GenState→Prop}{n:Nat}{P:Nat→Value→Prop}{St:Nat→Shared→Prop}
end
section
variable {prog:Program}{w:World}{A:Around}{E:Value→Shared→Prop}{s:Shared}
end
section
variable {M:Model}{A:Around}{E:Value→Shared→Prop}{s:Shared}
end
section
variable {prog:Program}{w:World}{A:Around}{E:Value→Shared→Prop}{s:Shared}{S it:Addr}{o:Obj}{es:Array (Int×Value)}{ep:Nat}{t:SetTable}
end
section
variable {prog:Program}{w:World}{A:Around}{E:Value→Shared→Prop}{s:Shared}{S it tp:Addr}{o:Obj}{es:Array (Int×Value)}{ep i:Nat}{t:SetTable}{first:Value}
end
section
variable {prog:Program}{w:World}{A:Around}{E:Value→Shared→Prop}{s:Shared}{S it tp:Addr}{o:Obj}{es:Array (Int×Value)}{ep i:Nat}{t:SetTable}{first:Value}
end
section
variable {prog:Program}{w:World}{A:Around}{E:Value→Shared→Prop}{s:Shared}{S it tp:Addr}{o:Obj}{es:Array (Int×Value)}{ep i:Nat}{t:SetTable}{first:Value}
end
section
variable {prog:Program}{w:World}{A:Around}{E:Value→Shared→Prop}{s:Shared}{S:Addr}{es:Array (Int×Value)}
end
section
variable {prog:Program}{w:World}{A:Around}{E:Value→Shared→Prop}{s:Shared}{S:Addr}{es:Array (Int×Value)}
end
section
variable {X:Cx}{P:Program}{w:World}
end
section
variable {X:Cx}
end
section
variable {rs:List RRoom}{many:Nat}{p:Pr}
variable {N k:Nat}{dv:Pr→Option Nat}
end
section
variable {prog:Program}{w:World}{A:Around}{E:Value→Shared→Prop}{s:Shared}
end
section
variable {X:Cx}{P:Params}
end
section
variable {prog:Program}{w:World}{A:Around}{R:Result→Shared→Prop}{J:Addr}{fp wr:List Addr}{n:Nat}{P:Nat→Value→Prop}{St:Nat→Heap→Prop}
end
section
variable {prog:Program}{w:World}{A:Around}{E:Value→Shared→Prop}{s:Shared}
end
section
variable {X:Cx}{e d:Expr}{t tk:TA}{p kp pos:Pos}
end
section
variable {X:Cx}
end
structure Cov (fs:List Addr) (H H':Hp) (h h' B:Heap):Prop where
 old:∀ b o,h.get? b=some o→H b=none→b∉fs→B.get? b=some o
 ther:∀ b o,h.get? b=some o→b∉fs→∃ o',B.get? b=some o'
 abs:∀ b o,H' b≠none→h'.get? b=some o→B.get? b=some o
def CXE (P:Program) (w:World) (C:Addr):CXT:=fun outer H s E e s'=>∃ (a tt:Addr) (H':Hp) (B:Heap) (vs:List Value),e=.ref a∧s'.os=s.os∧AllBare s'.gens∧Un (frs outer) [] H H' s.heap s'.heap∧HOk P w H' s'.heap ∧
 Cov (frs outer) H H' s.heap s'.heap B∧Heap.FlyingW B outer a (.ref C) (.ref tt) s'.heap∧s'.heap.TupAt tt vs∧E (.ref C) none H'
theorem ObjOk.ther {P:Program}{w:World}{H:Hp}{h:Heap}{a:Addr}{o:HO}(x:ObjOk P w H h a o):∃ u,h.get? a=some u:=by
 cases o with
 | lst xs=>obtain ⟨_,_,_,_,e⟩:=x; exact ⟨_,e⟩
 | tup xs=>obtain ⟨_,_,_,ob,e,_⟩:=x; exact ⟨_,e⟩
 | dK kvs=>obtain ⟨_,_,_,_,o,_,_,e,_⟩:=x; exact ⟨_,e⟩
 | dT kvs=>obtain ⟨_,_,_,_,o,_,_,e,_⟩:=x; exact ⟨_,e⟩
 | set S n=>obtain ⟨o,_,_,_,e,_⟩:=x; exact ⟨_,e⟩
 | ins C dx fs=>obtain ⟨_,_,_,e,_⟩:=x; exact ⟨_,e⟩
 | own y=>obtain ⟨_,e⟩:=x; exact ⟨_,e⟩
 | xd fs=>obtain ⟨_,⟨_,_,_,e,_⟩,_⟩:=x; exact ⟨_,e⟩
 | rng lo hi=>obtain ⟨_,_,_,e⟩:=x; exact ⟨_,e⟩
 | frz ob u=>obtain ⟨e,_⟩:=x; exact ⟨_,e⟩
 | tbl ps=>exact ⟨_,(show h.get? a=some _ from x)⟩
 | met f y=>exact ⟨_,(show h.get? a=some _ from x)⟩
 | ext φ=>obtain ⟨_,⟨_,e⟩,_⟩:=x; exact ⟨_,e⟩
theorem az7 {P:Program}{w:World}{fs:List Addr}{H H':Hp}{h h1 h2 B:Heap}(u:Un fs [] H H' h h1) (ok:HOk P w H' h1) (c:Cov fs H H' h h1 B) (st:B.StaysIn h2) (up:h1.UpToSlots h2)
 (fr:∀ b∈fs,H b=none∧∀ o,h1.get? b=some o→∀ vs,o.data≠.fields vs) (fr2:∀ b∈fs,H' b=none):Un fs [] H H' h h2∧HOk P w H' h2∧Cov fs H H' h h2 B:=by
 have slot:∀ b o,h.get? b=some o→H b=none→b∈fs→∃ sl,h2.get? b=some { o with slots:=sl }:=fun b o e n hb=>by
  obtain ⟨sl,e1⟩:=u.slot b o e n hb (by simp)
  obtain ⟨sl2,e2⟩:=up b _ e1 ((fr b hb).2 _ e1)
  exact ⟨sl2,e2⟩
 have ab:∀ b o,H' b≠none→h1.get? b=some o→h2.get? b=some o:=fun b o n e=>st b o (c.abs b o n e)
 refine ⟨⟨fun b o e n hb _=>st b o (c.old b o e n hb),fun b o e n hb _=>slot b o e n hb,u.free,fun b o e _=>?_,u.tups,u.frzs,u.tbls⟩,fun a o e=>?_,⟨c.old,c.ther,fun b o n e=>?_⟩⟩
 · by_cases hb:b∈fs
   · obtain ⟨sl,e2⟩:=slot b o e (fr b hb).1 hb
     exact ⟨_,e2⟩
   · obtain ⟨o',e'⟩:=c.ther b o e hb
     exact ⟨o',st b o' e'⟩
 · refine (ok a o e).stay (fun b v hb ev=>?_) (fun _ z=>z) (fun _ _ z=>z)
   rcases hb with rfl | hb
   · exact ab _ _ (by rw [e]; simp) ev
   · exact ab _ _ (by rw [hb]; simp) ev
 · obtain ⟨o',e'⟩:∃ o',h1.get? b=some o':=by
    cases eH:H' b with
    | none=>exact absurd eH n
    | some ho=>exact (ok b ho eH).ther
   have:=ab b o' n e'
   rw [e] at this
   cases this
   exact c.abs b o n e'
theorem bi4 {P:Program}{w:World}{K:W.Frag}{mg:Str→Option Value}{base:Heap}{N:List Str}{qual:Str}{scope:Scope}{f C:Addr}{cd:Value}{A:Around}{outer:List Env}{s:Shared}{H H1:Hp}{E:XK}{pins:List (Addr×Obj)}{σ:St} {s1:Shared}{h':Heap}{e:Addr}{vs:List Value}
 (I:Inv (cxOf (CXE P w C) P w K mg base N qual scope f cd A outer s H E) pins σ H1 s1) (hx:Heap.MadeExcOf s1.heap h' e (.ref C) vs) (q:E (.ref C) none H1) :
 (cxOf (CXE P w C) P w K mg base N qual scope f cd A outer s H E).xe (.ref e) { s1 with heap:=h' }:=by
 have hstk:=I.stack
 have hfree:=I.stkFree
 have hfrm:=I.ok.frames
 have habv:=I.ok.above
 have hun:=I.base
 have hok:=I.hok
 have hos:=I.os
 have hbare:=I.bare
 have hfun:=I.ok.funs
 have hfrf:=I.ok.frf
 dsimp only [cxOf,Cx.fs] at hstk hfree hfrm habv hun hok hos hfun hfrf ⊢
 have hin:∀ env∈(envOfC qual scope s.heap.objs.size f cd::outer),∀ b,env.frame=some b→b∈frs (envOfC qual scope s.heap.objs.size f cd::outer):=fun env he b hb=>List.mem_filterMap.mpr ⟨env,he,hb⟩
 refine wpAny_leaves_madeW (base:=W.hideAll s1.heap (frs (envOfC qual scope s.heap.objs.size f cd::outer))) (h:=s1.heap) hfrm rfl (fun b o q=>W.of_hideAll _ q) (W.funFrames_hide hstk hin) hx fun h2 t x1 x2 x3 x4=>?_
 have hmem:∀ b,b∈frs outer→b∈frs (envOfC qual scope s.heap.objs.size f cd::outer):=fun b hb=>by
  obtain ⟨env,he,hf⟩:=List.mem_filterMap.mp hb
  exact hin env (List.mem_cons_of_mem _ he) b hf
 have notin:∀ b o,s.heap.get? b=some o→b∉frs outer→b∉frs (envOfC qual scope s.heap.objs.size f cd::outer):=fun b o e hb hm=>by
  obtain ⟨env,he,hf⟩:=List.mem_filterMap.mp hm
  rcases List.mem_cons.mp he with rfl | he
  · have z:s.heap.objs.size=b:=Option.some.inj hf
    rw [← z] at e
    exact absurd (Heap.lt_size e) (Nat.lt_irrefl _)
  · exact hb (List.mem_filterMap.mpr ⟨env,he,hf⟩)
 have cov:Cov (frs outer) H H1 s.heap s1.heap (W.hideAll s1.heap (frs (envOfC qual scope s.heap.objs.size f cd::outer))) :=
  ⟨fun b o e n hb=>W.hideAll_get _ (hun.keep b o e n hb (by simp)) (notin b o e hb),fun b o e hb=>by
   obtain ⟨o',e'⟩:=hun.there b o e (by simp)
   exact ⟨o',W.hideAll_get _ e' (notin b o e hb)⟩,fun b o n e=>W.hideAll_get _ e fun hm=>n (hfree b hm)⟩
 obtain ⟨u2,ok2,c2⟩:=az7 hun hok cov x1.1 ((Heap.UpToSlots.of_keeps hx.keeps).trans x4) (fun b hb=>⟨hfrf b hb,fun o e=>by
  obtain ⟨_,o',e',hd⟩:=hstk.mem (hmem b hb)
  rw [e] at e'
  cases e'
  exact hd⟩) fun b hb=>hfree b (hmem b hb)
 exact ⟨e,t,H1,_,vs,rfl,hos,hbare,u2,ok2,c2,x1,x2,q⟩
theorem bb3 {K:W.Frag}{h₀:Heap}{mg:Str→Option Value}{x:Str}{C:Addr}{bmB:List Value}{newId:String}(X:K.In h₀) (hm:mg x=some (.ref C)) (q:W.excIn K C bmB newId=true):OwnCls x C bmB newId mg h₀:=by
 refine ⟨hm,?_⟩
 unfold W.excIn at q
 split at q
 · rename_i dd cd sl ho
   split at q
   · rename_i C' bm k0 k1 k2 k3 n k5 hm hs
     simp only [Bool.and_eq_true,beq_iff_eq,Bool.not_eq_true'] at q
     obtain ⟨⟨⟨⟨⟨rfl,rfl⟩,hdel⟩,ht⟩,hok⟩,hni⟩:=q
     obtain ⟨nm,bs,mro,ns,qn,hd,sn,sub,ab,col,del⟩:=cd
     dsimp only at hm hdel hok hni
     subst hm hdel
     have hsl:sl=#[k0,k1,k2,k3,some (.builtin n),k5]:=by
      obtain ⟨l⟩:=sl
      simp only at hs
      rw [hs]
     subst hsl
     exact ⟨bm,ns,nm,qn,bs,hd,sn,sub,ab,col,dd,k0,k1,k2,k3,k5,_,X _ _ ho,.of_isNs (W.isNs_of_in X hok),W.nsMap_none_of_in X hok hni,W.tail_of_in X ht⟩
   · cases q
 · cases q
def tRaise (C:Addr) (E:XK) (t:TA):TS:=fun _ σ H=>t σ H fun vs H1=>vs.length≤sizeLine∧E (.ref C) none H1
theorem bi5 {P:Program}{w:World}{K:W.Frag}{mg:Str→Option Value}{base:Heap}{N:List Str}{qual:Str}{scope:Scope}{f C:Addr}{cd:Value}{A:Around}{outer:List Env}{s:Shared}{H:Hp}{E:XK}{x:Str}{np cpos pos:Pos}{e₀:Expr}{rest:List Expr}{t:TA}{B Bn newId nid initId inN:String}{bm bmN:List Value}
 (Fn:ExcBaseFacts Bn newId inN bmN) (hBn:bm.contains (.type Bn)=true) (FB:ExcBaseFacts B nid initId bm) (q:W.excIn K C bm newId=true) (hm:mg x=some (.ref C))
 (hg:Gl (cxOf (CXE P w C) P w K mg base N qual scope f cd A outer s H E) x) (ha:PA (cxOf (CXE P w C) P w K mg base N qual scope f cd A outer s H E) (e₀::rest) t)
 (he:starEach (e₀::rest) (envOfC qual scope s.heap.objs.size f cd)=(false,eval e₀ (envOfC qual scope s.heap.objs.size f cd))::starEach rest (envOfC qual scope s.heap.objs.size f cd):=by rfl)
 (hplain:(backTo cpos (starEach rest (envOfC qual scope s.heap.objs.size f cd))).any (·.1)=false:=by rfl) (hd:(x == ("__debug__":Str))=false:=by decide) :
 PS (cxOf (CXE P w C) P w K mg base N qual scope f cd A outer s H E) (.Raise (some (.Call (.Name x np) (e₀::rest) [] cpos)) none pos) (tRaise C E t):=by
 intro pins s1 σ H1 D I h
 have O:OwnCls x C bm newId mg s1.heap:=bb3 I.kIn hm q
 have hbs:=I.bk
 obtain ⟨tl,NN,nm,qq,bs,hdct,sn,sub,ab,col,dd,k0,k1,k2,k3,k5,mN,hC,hN,hni,T⟩:=(bb3 (h₀:=base) I.ok.mod.kin hm q:OwnCls x C bm newId mg base).obj
 refine wpAny_Raise_call_subU (C:=C) (nm:=nm) (q:=qq) (N:=NN) (bs:=bs) (bm:=tl) (hdct:=hdct) (sn:=sn) (sub:=sub) (ab:=ab) (col:=col) (dd:=dd) (k0:=k0) (k1:=k1) (k2:=k2) (k3:=k3) (k5:=k5)
  Fn hBn FB (mN:=mN) (T.hasType FB.hasBase) (I.ok.hd rfl) (by show (backTo cpos (starEach (e₀::rest) (envOfC qual scope s.heap.objs.size f cd))).any (·.1)=false; rw [he]; show (false || (backTo cpos (starEach rest (envOfC qual scope s.heap.objs.size f cd))).any (·.1))=false; rw [hplain]; rfl) hni (aj3 I hg hm ⟨rfl,?_⟩ hd)
 have hh:=ha cpos pins s1 σ H1 _ I h
 change wpAny _ _ (evalArgs _ true (backTo cpos (starEach (e₀::rest) (envOfC qual scope s.heap.objs.size f cd))) []) _ _ _
 change wpAny _ _ (spliced (backTo cpos (starEach (e₀::rest) (envOfC qual scope s.heap.objs.size f cd)))) _ _ _ at hh
 rw [he] at hh ⊢
 refine Calls.evalArgs_plain (wpAny_mono hh (fun vs s₂ h₂=>?_) fun _ _ y=>y)
 obtain ⟨us,H2,I2,r,hl,hE⟩:=h₂
 have kp:∀ b o,base.get? b=some o→s₂.heap.get? b=some o:=I2.bk
 exact ⟨rfl,by rw [← r.length]; exact hl,kp _ _ hC,hN.keeps kp,T.keeps kp,fun h' e hx=>bi4 I2 hx hE⟩
section
variable {P:Program}{w:World}{K:W.Frag}{mg:Str→Option Value}{base:Heap}
theorem Fun.okE {x qual:Str}{st:Stmt}{f C:Addr}{fd:FuncData}{N ps:List Str}{k:Nat}{sp:Sp}(F:Fun K x qual st f fd) (S:FnScope N ps (defScope st)) (len:∀ vs H Q E,sp vs H Q E→vs.length=ps.length)
 (hbody:∀ (cdv:Value) (A:Around) (outer:List Env) (s:Shared) (H:Hp) (vs:List V) (Q:VK) (E:XK),Room k (A.deeper (envOfC qual (defScope st) s.heap.objs.size f cdv))→sp vs H Q E →
  ∃ t,PSs (cxOf (CXE P w C) P w K mg base N qual (defScope st) f cdv A outer s H E) (defBody st) t∧t { nx:=fun _ H'=>Q .non H',rt:=Q } (start N vs) H):FnOk P w K mg base (CXE P w C) (k+1) f fd ps sp:=by
 obtain ⟨oc,od,kV,doc,pm,an,cdv,ct,osl,rfl,lk,hcd⟩:=F.ex
 exact bw3 lk hcd S len fun A outer s H vs Q E hr hsp=>hbody cdv A outer s H vs Q E hr hsp
end
theorem Inv.re {X:Cx}{pins:List (Addr×Obj)}{σ:St} {H:Hp}{s:Shared}(I:Inv X pins σ H s) {pn pins':List (Addr×Obj)}{xe:Value→Shared→Prop}{A:Around}{calm:Bool}(hA:calm=true→A.handled=none) (hf:A.frames=some X.stack) (hp:∀ p∈pn++pins',p∈X.pn++pins) :
 Inv { X with pn:=pn,xe:=xe,A:=A,calm:=calm } pins' σ H s :=
 ⟨⟨I.ok.mod,I.ok.kind,I.ok.glob,I.ok.blt,I.ok.above,I.ok.inj,I.ok.has,I.ok.cab,hA,hf,I.ok.stk,I.ok.exf,I.ok.bs,I.ok.bsz,I.ok.noex,I.ok.exfs,I.ok.funs,I.ok.frf⟩,I.os,I.bare,I.base,I.loc,I.cell,I.free,I.freeC,fun p h=>I.pin p (hp p h),I.hok,I.len⟩
theorem SP.re {X:Cx}{pins:List (Addr×Obj)}{D:Ends}{f:Flow}{s:Shared}{pn pins':List (Addr×Obj)}{xe:Value→Shared→Prop}{A:Around}{calm:Bool}(hA:calm=true→A.handled=none) (hf:A.frames=some X.stack) (hp:∀ p∈pn++pins',p∈X.pn++pins) (h:SP X pins D f s):SP { X with pn:=pn,xe:=xe,A:=A,calm:=calm } pins' D f s:=by
 cases f with
 | next=>obtain ⟨σ',H',I,q⟩:=h; exact ⟨σ',H',I.re hA hf hp,q⟩
 | brk=>obtain ⟨σ',H',I,q⟩:=h; exact ⟨σ',H',I.re hA hf hp,q⟩
 | cont=>obtain ⟨σ',H',I,q⟩:=h; exact ⟨σ',H',I.re hA hf hp,q⟩
 | ret u=>obtain ⟨v,σ',H',I,r,q⟩:=h; exact ⟨v,σ',H',I.re hA hf hp,r,q⟩
def tTry (n:Nat) (tb:XK→TS) (ts:TS):TS:=fun D σ H=>tb (fun _ _ H'=>∀ σ':St,σ'.length=n→ts D σ' H') D σ H
theorem c38 {X:Cx}{C:Addr}{x:Str}{np hpos pos:Pos}{body suite:List Stmt}{b₀:Stmt}{tb:XK→TS}{ts:TS}{bm:List Value}{newId:String}(hstk:X.stack=X.env::X.outer) (hfrm:X.env.frame=some X.env.locals)
 (hbase:bm.contains (.type "BaseException")=true) (q:W.excIn X.K C bm newId=true) (hm:X.mg x=some (.ref C)) (hg:Gl X x)
 (hb:∀ (E:XK) (pn:List (Addr×Obj)) (xe:Value→Shared→Prop),Passes (CXE X.prog X.w C) { X with pn:=pn,xe:=xe } E→PSs { X with pn:=pn,xe:=xe } body (tb E))
 (hs:∀ a:Addr,PSs { X with A:=X.A.mark (some (.ref a)),calm:=false,xe:=fun _ _=>False } (b₀::suite) ts) (hd:(x == ("__debug__":Str))=false:=by decide) :
 PS X (.Try body [.ExceptHandler (some (.Name x np)) none (b₀::suite) hpos] [] [] pos) (tTry X.N.length tb ts):=by
 intro pins s σ H D I h
 have hfr:=I.ok.frames
 obtain ⟨E,hE⟩:∃ E:XK,E=(fun _ _ H'=>∀ σ':St,σ'.length=X.N.length→ts D σ' H'):=⟨_,rfl⟩
 obtain ⟨XE,hXE⟩:∃ XE:Value→Shared→Prop,XE=(fun e s'=>∃ (pins':List (Addr×Obj)) (σ':St) (H0:Hp) (s0:Shared),Inv { X with pn:=X.pn++pins } pins' σ' H0 s0∧CXE X.prog X.w C X.stack H0 s0 E e s'):=⟨_,rfl⟩
 have hbd:=hb E (X.pn++pins) XE (fun pins' σ' H0 s0 e s' I0 hc=>by
  rw [hXE]
  exact ⟨pins',σ',H0,s0,I0.re I0.ok.hd I0.ok.frames (fun _ z=>z),hc⟩)
 have I1:Inv { X with pn:=X.pn++pins,xe:=XE } [] σ H s:=I.re I.ok.hd hfr (by simp)
 unfold tTry at h
 rw [← hE] at h
 refine wpAny_Try_except (wpAny_mono (hbd [] s σ H D I1 h) (fun f s₁ hf=>?_) fun e s₁ he=>?_)
 · have hf':SP X pins D f s₁:=SP.re (X:={ X with pn:=X.pn++pins,xe:=XE }) (pins:=[]) I.ok.hd hfr (by simp) hf
   cases f with
   | next=>obtain ⟨σ',H',I',hq⟩:=hf'; exact a68 pins s₁ σ' H' D I' hq
   | brk=>exact hf'
   | cont=>exact hf'
   | ret u=>exact hf'
 · have he:XE e s₁:=he
   rw [hXE] at he
   obtain ⟨pins',σ',H0,s0,I0,a,tt,H',B,vs,rfl,os,bare,un,ok,cov,fl,tup,hq⟩:=he
   have fr:∀ {h:Heap},h.FunFrames B X.stack→∀ b∈frs X.stack,H0 b=none∧∀ o,h.get? b=some o→∀ vs,o.data≠.fields vs:=fun ff b hb=>⟨I0.stkFree b hb,fun o e=>by
    obtain ⟨_,o',e',hd⟩:=ff.mem hb
    rw [e] at e'
    cases e'
    exact hd⟩
   have fr2:∀ b∈frs X.stack,H' b=none:=fun b hb=>by
    obtain ⟨_,o',e',_⟩:=I0.stack.mem hb
    exact un.free b o' e' (I0.stkFree b hb) (by simp)
   have fl0:=fl
   rw [hstk] at fl hfr
   refine wpAny_looks_onW hfr hfrm fl fun h₄ held₄ up₄=>?_
   refine wpAny_landsW held₄ fun h₅ fl₅ up₅=>?_
   obtain ⟨un5,ok5,cov5⟩:=az7 un ok cov fl₅.1 (up₄.trans up₅) (fr fl0.2.2.1) fr2
   have J5:Inv { X with pn:=X.pn++pins,A:=X.A.mark (some (.ref a)),calm:=false } pins' σ' H0 s0:=I0.re (fun z=>nomatch z) (by exact I.ok.frames) (fun _ z=>z)
   have I5:Inv { X with pn:=X.pn++pins,A:=X.A.mark (some (.ref a)),calm:=false } pins' σ' H' { s₁ with heap:=h₅ }:=J5.call' (ch:=[]) os un5 ok5 bare (fun b z=>absurd z (by simp))
   obtain ⟨bm',NN,nm,qn,bs,hdct,sn,sub,ab,col,dd,k0,k1,k2,k3,k5,mN,hC,hN,hni,TL⟩:=(bb3 (h₀:=h₅) I5.kIn hm q:OwnCls x C bm newId X.mg h₅).obj
   obtain ⟨ob,hob,hobc⟩:=fl₅.there
   refine wpAny_handleBy_cons (codeAny_handlers_test (aj3 I5 hg hm ?_ hd)) (by intro q; cases q)
   refine wpAny_excMatches_sub_self hC hob hobc (TL.hasType hbase) (codeAny_handlers_suite ?_)
   refine lands_againW fl₅ fun h₆ fl₆ up₆=>?_
   have fl5:h₅.FunFrames B X.stack:=by rw [hstk]; exact fl₅.2.2.1
   obtain ⟨un6,ok6,cov6⟩:=az7 un5 ok5 cov5 fl₆.1 up₆ (fr fl5) fr2
   have J6:Inv { X with A:=X.A.mark (some (.ref a)),calm:=false,xe:=fun _ _=>False } pins σ' H0 s0:=I0.re (X:={ X with pn:=X.pn++pins }) (fun z=>nomatch z) (by exact I.ok.frames) (fun p z=>List.mem_append_left _ z)
   have I6:Inv { X with A:=X.A.mark (some (.ref a)),calm:=false,xe:=fun _ _=>False } pins σ' H' { s₁ with heap:=h₆ }:=J6.call' (ch:=[]) os un6 ok6 bare (fun b z=>absurd z (by simp))
   rw [hE] at hq
   exact wpAny_mono (hs a pins _ σ' H' D I6 (hq σ' I0.len)) (fun f s2 hf=>SP.re (X:={ X with A:=X.A.mark (some (.ref a)),calm:=false,xe:=fun _ _=>False }) (pins:=pins) I.ok.hd I.ok.frames (fun _ z=>z) hf) fun e s2 z=>False.elim z
section
variable {σ:St} {H:Hp}{D:Ends}{C:Addr}{E:XK}{t:TA}{n:Nat}{tb:XK→TS}{ts:TS}
theorem br6 (h:t σ H fun vs H1=>vs.length≤sizeLine∧E (.ref C) none H1):tRaise C E t D σ H:=h
theorem c91 (h:tb (fun _ _ H'=>∀ σ':St,σ'.length=n→ts D σ' H') D σ H):tTry n tb ts D σ H:=h
end
section
variable {X:Cx}{k k':Nat}{f f' C C':Addr}{fd fd':FuncData}{ps ps':List Str}{sp sp':Sp}{m:Str}{pos apos:Pos}{e o:Expr}{es:List Expr}{ta:TE}{t:TA}
end
section
variable {σ:St} {H:Hp}{Q:VK}{ta:TE}{t:TA}{m:Str}{C1 C2:Addr}{sp1 sp2:Sp}
end
section
variable {X:Cx}{tg:Expr}
end
section
variable {σ:St} {H:Hp}{R:It→Hp→Prop}{ts:TA}
end
end L2
namespace L2
end L2
namespace L2
open PySem PySem.Spec PyProof.Rows
@[reducible] def IsTwo (h:Heap) (T:Addr) (a b:Value):Prop:=h.get? T=some { cls:=.type "tuple",data:=.seq #[a,b] }
theorem ab8 {prog:Program}{w:World}{A:Around}{E:Value→Shared→Prop}{s:Shared}{T:Addr}{a b x:Value}{k:Nat}{Q:Unit→Shared→Prop}(h:IsTwo s.heap T a b)
 (q:∀ h':Heap,h'.get? T=some { cls:=.type "tuple",data:=.seq (#[a,b].setIfInBounds k x) }→Heap.SameBut T s.heap h'→Q () { s with heap:=h' }):wpAny (model prog w) A (updateSeq T fun v=>v.setIfInBounds k x) Q E s:=by
 refine wpAny_updateSeq h rfl (q _ ?_ (Heap.SameBut.update _ _ _)) (by simp [sizeLine_eq]) (by simp [sizeLine_eq])
 rw [Heap.get?_update_self _ h rfl]
 simp [Obj.mapSeq]
structure Apt2 (z TI TO i1 i2 l1 l2:Addr):Prop where
 nd:[z,TI,TO,i1,i2].Nodup
 ls:∀ l∈[l1,l2],l∉[z,TO,i1,i2]
section
variable {prog:Program}{w:World}{z TI TO i1 i2 l1 l2:Addr}{xs ys:Array Value}{st1 st2:Nat→Heap→Prop}
theorem Apt2.all (D:[z,TI,TO,i1,i2].Nodup):z≠TI∧z≠TO∧z≠i1∧z≠i2∧TI≠TO∧TI≠i1∧TI≠i2∧TO≠i1∧TO≠i2∧i1≠i2:=by
 simp only [List.nodup_cons,List.mem_cons,List.not_mem_nil,or_false,not_or,List.nodup_nil,and_true] at D
 obtain ⟨⟨a1,a2,a3,a4⟩,⟨a6,a7,a8⟩,⟨a10,a11⟩,a13,_⟩:=D
 exact ⟨a1,a2,a3,a4,a6,a7,a8,a10,a11,a13⟩
theorem ItS.mv {it l p:Addr}{X:Array Value}{st:Nat→Heap→Prop}{j:Nat}{h h':Heap}(J:ItS prog w it l X st) (hs:st j h) (b:Heap.SameBut p h h') (x1:it≠p) (x2:l≠p):st j h':=J.keep hs fun c o hc e=>by
 rcases hc with rfl | rfl
 · exact a02 b x1 e
 · exact a02 b x2 e
theorem bb4 {A:Around}{E:Value→Shared→Prop}{s:Shared}{k:Nat}{x y a b:Value}{Q:Value→Shared→Prop}
 (D:Apt2 z TI TO i1 i2 l1 l2) (J1:ItS prog w i1 l1 xs st1) (J2:ItS prog w i2 l2 ys st2) (hz:IsZip s.heap z TI TO .none) (hTI:IsTwo s.heap TI (.ref i1) (.ref i2)) (hTO:IsTwo s.heap TO a b)
 (h1:st1 k s.heap) (h2:st2 k s.heap) (e1:xs[k]?=some x) (e2:ys[k]?=some y)
 (q:∀ h':Heap,IsZip h' z TI TO (rawInt s.heap.objs.size)→IsTwo h' TO x y→st1 (k+1) h'→st2 (k+1) h'→IsTwo h' s.heap.objs.size x y→h'.objs.size=s.heap.objs.size+1→(∀ (c:Addr) (o:Obj),c∉[z,TO,i1,i2]→s.heap.get? c=some o→h'.get? c=some o)→Q (.ref s.heap.objs.size) { s with heap:=h' }) :
 wpAny (model prog w) A (Builtin.«zip.__next__» { pos:=[.ref z] }) (fun fin s'=>∃ v,fin=Fin.done (Flow.ret v)∧Q v s') E s:=by
 obtain ⟨D,D2⟩:=D
 unfold Builtin.«zip.__next__»
 refine wB (wpAny_pure ?_)
 refine wB (wpAny_field (x:=.bool false) hz rfl rfl ?_)
 refine wB (wpAny_field (x:=.ref TI) hz rfl rfl ?_)
 refine wB (wpAny_seqItems hTI rfl ?_)
 dsimp only
 rw [if_neg (show ¬ (#[Value.ref i1,Value.ref i2].isEmpty=true) by simp)]
 refine wB (wB (wpAny_field (x:=.none) hz rfl rfl (wpAny_pure ?_)))
 rw [if_pos rfl]
 refine wB (wpAny_rule ?_)
 refine wB (wpAny_field (x:=.ref TO) hz rfl rfl ?_)
 dsimp only
 refine wB (wpAny_setField_rec hz (by simp) fun g1 z1 b1=>?_)
 refine wB ?_
 obtain ⟨n1,n2,n3,n4,n6,n7,n8,n10,n11,n13⟩:=Apt2.all D
 obtain ⟨m1,m2,m3,m4⟩:l1≠z∧l1≠TO∧l1≠i1∧l1≠i2:=by simpa using D2 l1 (by simp)
 obtain ⟨m6,m7,m8,m9⟩:l2≠z∧l2≠TO∧l2≠i1∧l2≠i2:=by simpa using D2 l2 (by simp)
 show wpAny (model prog w) A (forIn [(Value.ref i1,0),(Value.ref i2,1)] (none,()) _) _ E _
 rw [List.forIn_cons]
 refine wB (wB (wpAny_onRaise ?_))
 refine wB (m:=Builtin.SmallTypes.nextOf (.ref i1)) (f:=fun v=>pure (some v)) ?_
 refine J1.item (J1.mv h1 b1 n3.symm m1) e1 fun g2 z2 b2=>wpAny_pure ?_
 dsimp only
 refine wB (wpAny_seqItems (items:=#[a,b]) (a02 b2 n10 (a02 b1 n2.symm hTO)) rfl ?_)
 dsimp only
 refine wB (ab8 (a02 b2 n10 (a02 b1 n2.symm hTO)) fun g3 t3 b3=>?_)
 refine wB (wpAny_letGo (wpAny_pure ?_))
 dsimp only
 rw [List.forIn_cons]
 refine wB (wB (wpAny_onRaise ?_))
 refine wB (m:=Builtin.SmallTypes.nextOf (.ref i2)) (f:=fun v=>pure (some v)) ?_
 refine J2.item (J2.mv (J2.mv (J2.mv h2 b1 n4.symm m6) b2 n13.symm m8) b3 n11.symm m7) e2 fun g4 z4 b4=>wpAny_pure ?_
 dsimp only
 have t4:IsTwo g4 TO x b:=a02 b4 n11 (by rw [t3]; rfl)
 refine wB (wpAny_seqItems (items:=#[x,b]) t4 rfl ?_)
 dsimp only
 refine wB (ab8 t4 fun g5 t5 b5=>?_)
 refine wB (wpAny_letGo (wpAny_pure ?_))
 dsimp only
 rw [List.forIn_nil]
 refine wpAny_pure ?_
 dsimp only
 have t5':IsTwo g5 TO x y:=by rw [IsTwo,t5]; rfl
 refine wB (wpAny_seqItems (items:=#[x,y]) t5' rfl ?_)
 dsimp only
 refine wB (wpAny_newTuple ?_ (by simp [sizeLine_eq]))
 have sz:g5.objs.size=s.heap.objs.size:=by rw [b5.1,b4.1,b3.1,b2.1,b1.1]
 have zz:g5.get? z=some { cls:=.type "zip",data:=.fields #[.ellipsis,.bool false,.bool false,.ref TI,.ref TO] }:=a02 b5 n2 (a02 b4 n4 (a02 b3 n2 (a02 b2 n3 z1)))
 refine wB (wB ?_)
 refine wpAny_setField_rec (gP _ zz) (by simp) fun g8 z8 b8=>?_
 refine wpAny_setField_rec z8 (by simp) fun g9 z9 b9=>?_
 refine wpAny_pure ⟨_,rfl,?_⟩
 have lt:∀ {c:Addr}{o:Obj},g5.get? c=some o→c≠g5.objs.size:=fun e=>Nat.ne_of_lt (Heap.lt_size e)
 have mvp:∀ {it l:Addr}{X:Array Value}{st:Nat→Heap→Prop}{j:Nat},ItS prog w it l X st→st j g5→it≠z→l≠z→st j g9:=fun J hs x1 x2=>J.keep hs fun c o hc e=>by
  rcases hc with rfl | rfl
  · exact a02 b9 x1 (a02 b8 x1 (gP _ e))
  · exact a02 b9 x2 (a02 b8 x2 (gP _ e))
 have zne:g5.objs.size≠z:=(lt zz).symm
 rw [sz]
 refine q g9 ?_ ?_ (mvp J1 ?_ n3.symm m1) (mvp J2 ?_ n4.symm m6) ?_ ?_ ?_
 · rw [IsZip,z9]
   simp [sz]
 · exact a02 b9 n2.symm (a02 b8 n2.symm (gP _ t5'))
 · exact J1.mv (J1.mv (J1.mv z2 b3 n10.symm m2) b4 n13 m4) b5 n10.symm m2
 · exact J2.mv z4 b5 n11.symm m7
 · have:=a02 b9 zne (a02 b8 zne (Heap.get?_push_size g5 rfl))
   rw [← sz]
   exact this
 · rw [b9.1,b8.1,Heap.size_push,sz]
 · intro c o hc e
   simp only [List.mem_cons,List.not_mem_nil,or_false,not_or] at hc
   obtain ⟨c1,c2,c3,c4⟩:=hc
   exact a02 b9 c1 (a02 b8 c1 (gP _ (a02 b5 c2 (a02 b4 c4 (a02 b3 c2 (a02 b2 c3 (a02 b1 c1 e)))))))
theorem bi6 {A:Around}{E:Value→Shared→Prop}{s:Shared}{k:Nat}{a b:Value}{Q:PySem.Fin→Shared→Prop}(hA:A.handled=none)
 (D:Apt2 z TI TO i1 i2 l1 l2) (J1:ItS prog w i1 l1 xs st1) (J2:ItS prog w i2 l2 ys st2) (hz:IsZip s.heap z TI TO .none) (hTI:IsTwo s.heap TI (.ref i1) (.ref i2)) (hTO:IsTwo s.heap TO a b)
 (h1:st1 k s.heap) (h2:st2 k s.heap) (e:xs[k]?=none∨ys[k]?=none)
 (q:∀ (h':Heap) (ex:Addr),(∀ (c:Addr) (o:Obj),c∉[z,TO,i1,i2]→s.heap.get? c=some o→h'.get? c=some o)→(∃ o,h'.get? ex=some o∧o.cls=.type "StopIteration")→E (.ref ex) { s with heap:=h' }) :
 wpAny (model prog w) A (Builtin.«zip.__next__» { pos:=[.ref z] }) Q E s:=by
 obtain ⟨D,D2⟩:=D
 unfold Builtin.«zip.__next__»
 refine wB (wpAny_pure ?_)
 refine wB (wpAny_field (x:=.bool false) hz rfl rfl ?_)
 refine wB (wpAny_field (x:=.ref TI) hz rfl rfl ?_)
 refine wB (wpAny_seqItems hTI rfl ?_)
 dsimp only
 rw [if_neg (show ¬ (#[Value.ref i1,Value.ref i2].isEmpty=true) by simp)]
 refine wB (wB (wpAny_field (x:=.none) hz rfl rfl (wpAny_pure ?_)))
 rw [if_pos rfl]
 refine wB (wpAny_rule ?_)
 refine wB (wpAny_field (x:=.ref TO) hz rfl rfl ?_)
 dsimp only
 refine wB (wpAny_setField_rec hz (by simp) fun g1 z1 b1=>?_)
 refine wB ?_
 obtain ⟨n1,n2,n3,n4,n6,n7,n8,n10,n11,n13⟩:=Apt2.all D
 obtain ⟨m1,m2,m3,m4⟩:l1≠z∧l1≠TO∧l1≠i1∧l1≠i2:=by simpa using D2 l1 (by simp)
 obtain ⟨m6,m7,m8,m9⟩:l2≠z∧l2≠TO∧l2≠i1∧l2≠i2:=by simpa using D2 l2 (by simp)
 have fin:∀ {it l p:Addr}{X:Array Value}{st:Nat→Heap→Prop}{g:Heap}{Q':Option Value→Shared→Prop},it∈[i1,i2]→ItS prog w it l X st→st k g→X[k]?=none→(∀ (c:Addr) (o:Obj),c∉[z,TO,i1,i2]→s.heap.get? c=some o→g.get? c=some o)→g.get? z=some { cls:=.type "zip",data:=.fields #[.ellipsis,.bool false,.bool false,.ref TI,.ref TO] }→z≠it →
  wpAny (model prog w) A (Builtin.SmallTypes.nextOf (.ref it) >>= fun v=>pure (some v)) Q' (fun e s'=>wpAny (model prog w) A (setField (.ref z) 0 .none) (fun _ s''=>E e s'') E s') { s with heap:=g }:=fun {it l p X st g Q'} hit J hs hx hk hzz hne=>by
  refine wB (J.done hA hs hx fun g' ex b' hex=>?_)
  refine wpAny_setField_rec (b' _ _ hne hzz) (by simp) fun g'' z'' b''=>q g'' ex (fun c o hc e=>?_) ?_
  · have hc':=hc
    simp only [List.mem_cons,List.not_mem_nil,or_false,not_or] at hc
    refine a02 b'' hc.1 (b' c o (fun hq=>?_) (hk c o hc' e))
    subst hq
    simp only [List.mem_cons,List.not_mem_nil,or_false] at hit
    rcases hit with h | h
    · exact hc.2.2.1 h
    · exact hc.2.2.2 h
  · obtain ⟨o,e1,e2⟩:=hex
    by_cases hq:ex=z
    · subst hq
      rw [b' _ _ hne hzz] at e1
      cases e1
      simp at e2
    · exact ⟨o,a02 b'' hq e1,e2⟩
 show wpAny (model prog w) A (forIn [(Value.ref i1,0),(Value.ref i2,1)] (none,()) _) _ E _
 rw [List.forIn_cons]
 refine wB (wB (wpAny_onRaise ?_))
 have k1:∀ (c:Addr) (o:Obj),c∉[z,TO,i1,i2]→s.heap.get? c=some o→g1.get? c=some o:=fun c o hc e=>by
  simp only [List.mem_cons,List.not_mem_nil,or_false,not_or] at hc
  exact a02 b1 hc.1 e
 cases hx1:xs[k]? with
 | none=>exact fin (p:=z) (by simp) J1 (J1.mv h1 b1 n3.symm m1) hx1 k1 z1 n3
 | some x =>
   refine wB (m:=Builtin.SmallTypes.nextOf (.ref i1)) (f:=fun v=>pure (some v)) ?_
   refine J1.item (J1.mv h1 b1 n3.symm m1) hx1 fun g2 z2 b2=>wpAny_pure ?_
   dsimp only
   refine wB (wpAny_seqItems (items:=#[a,b]) (a02 b2 n10 (a02 b1 n2.symm hTO)) rfl ?_)
   dsimp only
   refine wB (ab8 (a02 b2 n10 (a02 b1 n2.symm hTO)) fun g3 t3 b3=>?_)
   refine wB (wpAny_letGo (wpAny_pure ?_))
   dsimp only
   rw [List.forIn_cons]
   refine wB (wB (wpAny_onRaise ?_))
   have k3:∀ (c:Addr) (o:Obj),c∉[z,TO,i1,i2]→s.heap.get? c=some o→g3.get? c=some o:=fun c o hc e=>by
    have hc':=hc
    simp only [List.mem_cons,List.not_mem_nil,or_false,not_or] at hc
    exact a02 b3 hc.2.1 (a02 b2 hc.2.2.1 (k1 c o hc' e))
   have zz3:=a02 b3 n2 (a02 b2 n3 z1)
   have hx2:ys[k]?=none:=by
    rcases e with e | e
    · rw [hx1] at e; cases e
    · exact e
   exact fin (p:=z) (by simp) J2 (J2.mv (J2.mv (J2.mv h2 b1 n4.symm m6) b2 n13.symm m8) b3 n11.symm m7) hx2 k3 zz3 n4
theorem ai3 {A:Around}{E:Value→Shared→Prop}{s:Shared}{k:Nat}{x y a b:Value}{Q:Option Value→Shared→Prop}
 (D:Apt2 z TI TO i1 i2 l1 l2) (J1:ItS prog w i1 l1 xs st1) (J2:ItS prog w i2 l2 ys st2) (hz:IsZip s.heap z TI TO .none) (hTI:IsTwo s.heap TI (.ref i1) (.ref i2)) (hTO:IsTwo s.heap TO a b)
 (h1:st1 k s.heap) (h2:st2 k s.heap) (e1:xs[k]?=some x) (e2:ys[k]?=some y)
 (q:∀ h':Heap,IsZip h' z TI TO (rawInt s.heap.objs.size)→IsTwo h' TO x y→st1 (k+1) h'→st2 (k+1) h'→IsTwo h' s.heap.objs.size x y→h'.objs.size=s.heap.objs.size+1→(∀ (c:Addr) (o:Obj),c∉[z,TO,i1,i2]→s.heap.get? c=some o→h'.get? c=some o)→Q (some (.ref s.heap.objs.size)) { s with heap:=h' }) :
 wpAny (model prog w) A (pyNext (.ref z)) Q E s:=by
 unfold pyNext
 refine wB (wpAny_attempt (wpAny_callSpecial?_slot (T:="zip") ⟨_,hz,rfl⟩ F.slot_zip_next (wpAny_call_entry F.slot_zip_next ⟨_,hz,rfl⟩ F.entry_zip_next ?_ (F.args_zip_next_1 _))))
 exact bb4 D J1 J2 hz hTI hTO h1 h2 e1 e2 fun h' a1 a2 a3 a4 a6 a7 a8=>wpAny_pure (q h' a1 a2 a3 a4 a6 a7 a8)
theorem ak9 {A:Around}{E:Value→Shared→Prop}{s:Shared}{k:Nat}{a b:Value}{Q:Option Value→Shared→Prop}(hA:A.handled=none)
 (D:Apt2 z TI TO i1 i2 l1 l2) (J1:ItS prog w i1 l1 xs st1) (J2:ItS prog w i2 l2 ys st2) (hz:IsZip s.heap z TI TO .none) (hTI:IsTwo s.heap TI (.ref i1) (.ref i2)) (hTO:IsTwo s.heap TO a b)
 (h1:st1 k s.heap) (h2:st2 k s.heap) (e:xs[k]?=none∨ys[k]?=none)
 (q:∀ h':Heap,(∀ (c:Addr) (o:Obj),c∉[z,TO,i1,i2]→s.heap.get? c=some o→h'.get? c=some o)→Q none { s with heap:=h' }):wpAny (model prog w) A (pyNext (.ref z)) Q E s:=by
 unfold pyNext
 refine wB (wpAny_attempt (wpAny_callSpecial?_slot (T:="zip") ⟨_,hz,rfl⟩ F.slot_zip_next (wpAny_call_entry F.slot_zip_next ⟨_,hz,rfl⟩ F.entry_zip_next ?_ (F.args_zip_next_1 _))))
 refine bi6 (by exact hA) D J1 J2 hz hTI hTO h1 h2 e fun h' ex hk ⟨o,x1,x2⟩=>?_
 refine wB (wpAny_isInstance (T:="StopIteration") ⟨o,x1,x2⟩ isSubtype_stop ?_)
 rw [if_pos rfl]
 exact wpAny_pure (q h' hk)
end
@[reducible] def z2H (h:Heap) (o1 o2:Obj):Heap:=((((h.push o1).push o2).push { cls:=.type "tuple",data:=.seq #[.ref h.objs.size,.ref (h.objs.size+1)] }).push { cls:=.type "tuple",data:=.seq #[.none,.none] }).push { cls:=.type "zip",data:=.fields #[.none,.bool false,.bool false,.ref (h.objs.size+2),.ref (h.objs.size+3)] }
theorem b58 {l1 l2:Addr}{o1 o2:Obj}{P1 P2:Heap→Prop}(S1:SrcO l1 o1 P1) (S2:SrcO l2 o2 P2):Meets (Builtin.«zip.__new__» { pos:=[.type "zip",.ref l1,.ref l2] }) fun _ R s=>P1 s.heap∧P2 s.heap∧R (.ok (.ret (.ref (s.heap.objs.size+4)))) { s with heap:=z2H s.heap o1 o2 }:=by
 refine Meets.of_wp fun prog w A R s ⟨p1,p2,r⟩=>?_
 unfold Builtin.«zip.__new__»
 refine wB ?_
 unfold Builtin.SmallTypes.newClass
 dsimp only
 refine wB (wpAny_pure ?_)
 rw [if_neg (by decide)]
 refine wB ?_
 rw [sub_zip]
 refine wpAny_pure ?_
 rw [if_neg (by decide)]
 refine wpAny_pure ?_
 dsimp only
 rw [if_neg (by decide)]
 refine wB ?_
 unfold Builtin.SmallTypes.iterAll
 refine wB ?_
 rw [List.forIn_cons]
 refine wB (wB (wpAny_holding (S1.iter p1 (wpAny_pure ?_))))
 dsimp only
 rw [List.forIn_cons]
 refine wB (wB (wpAny_holding (S2.iter (S2.push p2) (wpAny_pure ?_))))
 dsimp only
 rw [List.forIn_nil]
 refine wpAny_pure (wpAny_pure ?_)
 refine wB (wpAny_newTuple ?_ (by simp [sizeLine_eq]))
 refine wB (wpAny_newTuple ?_ (by simp [sizeLine_eq]))
 refine wB ?_
 refine wB (wpAny_alloc' ?_)
 refine wpAny_pure ?_
 refine wpAny_pure ⟨_,rfl,?_⟩
 simp only [Heap.size_push]
 exact r
theorem al0 (a b:Value):checkTypeCall "zip" { pos:=[a,b] }=pure ():=by
 with_unfolding_all rfl
theorem al8 (a b:Value):checkBuiltinCall "zip.__new__" { pos:=[.type "zip",a,b] }=pure ():=by
 with_unfolding_all rfl
theorem at2 (a b c:Value):argsOk "object.__init__" { pos:=[a,b,c] }:=by
 with_unfolding_all rfl
theorem aw9 {prog:Program}{w:World}{A:Around}{E:Value→Shared→Prop}{s:Shared}{l1 l2:Addr}{xs ys:Array Value}{Q:Value→Shared→Prop}(p1:s.heap.IsList l1 xs) (p2:s.heap.IsTuple l2 ys)
 (q:∀ h':Heap,IsZip h' (s.heap.objs.size+4) (s.heap.objs.size+2) (s.heap.objs.size+3) .none→IsTwo h' (s.heap.objs.size+2) (.ref s.heap.objs.size) (.ref (s.heap.objs.size+1))→IsTwo h' (s.heap.objs.size+3) .none .none →
  h'.IsListIter s.heap.objs.size l1 0→h'.IsTupleIter (s.heap.objs.size+1) l2 0→(∀ (c:Addr) (o:Obj),s.heap.get? c=some o→h'.get? c=some o)→Q (.ref (s.heap.objs.size+4)) { s with heap:=h' }) :
 wpAny (model prog w) A (call (.type "zip") [.ref l1,.ref l2]) Q E s:=by
 refine callType_new F.called_zip (by decide) (al0 _ _) (al8 _ _) (fun obj=>at2 _ _ _) F.entry_zip_new (b58 (ad4 l1 xs) (at0 l2 ys)) ⟨p1,p2,?_⟩
 have e4:(z2H s.heap { cls:=.type "list_iterator",data:=.fields #[.ref l1,.int 0 0] } { cls:=.type "tuple_iterator",data:=.fields #[.ref l2,.int 0 0] }).get? (s.heap.objs.size+4)=some { cls:=.type "zip",data:=.fields #[.none,.bool false,.bool false,.ref (s.heap.objs.size+2),.ref (s.heap.objs.size+3)] }:=by
  have:=Heap.get?_push_size ((((s.heap.push { cls:=.type "list_iterator",data:=.fields #[.ref l1,.int 0 0] }).push { cls:=.type "tuple_iterator",data:=.fields #[.ref l2,.int 0 0] }).push { cls:=.type "tuple",data:=.seq #[.ref s.heap.objs.size,.ref (s.heap.objs.size+1)] }).push { cls:=.type "tuple",data:=.seq #[.none,.none] }) (o:={ cls:=.type "zip",data:=.fields #[.none,.bool false,.bool false,.ref (s.heap.objs.size+2),.ref (s.heap.objs.size+3)] }) rfl
  simp only [Heap.size_push] at this
  exact this
 refine ⟨⟨_,e4,rfl⟩,q _ e4 ?_ ?_ ?_ ?_ ?_⟩
 · have:=Heap.get?_push_size ((s.heap.push { cls:=.type "list_iterator",data:=.fields #[.ref l1,.int 0 0] }).push { cls:=.type "tuple_iterator",data:=.fields #[.ref l2,.int 0 0] }) (o:={ cls:=.type "tuple",data:=.seq #[.ref s.heap.objs.size,.ref (s.heap.objs.size+1)] }) rfl
   simp only [Heap.size_push] at this
   exact gP _ (gP _ this)
 · have:=Heap.get?_push_size (((s.heap.push { cls:=.type "list_iterator",data:=.fields #[.ref l1,.int 0 0] }).push { cls:=.type "tuple_iterator",data:=.fields #[.ref l2,.int 0 0] }).push { cls:=.type "tuple",data:=.seq #[.ref s.heap.objs.size,.ref (s.heap.objs.size+1)] }) (o:={ cls:=.type "tuple",data:=.seq #[.none,.none] }) rfl
   simp only [Heap.size_push] at this
   exact gP _ this
 · refine ⟨_,gP _ (gP _ (gP _ (gP _ (Heap.get?_push_size s.heap rfl)))),rfl,rfl⟩
 · have:=Heap.get?_push_size (s.heap.push { cls:=.type "list_iterator",data:=.fields #[.ref l1,.int 0 0] }) (o:={ cls:=.type "tuple_iterator",data:=.fields #[.ref l2,.int 0 0] }) rfl
   simp only [Heap.size_push] at this
   exact ⟨_,gP _ (gP _ (gP _ this)),rfl,rfl⟩
 · intro c o e
   exact gP _ (gP _ (gP _ (gP _ (gP _ e))))
def Itz2t (K:W.Frag) (a b:Addr):It :=
 ⟨fun i H=>∃ xs ys x y,SqL K H a xs∧SqT K H b ys∧xs[i]?=some x∧ys[i]?=some y,
  fun i H v H'=>∃ p x y,v=.ref p∧H p=none∧Same H H'∧H' p=some (.tup [x,y])∧(∀ xs,SqL K H a xs→xs[i]?=some x)∧(∀ ys,SqT K H b ys→ys[i]?=some y),
  fun i H=>∃ xs ys,SqL K H a xs∧SqT K H b ys∧(xs.length≤i∨ys.length≤i)⟩
theorem b59 {P:Program}{w:World}{K:W.Frag}{elts:List Expr}{x1:Nat}{pos:Pos}(a b z TI TO i1 i2:Addr) (D:Apt2 z TI TO i1 i2 a b) (E1:a≠i1) (E2:b≠i2) :
 Turn P w K (.Tuple elts x1 pos) (Itz2t K a b) [z,TI,TO,i1,i2] z (fun i h=>IsZip h z TI TO .none∧IsTwo h TI (.ref i1) (.ref i2)∧(∃ a b,IsTwo h TO a b)∧h.IsListIter i1 a i∧h.IsTupleIter i2 b i) where
 mem:=by simp
 obj:=fun i h st d hd=>by
  obtain ⟨hz,hTI,⟨a,b,hTO⟩,⟨o1,h1,_,d1⟩,⟨o2,h2,_,d2⟩⟩:=st
  rcases (by simpa using hd:d=z∨d=TI∨d=TO∨d=i1∨d=i2) with rfl | rfl | rfl | rfl | rfl
  · exact ⟨_,hz,fun v q=>by cases q⟩
  · exact ⟨_,hTI,fun v q=>by cases q⟩
  · exact ⟨_,hTO,fun v q=>by cases q⟩
  · exact ⟨_,h1,fun v q=>by rw [d1] at q; cases q⟩
  · exact ⟨_,h2,fun v q=>by rw [d2] at q; cases q⟩
 keep:=fun i h h' st k=>by
  obtain ⟨hz,hTI,⟨a,b,hTO⟩,h1,h2⟩:=st
  exact ⟨k z (by simp) _ hz,k TI (by simp) _ hTI,⟨a,b,k TO (by simp) _ hTO⟩,h1.at fun o x=>k i1 (by simp) o x,ah3 h2 fun o x=>k i2 (by simp) o x⟩
 item:=by
  intro X hP hw hK hc i pins s σ H E I hf st hg
  subst hP hw hK
  obtain ⟨xs,ys,x,y,hqa,hqb,hx,hy⟩:=hg
  obtain ⟨it1,rv1,p1,hz1⟩:=I.list hqa
  obtain ⟨it2,rv2,p2,hz2⟩:=I.tuple hqb
  obtain ⟨u1,hu1,ru1⟩:=rv1.get hx
  obtain ⟨u2,hu2,ru2⟩:=rv2.get hy
  obtain ⟨hz,hTI,⟨a',b',hTO⟩,h1,h2⟩:=st
  have fr:H s.heap.objs.size=none:=I.hok.fresh (Nat.le_refl _)
  have lt:∀ d∈[z,TI,TO,i1,i2],d<s.heap.objs.size:=fun d hd=>by
   obtain ⟨o1,e1,_⟩:=h1
   obtain ⟨o2,e2,_⟩:=h2
   rcases (by simpa using hd:d=z∨d=TI∨d=TO∨d=i1∨d=i2) with rfl | rfl | rfl | rfl | rfl
   · exact Heap.lt_size hz
   · exact Heap.lt_size hTI
   · exact Heap.lt_size hTO
   · exact Heap.lt_size e1
   · exact Heap.lt_size e2
  refine ai3 (k:=i) D (a97 (xs:=it1.toArray) E1) (ag2 (xs:=it2.toArray) E2) hz hTI hTO ⟨h1,p1.isList⟩ ⟨h2,p2⟩ (x:=u1) (y:=u2) (by simpa using hu1) (by simpa using hu2) fun h' a1 a2 a3 a4 a6 a7 hk=>?_
  have I1:Inv X pins σ H { s with heap:=h' }:=I.turnedL (t':=s.toks) (ch:=[z,TI,TO,i1,i2]) (fun d o hd q=>hk d o (fun e=>hd (by simp at e ⊢; rcases e with e | e | e | e <;> simp [e])) q) hf
  have I2:Inv X pins σ (upd H s.heap.objs.size (.tup [x,y])) { s with heap:=h' }:=I1.adopt (o:=.tup [x,y]) fr I.sz (Nat.ne_of_gt I.lt) (fun n c ec e=>by
   obtain ⟨v,q⟩:=I.cell n c ec
   exact absurd q.lt (by rw [e]; exact Nat.lt_irrefl _)) (fun q hq e=>absurd (Heap.lt_size (I.pin q hq).1) (by rw [e]; exact Nat.lt_irrefl _))
   ⟨le_line (by simp),[u1,u2],.cons ru1 (.cons ru2 .nil),⟨_,a6,rfl,_,rfl⟩⟩
  have hf2:∀ d∈[z,TI,TO,i1,i2],FpOk X pins (upd H s.heap.objs.size (.tup [x,y])) d:=fun d hd=>⟨by rw [a09 (Nat.ne_of_lt (lt d hd))]; exact (hf d hd).1,(hf d hd).2⟩
  obtain ⟨nd,_⟩:=D
  obtain ⟨n1,n2,n3,n4,n6,n7,n8,n10,n11,n13⟩:=Apt2.all nd
  refine ⟨_,rfl,wpAny_letOwnedTupleGo_zip a1 fun h2' hz' hs'=>⟨.ref s.heap.objs.size,_,I2.turnedL (t':=s.toks) (ch:=[z]) (fun d o hd q=>(hs'.2 d (fun e=>hd (by simp [e]))).trans q) (fun d hd=>hf2 d (by simp at hd; simp [hd])),rfl,⟨s.heap.objs.size,x,y,rfl,fr,Same.new fr,a33,fun q hq=>by rw [I.list_inj hq hqa]; exact hx,fun q hq=>by rw [I.tuple_inj hq hqb]; exact hy⟩,⟨hz',a02 hs' (Ne.symm n1) (hk _ _ (by simp [Ne.symm n1,n6,n7,n8]) hTI),⟨_,_,a02 hs' (Ne.symm n2) a2⟩,a3.1.extBut hs'.extBut (Ne.symm n3),a4.1.extBut hs'.extBut (Ne.symm n4)⟩,fun d hd=>(hf2 d hd).1⟩⟩
 done:=by
  intro X hP hw hK hc i pins s σ H E I hf st hg
  subst hP hw hK
  obtain ⟨xs,ys,hqa,hqb,hx⟩:=hg
  obtain ⟨it1,rv1,p1,hz1⟩:=I.list hqa
  obtain ⟨it2,rv2,p2,hz2⟩:=I.tuple hqb
  obtain ⟨hz,hTI,⟨a',b',hTO⟩,h1,h2⟩:=st
  have l1:=rv1.length
  have l2:=rv2.length
  refine ak9 (k:=i) (I.ok.hd hc) D (a97 (xs:=it1.toArray) E1) (ag2 (xs:=it2.toArray) E2) hz hTI hTO ⟨h1,p1.isList⟩ ⟨h2,p2⟩ ?_ fun h' hk=>⟨rfl,I.turnedL (t':=s.toks) (ch:=[z,TI,TO,i1,i2]) (fun d o hd q=>hk d o (fun e=>hd (by simp at e ⊢; rcases e with e | e | e | e <;> simp [e])) q) hf⟩
  rcases hx with e | e
  · exact .inl (by simp; omega)
  · exact .inr (by simp; omega)
 self:=fun A i s Q E st h=>wpAny_pyIter_zip st.1 h
section
variable {X:Cx}{elts:List Expr}{x1:Nat}{tpos:Pos}
def iZip2t (K:W.Frag) (ta:TA):TI:=fun σ H R=>ta σ H fun vs H1=>∃ a b,vs=[.ref a,.ref b]∧(∃ xs,SqL K H1 a xs)∧(∃ ys,SqT K H1 b ys)∧R (Itz2t K a b) H1
theorem bi7 (K:W.Frag) {a b:Expr}{ta:TA}{p pos:Pos}(hg:Gl X "zip") (hm:X.mg "zip"=none) (ha:PA X [a,b] ta) (hs:starEach [a,b] X.env=[(false,eval a X.env),(false,eval b X.env)]:=by rfl) (hs2:starEach [b] X.env=[(false,eval b X.env)]:=by rfl) (hK:X.K=K:=by rfl) :
 PI X (.Tuple elts x1 tpos) (.Call (.Name "zip" p) [a,b] [] pos) (iZip2t K ta):=by
 subst hK
 intro pins s σ H R I h
 refine Call_ (ae7 I hg hm af8 (PyProof.Rows.callWith_type1 (thn (ha pos pins s σ H _ I h) fun us s1 ⟨vs,H1,I1,r1,q1⟩=>?_) (by rw [hs,hs2]) (by rw [hs2]; rfl)))
 obtain ⟨l1,l2,e,⟨xs,hq1⟩,⟨ys,hq2⟩,q⟩:=q1
 subst e
 obtain ⟨u1,u2,rfl,r2,r3⟩:=bf0 r1
 cases r2
 cases r3
 obtain ⟨it1,rv1,p1,hz1⟩:=I1.list hq1
 obtain ⟨it2,rv2,p2,hz2⟩:=I1.tuple hq2
 have a1:l1<s1.heap.objs.size:=by obtain ⟨_,e,_⟩:=p1.isList; exact Heap.lt_size e
 have a2:l2<s1.heap.objs.size:=by obtain ⟨_,e,_⟩:=p2; exact Heap.lt_size e
 refine aw9 p1.isList p2 fun h' b1 b2 b3 b4 b5 hk=>?_
 refine wpAny_pyIter_zip b1 ?_
 have fp:∀ d,s1.heap.objs.size≤d→FpOk X pins H1 d:=fun d hd=>I1.fpOk hd (I1.hok.fresh hd)
 generalize s1.heap.objs.size=m at a1 a2 b1 b2 b3 b4 b5 fp ⊢
 have hA1:l1<m:=a1
 have hA2:l2<m:=a2
 have ne:∀ {l k:Addr},l<m→l≠m+k:=fun {l k} h=>Nat.ne_of_lt (Nat.lt_of_lt_of_le h (Nat.le_add_right _ _))
 have D:Apt2 (m+4) (m+2) (m+3) m (m+1) l1 l2:=by
  constructor
  · simp
  · intro l hl
    have hlm:l<m:=by
     simp only [List.mem_cons,List.not_mem_nil,or_false] at hl
     rcases hl with rfl | rfl
     · exact hA1
     · exact hA2
    simp only [List.mem_cons,List.not_mem_nil,or_false,not_or]
    exact ⟨ne hlm,ne hlm,Nat.ne_of_lt hlm,ne hlm⟩
 refine ⟨m+4,[m+4,m+2,m+3,m,m+1],_,_,H1,rfl,I1.kept (t':=s1.toks) hk,b59 l1 l2 _ _ _ _ _ D (Nat.ne_of_lt hA1) (ne hA2),⟨b1,b2,⟨_,_,b3⟩,b4,b5⟩,fun d hd=>fp d ?_,q⟩
 simp only [List.mem_cons,List.not_mem_nil,or_false] at hd
 rcases hd with rfl | rfl | rfl | rfl | rfl
 · exact Nat.le_add_right _ _
 · exact Nat.le_add_right _ _
 · exact Nat.le_add_right _ _
 · exact Nat.le_refl _
 · exact Nat.le_add_right _ _
end
theorem br7 {K:W.Frag}{σ:St} {H:Hp}{R:It→Hp→Prop}{ts:TA}(h:ts σ H fun vs H1=>∃ a b,vs=[.ref a,.ref b]∧(∃ xs,SqL K H1 a xs)∧(∃ ys,SqT K H1 b ys)∧R (Itz2t K a b) H1):iZip2t K ts σ H R:=h
theorem bi8 {K:W.Frag}{a b:Addr}{xs ys:List V}{te:TE}{tt:TT}{caps:List Nat}{σ:St} {H:Hp}{Q:VK}(hl2:xs.length=ys.length) (hz:xs.length≤sizeLine) (Pv:Nat→List V→Hp→Prop) (h0:Pv 0 [] H) (hl:∀ i acc H,Pv i acc H→acc.length≤i∧SqL K H a xs∧SqT K H b ys)
 (hs:∀ i x z acc H H2,xs[i]?=some x→ys[i]?=some z→Pv i acc H→Same H H2→tt (some x::some z::capV caps σ) H2 fun b H4=>if b=true then te (some x::some z::capV caps σ) H4 fun y H5=>Pv (i+1) (acc++[y]) H5 else Pv (i+1) acc H4)
 (hd:∀ acc H,Pv xs.length acc H→New H (.lst acc) Q):CompEnd (Itz2t K a b) (gTup K 2 (gCons (gName 0) (gCons (gName 1) gNil))) tt te 2 caps σ H Q:=by
 refine ⟨fun i m acc σ' H=>m=xs.length - i∧i≤xs.length∧(∃ u v,σ'=u::v::capV caps σ)∧Pv i acc H,⟨xs.length,by simp,Nat.zero_le _,⟨none,none,rfl⟩,h0⟩,?_⟩
 rintro i m acc σ' H' ⟨rfl,hi,⟨u0,v0,rfl⟩,p⟩
 obtain ⟨hl1,hq,hq2⟩:=hl i acc H' p
 by_cases hlt:i<xs.length
 · have hlt2:i<ys.length:=by omega
   refine .inr ⟨⟨xs,ys,xs[i],ys[i],hq,hq2,by simp [hlt],by simp [hlt2]⟩,by omega,fun ac σ2 H2=>(∃ u v,σ2=u::v::capV caps σ)∧Pv (i+1) ac H2,fun ac σ2 H2 ⟨e,p'⟩=>⟨xs.length - (i+1),by omega,rfl,hlt,e,p'⟩,fun x H2 y=>?_⟩
   obtain ⟨q,x,z,rfl,hn,sm,hT,hx,hy⟩:=y
   have hst:=hs i x z acc H' H2 (hx xs hq) (hy ys hq2) p sm
   have eN:∀ ac H5,((∃ u1 v1,some x::some z::capV caps σ=u1::v1::capV caps σ)∧Pv (i+1) ac H5)=Pv (i+1) ac H5:=fun ac H5=>propext ⟨And.right,fun p=>⟨⟨_,_,rfl⟩,p⟩⟩
   refine ⟨q,[x,z],rfl,SqT.of hT,rfl,x,[z],rfl,z,[],rfl,rfl,?_⟩
   show tt (some x::some z::capV caps σ) _ fun b H4=>if b=true then te (some x::some z::capV caps σ) H4 fun y H5=>((∃ u1 v1,some x::some z::capV caps σ=u1::v1::capV caps σ)∧Pv (i+1) (acc++[y]) H5) else ((∃ u1 v1,some x::some z::capV caps σ=u1::v1::capV caps σ)∧Pv (i+1) acc H4)
   simp only [eN]
   exact hst
 · have e:i=xs.length:=by omega
   subst e
   exact .inl ⟨⟨xs,ys,hq,hq2,.inl (Nat.le_refl _)⟩,New.to (hd acc H' p)⟩
theorem br8 {K:W.Frag}{a b c:Addr}{xs ys us:List V}{te:TE}{tt:TT}{caps:List Nat}{σ:St} {H:Hp}{Q:VK}(hl2:xs.length=ys.length) (hl3:xs.length=us.length) (hz:xs.length≤sizeLine) (Pv:Nat→List V→Hp→Prop) (h0:Pv 0 [] H) (hl:∀ i acc H,Pv i acc H→acc.length≤i∧SqL K H a xs∧SqL K H b ys∧SqL K H c us)
 (hs:∀ i x z u acc H H2,xs[i]?=some x→ys[i]?=some z→us[i]?=some u→Pv i acc H→Same H H2→tt (some x::some z::some u::capV caps σ) H2 fun b H4=>if b=true then te (some x::some z::some u::capV caps σ) H4 fun y H5=>Pv (i+1) (acc++[y]) H5 else Pv (i+1) acc H4)
 (hd:∀ acc H,Pv xs.length acc H→New H (.lst acc) Q):CompEnd (Itz3 K a b c) (gTup K 3 (gCons (gName 0) (gCons (gName 1) (gCons (gName 2) gNil)))) tt te 3 caps σ H Q:=by
 refine ⟨fun i m acc σ' H=>m=xs.length - i∧i≤xs.length∧(∃ u v t,σ'=u::v::t::capV caps σ)∧Pv i acc H,⟨xs.length,by simp,Nat.zero_le _,⟨none,none,none,rfl⟩,h0⟩,?_⟩
 rintro i m acc σ' H' ⟨rfl,hi,⟨u0,v0,t0,rfl⟩,p⟩
 obtain ⟨hl1,hq,hq2,hq3⟩:=hl i acc H' p
 by_cases hlt:i<xs.length
 · have hlt2:i<ys.length:=by omega
   have hlt3:i<us.length:=by omega
   refine .inr ⟨⟨xs,ys,us,xs[i],ys[i],us[i],hq,hq2,hq3,by simp [hlt],by simp [hlt2],by simp [hlt3]⟩,by omega,fun ac σ2 H2=>(∃ u v t,σ2=u::v::t::capV caps σ)∧Pv (i+1) ac H2,fun ac σ2 H2 ⟨e,p'⟩=>⟨xs.length - (i+1),by omega,rfl,hlt,e,p'⟩,fun x H2 y=>?_⟩
   obtain ⟨q,x,z,u,rfl,hn,sm,hT,hx,hy,hu⟩:=y
   have hst:=hs i x z u acc H' H2 (hx xs hq) (hy ys hq2) (hu us hq3) p sm
   have eN:∀ ac H5,((∃ u1 v1 t1,some x::some z::some u::capV caps σ=u1::v1::t1::capV caps σ)∧Pv (i+1) ac H5)=Pv (i+1) ac H5:=fun ac H5=>propext ⟨And.right,fun p=>⟨⟨_,_,_,rfl⟩,p⟩⟩
   refine ⟨q,[x,z,u],rfl,SqT.of hT,rfl,x,[z,u],rfl,z,[u],rfl,u,[],rfl,rfl,?_⟩
   show tt (some x::some z::some u::capV caps σ) _ fun b H4=>if b=true then te (some x::some z::some u::capV caps σ) H4 fun y H5=>((∃ u1 v1 t1,some x::some z::some u::capV caps σ=u1::v1::t1::capV caps σ)∧Pv (i+1) (acc++[y]) H5) else ((∃ u1 v1 t1,some x::some z::some u::capV caps σ=u1::v1::t1::capV caps σ)∧Pv (i+1) acc H4)
   simp only [eN]
   exact hst
 · have e:i=xs.length:=by omega
   subst e
   exact .inl ⟨⟨xs,ys,us,hq,hq2,hq3,.inl (Nat.le_refl _)⟩,New.to (hd acc H' p)⟩
section
variable {X:Cx}
def rEqM:R2:=fun x y H Q=>rEq x y H Q∨∃ a xs s,x=.ref a∧H a=some (.tup xs)∧y=.str s∧Q (.bl false) H
theorem br9 (hu:X.A.units+64<cLine):OpR X (compareOp .Eq) rEqM:=by
 intro pins s σ H x y v u Q I rx ry h
 rcases h with h | ⟨a,xs,t,rfl,e,rfl,q⟩
 · exact ai0 pins s σ H x y v u Q I rx ry h
 · cases rx
   obtain ⟨t2,rfl⟩:=ry
   obtain ⟨is1,q1,p1,_⟩:=I.tuple (SqT.of e)
   exact SeqAt.RcAt.tuple_str _ _ p1 (by omega) X.prog X.w X.xe (EP X pins σ Q) ⟨.bl false,H,I,rfl,q⟩
end
theorem bb5 {P:Program}{w:World}{K:W.Frag}{mg:Str→Option Value}{base:Heap}{N:List Str}{qual:Str}{scope:Scope}{f C:Addr}{cd:Value}{A:Around}{outer:List Env}{s:Shared}{H:Hp}{E:XK} :
 Passes (CXE P w C) (cxOf (CXE P w C) P w K mg base N qual scope f cd A outer s H E) E:=by
 intro pins σ H0 s0 e s' I hc
 obtain ⟨a,tt,H',B,vs,rfl,os,bare,un,ok,cov,fl,tup,q⟩:=hc
 have I1:Inv (cxOf (CXE P w C) P w K mg base N qual scope f cd A outer s H E) pins σ H' s':=I.call' (ch:=[]) os un ok bare (fun b z=>absurd z (by simp))
 have hstk:=I1.stack
 have hfree:=I1.stkFree
 have hfrm:=I1.ok.frames
 have hun0:=I.base
 have hun:=I1.base
 have hok:=I1.hok
 have hos:=I1.os
 have hbare:=I1.bare
 have hfrf:=I1.ok.frf
 dsimp only [cxOf,Cx.fs] at hstk hfree hfrm hun hun0 hok hos hfrf un cov fl ⊢
 have hin:∀ env∈(envOfC qual scope s.heap.objs.size f cd::outer),∀ b,env.frame=some b→b∈frs (envOfC qual scope s.heap.objs.size f cd::outer):=fun env he b hb=>List.mem_filterMap.mpr ⟨env,he,hb⟩
 have hmem:∀ b,b∈frs outer→b∈frs (envOfC qual scope s.heap.objs.size f cd::outer):=fun b hb=>by
  obtain ⟨env,he,hf⟩:=List.mem_filterMap.mp hb
  exact hin env (List.mem_cons_of_mem _ he) b hf
 have notin:∀ b o,s.heap.get? b=some o→b∉frs outer→b∉frs (envOfC qual scope s.heap.objs.size f cd::outer):=fun b o e hb hm=>by
  obtain ⟨env,he,hf⟩:=List.mem_filterMap.mp hm
  rcases List.mem_cons.mp he with rfl | he
  · have z:s.heap.objs.size=b:=Option.some.inj hf
    rw [← z] at e
    exact absurd (Heap.lt_size e) (Nat.lt_irrefl _)
  · exact hb (List.mem_filterMap.mpr ⟨env,he,hf⟩)
 refine wpAny_leaves_onW hfrm rfl fl fun h2 fl2 up=>?_
 have cov2:Cov (frs outer) H H' s.heap s'.heap B :=
  ⟨fun b o e n hb=>cov.old b o (hun0.keep b o e n hb (by simp)) (hun0.free b o e n (by simp)) (notin b o e hb),fun b o e hb=>by
   obtain ⟨o',e'⟩:=hun0.there b o e (by simp)
   exact cov.ther b o' e' (notin b o e hb),cov.abs⟩
 obtain ⟨u2,ok2,c2⟩:=az7 hun hok cov2 fl2.1 up (fun b hb=>⟨hfrf b hb,fun o e=>by
  obtain ⟨_,o',e',hd⟩:=hstk.mem (hmem b hb)
  rw [e] at e'
  cases e'
  exact hd⟩) fun b hb=>hfree b (hmem b hb)
 exact ⟨a,tt,H',B,vs,rfl,hos,hbare,u2,ok2,c2,fl2,tup.of_slots up,q⟩
section
variable {X:Cx}
def rEqML:R2:=fun x y H Q=>rEq x y H Q∨∃ a xs s,x=.ref a∧H a=some (.lst xs)∧y=.str s∧Q (.bl false) H
theorem bi9 (hu:X.A.units+64<cLine):OpR X (compareOp .Eq) rEqML:=by
 intro pins s σ H x y v u Q I rx ry h
 rcases h with h | ⟨a,xs,t,rfl,e,rfl,q⟩
 · exact ai0 pins s σ H x y v u Q I rx ry h
 · cases rx
   obtain ⟨t2,rfl⟩:=ry
   obtain ⟨is1,q1,p1,_⟩:=I.list (SqL.of (K:=X.K) e)
   exact SeqAt.RcAt.list_str _ _ p1.isList (by omega) X.prog X.w X.xe (EP X pins σ Q) ⟨.bl false,H,I,rfl,q⟩
def rEqX:R2:=fun x y H Q=>rEq x y H Q∨rEqW x y H Q
theorem bs0 (hu:X.A.units+64<cLine):OpR X (compareOp .Eq) rEqX:=by
 intro pins s σ H x y v u Q I rx ry h
 rcases h with h | h
 · exact ai0 pins s σ H x y v u Q I rx ry h
 · exact bq4 hu pins s σ H x y v u Q I rx ry h
def rNeX:R2:=fun x y H Q=>rNe x y H Q∨rNeW x y H Q
theorem bb6 (hu:X.A.units+64<cLine):OpR X (compareOp .NotEq) rNeX:=by
 intro pins s σ H x y v u Q I rx ry h
 rcases h with h | h
 · exact bv8 pins s σ H x y v u Q I rx ry h
 · exact bq5 hu pins s σ H x y v u Q I rx ry h
end
end L2
local macro_rules | `(tactic| walk_at "d") => `(tactic| first | exact ⟨by decide, by decide, by decide⟩ | exact ⟨by decide, by decide⟩ | exact .inr (.inr ⟨by decide, by decide⟩) | exact .inr (.inl ⟨by decide, by decide⟩) | decide | omega | exact L2.le_line (by simp only [List.length_cons, List.length_nil]; omega))
local macro_rules | `(tactic| walk_at "o") => `(tactic| first | exact Or.inl rfl | exact Or.inr rfl)
local macro_rules | `(tactic| walk_at "s") => do
  let mut acc ← `(tactic| ((with_reducible refine L2.i_rgA ?k ?l ?_); (case k => walk_at "d"); (case l => walk_at "d")))
  for s in ("i_rI af6 c63 c64 i_c i_op i_un i_rU c65 bp1 c66 c67 bx9 i_bl c68 i_if c69 by0 by1 by2 c70 i_cb by3 c71 c72 c73 by5 c74 i_or by6 c75 c76 i_lc by7 bp2 by8 c77 c78 i_bm c79 i_sl bg1 by9 c80 bg2 bg3 bz0 bz2 bz3 bz1 bp4 bp5 c81 c82 c83 bz4 bz5 bz7 bz9 i_tB c84 c04 c05 bh4 c06 c85 c08 c09 c30 c34 c87 br3 br1 c36 bi3 i_bget i_bsetd i_dk br6 c91 br7 by4".splitOn " ").reverse do
    let n := Lean.mkIdent (Lean.Name.str `L2 s)
    if s == "i_rI" || s == "af6" || s == "by4" then acc ← `(tactic| first | ((with_reducible refine $n ?k ?_); (case k => walk_at "d")) | $acc:tactic)
    else acc ← `(tactic| first | with_reducible refine $n ?_ | $acc:tactic)
  `(tactic| first | ((with_reducible refine L2.i_name ?_); dsimp only [List.set_cons_zero, List.set_cons_succ]) | ((with_reducible refine' L2.i_var ?k ?_); (case k => rfl)) | $acc:tactic)
local macro_rules | `(tactic| walk_at "r") => `(tactic| (repeat walk_at "s"))
local macro_rules | `(tactic| walk_at "go") => do
  let ids := (("L2.start List.map_cons List.map_nil List.length_cons List.length_nil List.replicate List.cons_append List.nil_append Nat.reduceSub Nat.reduceAdd L2.nox_K L2.wish_K L2.cxOf_K L2.cxC_K".splitOn " ").map fun s => Lean.mkIdent s.toName).toArray
  `(tactic| (simp only [$[$ids:term],*]; walk_at "r"))
namespace K90
open PySem L2
theorem sc_still_lines:FnScope ["hall","standing","quiet","moments","heard","ended","told","ahead","lines"] ["hall","standing"] (defScope a47):=⟨rfl,rfl,rfl,by decide +kernel,rfl,by decide +kernel,by decide +kernel⟩
theorem sc_first_fall:FnScope ["hall","turns","standing","lines","gone"] ["hall","turns"] (defScope a70):=⟨rfl,rfl,rfl,by decide +kernel,rfl,by decide +kernel,by decide +kernel⟩
theorem ai4:FnScope ["self","machines"] ["self","machines"] (defScope a57):=⟨rfl,rfl,rfl,by decide +kernel,rfl,by decide +kernel,by decide +kernel⟩
theorem sc_Hall_begin:FnScope ["self","told","machine"] ["self"] (defScope a65):=⟨rfl,rfl,rfl,by decide +kernel,rfl,by decide +kernel,by decide +kernel⟩
theorem sc_Hall_step:FnScope ["self","standing","outer","told","rows","machine","line","event","row"] ["self","standing","outer"] (defScope a80):=⟨rfl,rfl,rfl,by decide +kernel,rfl,by decide +kernel,by decide +kernel⟩
theorem ae5:FnScope ["self","standing"] ["self","standing"] (defScope a42):=⟨rfl,rfl,rfl,by decide +kernel,rfl,by decide +kernel,by decide +kernel⟩
theorem bb7:FnScope ["told"] ["told"] (defScope aa8):=⟨rfl,rfl,rfl,by decide +kernel,rfl,by decide +kernel,by decide +kernel⟩
theorem ap3:FnScope ["row","event"] ["row","event"] (defScope a71):=⟨rfl,rfl,rfl,by decide +kernel,rfl,by decide +kernel,by decide +kernel⟩
theorem sc_settled_turn:FnScope ["told","rows","said","texts","text","handed","line"] ["told","rows"] (defScope a49):=⟨rfl,rfl,rfl,by decide +kernel,rfl,by decide +kernel,by decide +kernel⟩
theorem at3:FnScope ["room","numbers"] ["room","numbers"] (defScope a73):=⟨rfl,rfl,rfl,by decide +kernel,rfl,by decide +kernel,by decide +kernel⟩
theorem sc_places_by:FnScope ["events","places","place","event"] ["events"] (defScope a81):=⟨rfl,rfl,rfl,by decide +kernel,rfl,by decide +kernel,by decide +kernel⟩
theorem ax0:FnScope ["places","event"] ["places","event"] (defScope a88):=⟨rfl,rfl,rfl,by decide +kernel,rfl,by decide +kernel,by decide +kernel⟩
theorem sc_TableMachine___init__:FnScope ["self","table","same"] ["self","table"] (defScope a31):=⟨rfl,rfl,rfl,by decide +kernel,rfl,by decide +kernel,by decide +kernel⟩
theorem ac7:FnScope ["self"] ["self"] (defScope a39):=⟨rfl,rfl,rfl,by decide +kernel,rfl,by decide +kernel,by decide +kernel⟩
theorem sc_TableMachine_step:FnScope ["self","standing","event","row"] ["self","standing","event"] (defScope a43):=⟨rfl,rfl,rfl,by decide +kernel,rfl,by decide +kernel,by decide +kernel⟩
theorem ad5:FnScope ["self","standing"] ["self","standing"] (defScope a44):=⟨rfl,rfl,rfl,by decide +kernel,rfl,by decide +kernel,by decide +kernel⟩
theorem sc_law_take:FnScope ["state","many","found"] ["state","many"] (defScope a89):=⟨rfl,rfl,rfl,by decide +kernel,rfl,by decide +kernel,by decide +kernel⟩
theorem ax1:FnScope ["script","k","mixed"] ["script","k","mixed"] (defScope a90):=⟨rfl,rfl,rfl,by decide +kernel,rfl,by decide +kernel,by decide +kernel⟩
theorem sc_law_said:FnScope ["state","some"] ["state"] (defScope a91):=⟨rfl,rfl,rfl,by decide +kernel,rfl,by decide +kernel,by decide +kernel⟩
theorem sc_law_table:FnScope ["cell","mixed","state","keys","words","events","many","saying","rooms","k"] ["cell","mixed"] (defScope a63):=⟨rfl,rfl,rfl,by decide +kernel,rfl,by decide +kernel,by decide +kernel⟩
theorem sc_law_place:FnScope ["events","event","kinds"] ["events","event"] (defScope a74):=⟨rfl,rfl,rfl,by decide +kernel,rfl,by decide +kernel,by decide +kernel⟩
theorem sc_law_turn:FnScope ["tables","standing","outer","rows","rooms","talks","table","room","row","event","said","goal"] ["tables","standing","outer"] (defScope a92):=⟨rfl,rfl,rfl,by decide +kernel,rfl,by decide +kernel,by decide +kernel⟩
theorem sc_law_standing:FnScope ["rooms","rows","talks","said","text"] ["rooms","rows","talks"] (defScope a55):=⟨rfl,rfl,rfl,by decide +kernel,rfl,by decide +kernel,by decide +kernel⟩
theorem sc_law_still:FnScope ["tables","standing","places","still","talks","behind"] ["tables","standing"] (defScope a66):=⟨rfl,rfl,rfl,by decide +kernel,rfl,by decide +kernel,by decide +kernel⟩
theorem sc_law_due:FnScope ["tables","turns","standing","at","still"] ["tables","turns"] (defScope a85):=⟨rfl,rfl,rfl,by decide +kernel,rfl,by decide +kernel,by decide +kernel⟩
theorem sc_law_found:FnScope ["hall","turns","found"] ["hall","turns"] (defScope a82):=⟨rfl,rfl,rfl,by decide +kernel,rfl,by decide +kernel,by decide +kernel⟩
theorem sc_law_ring:FnScope ["many","rooms","k","said"] ["many"] (defScope a93):=⟨rfl,rfl,rfl,by decide +kernel,rfl,by decide +kernel,by decide +kernel⟩
theorem sc_law_keyed:FnScope ["need","rooms"] ["need"] (defScope a75):=⟨rfl,rfl,rfl,by decide +kernel,rfl,by decide +kernel,by decide +kernel⟩
theorem sc_law_known:FnScope ["cell","mixed","state","needs","tables","rings","turns","had","due","k","outer","line","fallen"] ["cell","mixed"] (defScope a58):=⟨rfl,rfl,rfl,by decide +kernel,rfl,by decide +kernel,by decide +kernel⟩
theorem sc_law:FnScope ["script","k","cell","tables","turns","due","mixed","first","hall","state","handed","found"] ["script"] (defScope af0):=⟨rfl,rfl,rfl,by decide +kernel,rfl,by decide +kernel,by decide +kernel⟩
set_option genInjectivity false in
structure Adr where
 a_still_lines:Addr
 fd_still_lines:FuncData
 a_first_fall:Addr
 fd_first_fall:FuncData
 a_Hall___init__:Addr
 fd_Hall___init__:FuncData
 a_Hall_begin:Addr
 fd_Hall_begin:FuncData
 a_Hall_step:Addr
 fd_Hall_step:FuncData
 a_Hall_ended_lines:Addr
 fd_Hall_ended_lines:FuncData
 a_copied:Addr
 fd_copied:FuncData
 a_put_behind:Addr
 fd_put_behind:FuncData
 a_settled_turn:Addr
 fd_settled_turn:FuncData
 a_room_with:Addr
 fd_room_with:FuncData
 a_places_by:Addr
 fd_places_by:FuncData
 a_place_of:Addr
 fd_place_of:FuncData
 a_TableMachine___init__:Addr
 fd_TableMachine___init__:FuncData
 a_TableMachine_begin:Addr
 fd_TableMachine_begin:FuncData
 a_TableMachine_step:Addr
 fd_TableMachine_step:FuncData
 a_TableMachine_over:Addr
 fd_TableMachine_over:FuncData
 a__law_take:Addr
 fd__law_take:FuncData
 a__law_cell:Addr
 fd__law_cell:FuncData
 a__law_said:Addr
 fd__law_said:FuncData
 a__law_table:Addr
 fd__law_table:FuncData
 a__law_place:Addr
 fd__law_place:FuncData
 a__law_turn:Addr
 fd__law_turn:FuncData
 a__law_standing:Addr
 fd__law_standing:FuncData
 a__law_still:Addr
 fd__law_still:FuncData
 a__law_due:Addr
 fd__law_due:FuncData
 a__law_found:Addr
 fd__law_found:FuncData
 a__law_ring:Addr
 fd__law_ring:FuncData
 a__law_keyed:Addr
 fd__law_keyed:FuncData
 a__law_known:Addr
 fd__law_known:FuncData
 a_law:Addr
 fd_law:FuncData
 c_MillError:Addr
 c_TooMany:Addr
 c_Machine:Addr
 c_Hall:Addr
 c_TableMachine:Addr
 u_QUIET:Value
 u_MOST_STANDINGS:Value
 u_MOST_WAITING:Value
 ad_QUIET:Addr
structure Txt (K:W.Frag) (mg:Str→Option Value) (t:Adr):Prop where
 F_still_lines:Fun K "still_lines" "still_lines" a47 t.a_still_lines t.fd_still_lines
 m_still_lines:mg "still_lines"=some (.ref t.a_still_lines)
 b_still_lines:Binds K t.fd_still_lines ["hall","standing"] []
 F_first_fall:Fun K "first_fall" "first_fall" a70 t.a_first_fall t.fd_first_fall
 m_first_fall:mg "first_fall"=some (.ref t.a_first_fall)
 b_first_fall:Binds K t.fd_first_fall ["hall","turns"] []
 F_Hall___init__:Fun K "__init__" "Hall.__init__" a57 t.a_Hall___init__ t.fd_Hall___init__
 b_Hall___init__:Binds K t.fd_Hall___init__ ["self","machines"] []
 F_Hall_begin:Fun K "begin" "Hall.begin" a65 t.a_Hall_begin t.fd_Hall_begin
 M_Hall_begin:Meth K t.c_Hall "begin" t.a_Hall_begin
 b_Hall_begin:Binds K t.fd_Hall_begin ["self"] []
 F_Hall_step:Fun K "step" "Hall.step" a80 t.a_Hall_step t.fd_Hall_step
 M_Hall_step:Meth K t.c_Hall "step" t.a_Hall_step
 b_Hall_step:Binds K t.fd_Hall_step ["self","standing","outer"] []
 F_Hall_ended_lines:Fun K "ended_lines" "Hall.ended_lines" a42 t.a_Hall_ended_lines t.fd_Hall_ended_lines
 M_Hall_ended_lines:Meth K t.c_Hall "ended_lines" t.a_Hall_ended_lines
 b_Hall_ended_lines:Binds K t.fd_Hall_ended_lines ["self","standing"] []
 F_copied:Fun K "copied" "copied" aa8 t.a_copied t.fd_copied
 m_copied:mg "copied"=some (.ref t.a_copied)
 b_copied:Binds K t.fd_copied ["told"] []
 F_put_behind:Fun K "put_behind" "put_behind" a71 t.a_put_behind t.fd_put_behind
 m_put_behind:mg "put_behind"=some (.ref t.a_put_behind)
 b_put_behind:Binds K t.fd_put_behind ["row","event"] []
 F_settled_turn:Fun K "settled_turn" "settled_turn" a49 t.a_settled_turn t.fd_settled_turn
 m_settled_turn:mg "settled_turn"=some (.ref t.a_settled_turn)
 b_settled_turn:Binds K t.fd_settled_turn ["told","rows"] []
 F_room_with:Fun K "room_with" "room_with" a73 t.a_room_with t.fd_room_with
 m_room_with:mg "room_with"=some (.ref t.a_room_with)
 b_room_with:Binds K t.fd_room_with ["room","numbers"] []
 F_places_by:Fun K "places_by" "places_by" a81 t.a_places_by t.fd_places_by
 m_places_by:mg "places_by"=some (.ref t.a_places_by)
 b_places_by:Binds K t.fd_places_by ["events"] []
 F_place_of:Fun K "place_of" "place_of" a88 t.a_place_of t.fd_place_of
 m_place_of:mg "place_of"=some (.ref t.a_place_of)
 b_place_of:Binds K t.fd_place_of ["places","event"] []
 F_TableMachine___init__:Fun K "__init__" "TableMachine.__init__" a31 t.a_TableMachine___init__ t.fd_TableMachine___init__
 b_TableMachine___init__:Binds K t.fd_TableMachine___init__ ["self","table"] []
 F_TableMachine_begin:Fun K "begin" "TableMachine.begin" a39 t.a_TableMachine_begin t.fd_TableMachine_begin
 M_TableMachine_begin:Meth K t.c_TableMachine "begin" t.a_TableMachine_begin
 b_TableMachine_begin:Binds K t.fd_TableMachine_begin ["self"] []
 F_TableMachine_step:Fun K "step" "TableMachine.step" a43 t.a_TableMachine_step t.fd_TableMachine_step
 M_TableMachine_step:Meth K t.c_TableMachine "step" t.a_TableMachine_step
 b_TableMachine_step:Binds K t.fd_TableMachine_step ["self","standing","event"] []
 F_TableMachine_over:Fun K "over" "TableMachine.over" a44 t.a_TableMachine_over t.fd_TableMachine_over
 M_TableMachine_over:Meth K t.c_TableMachine "over" t.a_TableMachine_over
 b_TableMachine_over:Binds K t.fd_TableMachine_over ["self","standing"] []
 F__law_take:Fun K "_law_take" "_law_take" a89 t.a__law_take t.fd__law_take
 m__law_take:mg "_law_take"=some (.ref t.a__law_take)
 b__law_take:Binds K t.fd__law_take ["state","many"] []
 F__law_cell:Fun K "_law_cell" "_law_cell" a90 t.a__law_cell t.fd__law_cell
 m__law_cell:mg "_law_cell"=some (.ref t.a__law_cell)
 b__law_cell:Binds K t.fd__law_cell ["script","k","mixed"] []
 F__law_said:Fun K "_law_said" "_law_said" a91 t.a__law_said t.fd__law_said
 m__law_said:mg "_law_said"=some (.ref t.a__law_said)
 b__law_said:Binds K t.fd__law_said ["state"] []
 F__law_table:Fun K "_law_table" "_law_table" a63 t.a__law_table t.fd__law_table
 m__law_table:mg "_law_table"=some (.ref t.a__law_table)
 b__law_table:Binds K t.fd__law_table ["cell","mixed"] []
 F__law_place:Fun K "_law_place" "_law_place" a74 t.a__law_place t.fd__law_place
 m__law_place:mg "_law_place"=some (.ref t.a__law_place)
 b__law_place:Binds K t.fd__law_place ["events","event"] []
 F__law_turn:Fun K "_law_turn" "_law_turn" a92 t.a__law_turn t.fd__law_turn
 m__law_turn:mg "_law_turn"=some (.ref t.a__law_turn)
 b__law_turn:Binds K t.fd__law_turn ["tables","standing","outer"] []
 F__law_standing:Fun K "_law_standing" "_law_standing" a55 t.a__law_standing t.fd__law_standing
 m__law_standing:mg "_law_standing"=some (.ref t.a__law_standing)
 b__law_standing:Binds K t.fd__law_standing ["rooms","rows","talks"] []
 F__law_still:Fun K "_law_still" "_law_still" a66 t.a__law_still t.fd__law_still
 m__law_still:mg "_law_still"=some (.ref t.a__law_still)
 b__law_still:Binds K t.fd__law_still ["tables","standing"] []
 F__law_due:Fun K "_law_due" "_law_due" a85 t.a__law_due t.fd__law_due
 m__law_due:mg "_law_due"=some (.ref t.a__law_due)
 b__law_due:Binds K t.fd__law_due ["tables","turns"] []
 F__law_found:Fun K "_law_found" "_law_found" a82 t.a__law_found t.fd__law_found
 m__law_found:mg "_law_found"=some (.ref t.a__law_found)
 b__law_found:Binds K t.fd__law_found ["hall","turns"] []
 F__law_ring:Fun K "_law_ring" "_law_ring" a93 t.a__law_ring t.fd__law_ring
 m__law_ring:mg "_law_ring"=some (.ref t.a__law_ring)
 b__law_ring:Binds K t.fd__law_ring ["many"] []
 F__law_keyed:Fun K "_law_keyed" "_law_keyed" a75 t.a__law_keyed t.fd__law_keyed
 m__law_keyed:mg "_law_keyed"=some (.ref t.a__law_keyed)
 b__law_keyed:Binds K t.fd__law_keyed ["need"] []
 F__law_known:Fun K "_law_known" "_law_known" a58 t.a__law_known t.fd__law_known
 m__law_known:mg "_law_known"=some (.ref t.a__law_known)
 b__law_known:Binds K t.fd__law_known ["cell","mixed"] []
 F_law:Fun K "law" "law" af0 t.a_law t.fd_law
 m_law:mg "law"=some (.ref t.a_law)
 b_law:Binds K t.fd_law ["script"] []
 m_MillError:mg "MillError"=some (.ref t.c_MillError)
 m_TooMany:mg "TooMany"=some (.ref t.c_TooMany)
 m_Machine:mg "Machine"=some (.ref t.c_Machine)
 m_Hall:mg "Hall"=some (.ref t.c_Hall)
 cl_Hall:Cls K t.c_Hall
 mk_Hall:Mk K t.c_Hall t.a_Hall___init__
 n_Hall_lines:NoAttr K t.c_Hall "lines"
 n_Hall_machines:NoAttr K t.c_Hall "machines"
 m_TableMachine:mg "TableMachine"=some (.ref t.c_TableMachine)
 cl_TableMachine:Cls K t.c_TableMachine
 mk_TableMachine:Mk K t.c_TableMachine t.a_TableMachine___init__
 n_TableMachine_places:NoAttr K t.c_TableMachine "places"
 n_TableMachine_rooms:NoAttr K t.c_TableMachine "rooms"
 n_TableMachine_saying:NoAttr K t.c_TableMachine "saying"
 z_bool:mg "bool"=none
 z_enumerate:mg "enumerate"=none
 z_int:mg "int"=none
 z_isinstance:mg "isinstance"=none
 z_len:mg "len"=none
 z_list:mg "list"=none
 z_min:mg "min"=none
 z_range:mg "range"=none
 z_sum:mg "sum"=none
 z_tuple:mg "tuple"=none
 z_zip:mg "zip"=none
 xe_TooMany:W.excIn K t.c_TooMany [.type "ValueError",.type "Exception",.type "BaseException",.type "object"] "ValueError.__new__"=true
 m_QUIET:mg "QUIET"=some t.u_QUIET
 r_QUIET:RelV (.ref t.ad_QUIET) t.u_QUIET
 m_MOST_STANDINGS:mg "MOST_STANDINGS"=some t.u_MOST_STANDINGS
 r_MOST_STANDINGS:RelV (.int 2000) t.u_MOST_STANDINGS
 m_MOST_WAITING:mg "MOST_WAITING"=some t.u_MOST_WAITING
 r_MOST_WAITING:RelV (.int 3) t.u_MOST_WAITING
 d_QUIET:TupK K t.ad_QUIET [.str "quiet"]
section
variable {P:Program}{w:World}{K:W.Frag}{mg:Str→Option Value}{base:Heap}{t:Adr}
def Oth (s:Addr) (H H':Hp):Prop:=∀ y o,y≠s→H y=some o→H' y=some o
def StA (H:Hp) (s:Addr) (z:Int):Prop:=∃ x:Int,H s=some (.lst [.int x,.int z])
theorem Oth.refl {s:Addr}{H:Hp}:Oth s H H:=fun _ _ _ e=>e
theorem Oth.trans {s:Addr}{H H1 H2:Hp}(a:Oth s H H1) (b:Oth s H1 H2):Oth s H H2:=fun c o h e=>b c o h (a c o h e)
theorem a54 {s:Addr}{H H':Hp}(h:Same H H'):Oth s H H':=fun c o _ e=>h c o e
theorem Oth.tups {s:Addr}{H H':Hp}{z:Int}(f:Oth s H H') (k:StA H s z):Tups H H':=fun b ys e=>by
 obtain ⟨x,h⟩:=k
 exact f b _ (ae0 e h (fun z=>nomatch z)) e
theorem Oth.new {s:Addr}{H0 H H':Hp}(f:Oth s H H') (h:Same H0 H) (hs:H0 s=none):Same H0 H':=fun b o e=>f b o (a06 e hs) (h b o e)
theorem StA.same {H H':Hp}{s:Addr}{z:Int}(k:StA H s z) (h:Same H H'):StA H' s z:=by
 obtain ⟨x,e⟩:=k
 exact ⟨x,h _ _ e⟩
theorem Oth.free {s p:Addr}{H H':Hp}{z:Int}(f:Oth s H H') (k:StA H' s z) (h:H' p=none):H p=none:=by
 cases e:H p with
 | none=>rfl
 | some o =>
   obtain ⟨x,hs⟩:=k
   rw [f p o (fun q=>by rw [q,hs] at h; cases h) e] at h
   cases h
theorem ap4 (x:Int) {m:Nat}(h:0<m):∃ r:Nat,r<m∧x % (m:Int)=(r:Nat):=⟨(x % (m:Int)).toNat,by
 have h1:=Int.emod_nonneg x (show (m:Int)≠0 by omega)
 have h2:=Int.emod_lt_of_pos x (show (0:Int)<(m:Int) by omega)
 omega,by
 have h1:=Int.emod_nonneg x (show (m:Int)≠0 by omega)
 omega⟩
theorem cb {i j:Int}(h1:-1000000000000000000<i) (h2:i<1000000000000000000):CBig i j:=.inr (.inl ⟨by omega,by omega⟩)
theorem cb2 {i j:Int}(h1:-1000000000000000000<j) (h2:j<1000000000000000000):CBig i j:=.inr (.inr ⟨by omega,by omega⟩)
def bs1 (K:W.Frag):Sp:=fun vs H Q _=>∃ (s:Addr) (z:Int) (m:Nat),vs=[.ref s,.int (m:Nat)]∧StA H s z∧0<m∧m≤1000∧∀ (r:Nat) H',r<m→Oth s H H'→StA H' s z→Q (.int (r:Nat)) H'
theorem ab9 (T:Txt K mg t):FnOk P w K mg base CX0 1 t.a__law_take t.fd__law_take ["state","many"] (bs1 K):=by
 refine T.F__law_take.ok sc_law_take (fun vs H Q E h=>?_) (fun cdv A outer s H vs Q E hr h=>?_)
 · obtain ⟨s,z,m,rfl,_⟩:=h
   rfl
 · obtain ⟨s0,z,m,rfl,⟨x,hs⟩,hm,hm2,q⟩:=h
   refine ⟨_,(@a03 _ _ _ _ _ (@ab1 _ _ _ _ _ _ _ _ (@a53 _ _ _ _ _ _ _ _ ai0 (@a40 _ _ _ _ _ _ _ (a35 K) (pv 0) (@a04 _ _ _ _) (fun _ _=>rfl)) (@a04 _ _ _ _) (nomark _)) (@a03 _ _ _ _ _ (@ah8 _ _ _ _ _ _ (@a69 _ _ _ _ _ _ _ _ ad8 (@a69 _ _ _ _ _ _ _ _ af2 (@a69 _ _ _ _ _ _ _ _ a76 (@a40 _ _ _ _ _ _ _ (a35 K) (pv 0) (@a04 _ _ _ _) (fun _ _=>rfl)) (@a04 _ _ _ _)) (@a04 _ _ _ _)) (@a04 _ _ _ _)) (aq8 (pv 0) (@a04 _ _ _ _) ae9) (by rfl) (by rfl) (by rfl))
    (@a03 _ _ _ _ _ (@ah8 _ _ _ _ _ _ (@a69 _ _ _ _ _ _ _ _ ad8 (@a69 _ _ _ _ _ _ _ _ af2 (@a40 _ _ _ _ _ _ _ (a35 K) (pv 0) (@a04 _ _ _ _) (fun _ _=>rfl)) (@a40 _ _ _ _ _ _ _ (a35 K) (pv 0) (@a04 _ _ _ _) (fun _ _=>rfl))) (@a04 _ _ _ _)) (aq8 (pv 0) (@a04 _ _ _ _) ae9) (by rfl) (by rfl) (by rfl))
    (@a07 _ _ _ (@a52 _ _ _ _ (@a69 _ _ _ _ _ _ _ _ ad8 (@a69 _ _ _ _ _ _ _ _ ao5 (@a69 _ _ _ _ _ _ _ _ ad8 (@a69 _ _ _ _ _ _ _ _ af2 (@a40 _ _ _ _ _ _ _ (a35 K) (pv 0) (@a04 _ _ _ _) (fun _ _=>rfl)) (@a04 _ _ _ _)) (@a04 _ _ _ _)) (@a04 _ _ _ _)) (pv 1)))))) (@a68 _))
    (@a03 _ _ _ _ _ (@a36 _ _ 2 _ _ _ _ sc_law_take.nd rfl (by walk_at "o") (@a69 _ _ _ _ _ _ _ _ ad8 (@a40 _ _ _ _ _ _ _ (a35 K) (pv 0) (@a04 _ _ _ _) (fun _ _=>rfl)) (pv 1)) (by rfl) (by walk_at "o"))
    (@a03 _ _ _ _ _ (@ah8 _ _ _ _ _ _ (@a69 _ _ _ _ _ _ _ _ ao5 (@a40 _ _ _ _ _ _ _ (a35 K) (pv 0) (@a04 _ _ _ _) (fun _ _=>rfl)) (pv 1)) (aq8 (pv 0) (@a04 _ _ _ _) ae9) (by rfl) (by rfl) (by rfl))
    (@a07 _ _ _ (@a52 _ _ _ _ (pv 2)))))),?_⟩
   walk_at "go"
   refine a86 (SqL.of hs) (a05 (j:=1) rfl) ?_
   walk_at "r"
   have up:∀ y:Int,Oth s0 H (upd H s0 (.lst [.int y,.int z])):=fun y c o h e=>by rw [a09 h]; exact e
   have ups:∀ y:Int,upd H s0 (.lst [.int y,.int z]) s0=some (.lst [.int y,.int z]):=fun y=>a33
   refine ite2 (fun hc=>?_) (fun hc=>?_)
   · walk_at "r"
     refine a86 (SqL.of hs) (a05 (j:=0) rfl) ?_
     walk_at "r"
     refine as3 hs (j:=0) rfl ?_
     have b1:=Int.emod_nonneg ((x+1)*48271) (show (2147483647:Int)≠0 by decide)
     have b2:=Int.emod_lt_of_pos ((x+1)*48271) (show (0:Int)<2147483647 by decide)
     rw [show [V.int x,V.int z].set 0 (V.int ((x+1)*48271 % 2147483647))=[V.int ((x+1)*48271 % 2147483647),.int z] from rfl]
     generalize (x+1)*48271 % 2147483647=y at b1 b2
     walk_at "r"
     refine a86 (SqL.of (ups y)) (a05 (j:=0) rfl) ?_
     walk_at "r"
     refine a86 (SqL.of (ups y)) (a05 (j:=0) rfl) ?_
     walk_at "r"
     refine af6 (cb2 (by omega) (by omega)) ?_
     walk_at "r"
     refine as3 (ups y) (j:=0) rfl ?_
     rw [bn6,show [V.int y,V.int z].set 0 (V.int (y*y % 2147483629))=[V.int (y*y % 2147483629),.int z] from rfl]
     generalize y*y % 2147483629=y2
     walk_at "r"
     refine a86 (SqL.of (ups y2)) (a05 (j:=0) rfl) ?_
     walk_at "r"
     obtain ⟨r,hr,e⟩:=ap4 (y2*69621 % 2147483587 / 8) hm
     rw [e]
     exact q r _ hr (up y2) ⟨y2,ups y2⟩
   · walk_at "r"
     refine a86 (SqL.of hs) (a05 (j:=0) rfl) ?_
     walk_at "r"
     obtain ⟨r,hr,e⟩:=ap4 x hm
     rw [e]
     refine a86 (SqL.of hs) (a05 (j:=0) rfl) ?_
     walk_at "r"
     refine i_rI (show CDiv _ _ from ⟨by omega,by omega⟩) ?_
     walk_at "r"
     refine as3 hs (j:=0) rfl ?_
     walk_at "r"
     exact q r _ hr (up (x / (m:Nat))) ⟨x / (m:Nat),ups _⟩
def bs2 (K:W.Frag):Sp:=fun vs H Q _=>∃ (a:Addr) (ns:List Int) (k:Nat) (m:Int),vs=[.ref a,.int (k:Nat),.int m]∧SqL K H a (ns.map V.int)∧k≤1000∧0≤m∧m≤1∧∀ (z:Int) H',Same H H'→Q (.int z) H'
theorem ax2 (T:Txt K mg t):FnOk P w K mg base CX0 1 t.a__law_cell t.fd__law_cell ["script","k","mixed"] (bs2 K):=by
 refine T.F__law_cell.ok ax1 (fun vs H Q E h=>?_) (fun cdv A outer s H vs Q E hr h=>?_)
 · obtain ⟨a,ns,k,m,rfl,_⟩:=h
   rfl
 · obtain ⟨a,ns,k,m,rfl,hS,hk,hm,hm2,q⟩:=h
   refine ⟨_,(@a03 _ _ _ _ _ (@ab1 _ _ _ _ _ _ _ _ (@a53 _ _ _ _ _ _ _ _ (as7 K (by exact hr.units)) (pv 0) (@a30 _ _ _ _ (@a01 _)) (nomark _)) (@a07 _ _ _ (@a52 _ _ _ _ (@a69 _ _ _ _ _ _ _ _ af2 (pv 2) (pv 1)))) (@a68 _))
    (@a07 _ _ _ (@a52 _ _ _ _ (@a69 _ _ _ _ _ _ _ _ a76 (@a40 _ _ _ _ _ _ _ (a35 K) (pv 0) (@a69 _ _ _ _ _ _ _ _ ad8 (pv 1) (@a45 _ _ _ _ _ _ _ _ _ b50 (by rfl) T.z_min bx8 (@a00 _ _ _ _ _ (@a04 _ _ _ _) (@a00 _ _ _ _ _ (@a45 _ _ _ _ _ _ _ _ _ (a83 K) (by rfl) T.z_len a87 (@a00 _ _ _ _ _ (pv 0) (@a01 _) (by rfl)) (by decide) (by decide) (by rfl) (by rfl)) (@a01 _) (by rfl)) (by rfl)) (by decide) (by decide) (by rfl) (by rfl))) (fun _ _=>rfl)) (@a69 _ _ _ _ _ _ _ _ af2 (pv 2) (pv 1)))))),?_⟩
   walk_at "go"
   intro p1 H1 f1 s1 e1
   refine ba2 (s1.seq hS) (SqL.of e1) ?_
   walk_at "r"
   cases ns with
   | nil =>
     refine bg2 ?_
     walk_at "r"
     refine af6 (cb (by omega) (by omega)) ?_
     exact q _ H1 s1
   | cons n0 nr =>
     refine bg3 ?_
     walk_at "r"
     refine aa4 (s1.seq hS) ?_
     walk_at "r"
     have hl:0<min 63 (n0::nr).length:=by simp; omega
     have hlen:(n0::nr).length=nr.length+1:=rfl
     generalize n0::nr=ns at hS hl hlen
     rw [gL,show min (63:Int) (ns.length:Nat)=((min 63 ns.length:Nat):Int) by omega]
     obtain ⟨r,hr,e⟩:=ap4 (k:Int) hl
     walk_at "r"
     rw [e]
     have hrl:r<ns.length:=by omega
     refine a86 (s1.seq hS) (v:=.int ns[r]) (a05 (j:=r) (by simp [hrl])) ?_
     walk_at "r"
     refine af6 (cb (by omega) (by omega)) ?_
     walk_at "r"
     exact q _ H1 s1
inductive Ev where
 | quiet
 | key (k:Nat)
 | word (w:Str)
def Ev.kind:Ev→Str
 | .quiet=>"quiet"
 | .key _=>"key"
 | .word _=>"word"
def Ev.tr:Ev→Tr
 | .quiet=>.tup [.str "quiet"]
 | .key k=>.tup [.str "key",.int (k:Nat)]
 | .word w=>.tup [.str "word",.str w]
theorem Ev.tr_inj {a b:Ev}(h:a.tr=b.tr):a=b:=by
 cases a <;> cases b <;> simp [Ev.tr] at h ⊢ <;> first | exact h | omega | (exact h.2) | skip
theorem Ev.tr_h (a:Ev):a.tr.h≤1:=by cases a <;> simp [Ev.tr,Tr.h,Tr.hs]
theorem ap5 {H:Hp}{xs:List Tr}{vs:List V}(h:Tr.Ats H xs vs []) {i:Nat}{v:V}(e:vs[i]?=some v):∃ x,xs[i]?=some x∧x.At H v []:=by
 obtain ⟨x,f,h1,h2,h3⟩:=h.get i v e
 have:f=[]:=List.eq_nil_iff_forall_not_mem.mpr fun a m=>by simpa using h3 a m
 subst this
 exact ⟨x,h1,h2⟩
theorem bj0 {H:Hp}{e:Ev}{v:V}(h:e.tr.At H v []):∃ a xs,v=.ref a∧H a=some (.tup (V.str e.kind::xs)):=by
 cases e with
 | quiet =>
   obtain ⟨a,vs,rfl,e2,h⟩:=at_tup0.mp h
   obtain ⟨u,w1,rfl,a1,h⟩:=ats_cons0.mp h
   cases at_str0.mp a1
   exact ⟨a,_,rfl,e2⟩
 | key k =>
   obtain ⟨a,vs,rfl,e2,h⟩:=at_tup0.mp h
   obtain ⟨u,w1,rfl,a1,h⟩:=ats_cons0.mp h
   cases at_str0.mp a1
   exact ⟨a,_,rfl,e2⟩
 | word w =>
   obtain ⟨a,vs,rfl,e2,h⟩:=at_tup0.mp h
   obtain ⟨u,w1,rfl,a1,h⟩:=ats_cons0.mp h
   cases at_str0.mp a1
   exact ⟨a,_,rfl,e2⟩
noncomputable def plc:List Ev→Nat→List (Tr×V)→List (Tr×V)
 | [],_,kvs=>kvs
 | e::es,n,kvs=>plc es (n+1) (putK (putK kvs e.tr (.int (n:Nat))) (.str e.kind) (.int (n:Nat)))
theorem ap6:∀ (es:List Ev) (n:Nat) (kvs:List (Tr×V)) (e:Ev),plc (es++[e]) n kvs=putK (putK (plc es n kvs) e.tr (.int ((n+es.length:Nat):Int))) (.str e.kind) (.int ((n+es.length:Nat):Int))
 | [],n,kvs,e=>rfl
 | x::xs,n,kvs,e=>by
   show plc (xs++[e]) (n+1) _=_
   rw [ap6 xs (n+1),show n+1+xs.length=n+(x::xs).length by simp; omega]
   rfl
theorem bb8:∀ (es:List Ev) (n:Nat) (kvs:List (Tr×V)),(plc es n kvs).length≤kvs.length+2*es.length
 | [],n,kvs=>Nat.le_refl _
 | x::xs,n,kvs=>by
   refine Nat.le_trans (bb8 xs (n+1) _) ?_
   have h1:=ae3 kvs x.tr (.int (n:Nat))
   have h2:=ae3 (putK kvs x.tr (.int (n:Nat))) (.str x.kind) (.int (n:Nat))
   simp only [List.length_cons]
   omega
def bb9 (K:W.Frag) (P:Params):Sp:=fun vs H Q _=>∃ (a:Addr) (us:List V) (es:List Ev),vs=[.ref a]∧H a=some (.lst us)∧Tr.Ats H (es.map Ev.tr) us []∧es.length≤1000∧∀ d H',H d=none→Same H H'→DtAt P H' d (plc es 0 [])→Q (.ref d) H'
theorem at4 (T:Txt K mg t):FnOk P w K mg base CX0 1 t.a_places_by t.fd_places_by ["events"] (bb9 K w.params):=by
 refine T.F_places_by.ok sc_places_by (fun vs H Q E h=>?_) (fun cdv A outer s H vs Q E hr h=>?_)
 · obtain ⟨a,us,es,rfl,_⟩:=h
   rfl
 · obtain ⟨a,us,es,rfl,ha,hu,hl,q⟩:=h
   refine ⟨_,(@a03 _ _ _ _ _ (@a36 _ _ 1 _ _ _ _ sc_places_by.nd rfl (by walk_at "o") (aw6 w.params) (by rfl) (by walk_at "o"))
    (@a03 _ _ _ _ _ (@aa9 _ _ _ _ _ _ _ _ PassesOwn.never rfl (aw1 K rfl T.z_enumerate (@a00 _ _ _ _ _ (pv 0) (@a01 _) (by rfl))) (aa6 K (n:=2) rfl (a41 (a08 (i:=2) sc_places_by.nd rfl (by walk_at "o")) (a41 (a08 (i:=3) sc_places_by.nd rfl (by walk_at "o")) (@a99 _)))) (@a03 _ _ _ _ _ (ap1 (P:=w.params) rfl (by exact hr.units) (pv 1) (pv 3) (pv 2) rfl)
     (@a07 _ _ _ (ap1 (P:=w.params) rfl (by exact hr.units) (pv 1) (@a40 _ _ _ _ _ _ _ (a38 K) (pv 3) (@a04 _ _ _ _) (fun _ _=>rfl)) (pv 2) rfl))) (by intro _; rfl))
    (@a07 _ _ _ (@a52 _ _ _ _ (pv 1))))),?_⟩
   have ul:us.length=es.length:=by rw [hu.len,gL]
   walk_at "go"
   intro d o1 f1 d1
   have s1:Same H (upd H d o1):=Same.new f1
   generalize upd H d o1=H1 at d1 s1
   walk_at "r"
   refine ⟨⟨_,SqL.of (s1 _ _ ha)⟩,az3 (K:=K) (a:=a) (xs:=us) (fun i σ H'=>i≤es.length∧Same H H'∧DtAt w.params H' d (plc (es.take i) 0 [])∧∃ x y,σ=[some (.ref a),some (.ref d),x,y]) ⟨Nat.zero_le _,s1,d1,_,_,rfl⟩ (fun i σ H' _ ⟨_,s',_⟩=>SqL.of (s' _ _ ha)) ?_ ?_⟩
   · rintro i x σ H2 p H3 hi ⟨hil,s2,hd,x0,y0,rfl⟩ s3 e3
     obtain ⟨tx,hx1,hx2⟩:=ap5 (hu.same (s2.trans s3)) hi
     rw [gM] at hx1
     obtain ⟨e,he,rfl⟩:=gO hx1
     obtain ⟨b,xs,rfl,hb⟩:=bj0 hx2
     have hi':i<es.length:=(gS he).1
     have htk:es.take (i+1)=es.take i++[e]:=by rw [List.take_add_one,he]; rfl
     have hlt:(es.take i).length=i:=by simp; omega
     have hlen:=bb8 (es.take i) 0 []
     refine am7 (SqT.of e3) rfl ?_
     walk_at "r"
     have hd3:=ab2 hd s3
     have hth:=e.tr_h
     refine ⟨d,_,e.tr,rfl,hd3,⟨hx2,by omega⟩,Nat.lt_of_lt_of_le (show _<1000000 by simp only [List.length_nil] at hlen; omega) (le_line (Nat.le_refl _)),fun o2 d2=>?_⟩
     obtain ⟨φ,hφ⟩:=hd3.ext
     have t2:Tups H3 (upd H3 d o2):=ak4 hφ
     have s4:Same H (upd H3 d o2):=(s2.trans s3).updNew f1
     generalize upd H3 d o2=H4 at d2 t2 s4
     walk_at "r"
     refine a72 (SqT.of (t2 _ _ hb)) (a05 (j:=0) rfl) ?_
     have hl2:=ae3 (plc (es.take i) 0 []) e.tr (.int (i:Nat))
     refine ⟨d,_,.str e.kind,rfl,d2,⟨str_at0,by simp [Tr.h]⟩,Nat.lt_of_lt_of_le (show _<1000000 by simp only [List.length_nil] at hlen; omega) (le_line (Nat.le_refl _)),fun o3 d3=>?_⟩
     refine ⟨hi',s4.updNew f1,?_,_,_,rfl⟩
     rw [htk,ap6,hlt,Nat.zero_add]
     exact d3
   · rintro σ H2 ⟨_,s2,hd,x0,y0,rfl⟩
     rw [ul,List.take_length] at hd
     walk_at "r"
     exact q d H2 f1 s2 hd
noncomputable def plOf (es:List Ev) (e:Ev):Option V:=(valV (plc es 0 []) e.tr).orElse fun _=>some ((valV (plc es 0 []) (.str e.kind)).getD (.int 0))
theorem c39 {K:W.Frag}{H:Hp}{e:Ev}{v:V}(h:e.tr.AtK K H v):∃ a xs,v=.ref a∧SqT K H a (V.str e.kind::xs):=by
 have go:∀ (k:Str) (ts:List Tr),(Tr.tup (.str k::ts)).AtK K H v→∃ a xs,v=.ref a∧SqT K H a (V.str k::xs):=fun k ts h=>by
  simp only [Tr.AtK,Tr.AtsK] at h
  obtain ⟨a,vs,rfl,e2,u,ws,rfl,rfl,_⟩:=h
  exact ⟨a,ws,rfl,e2.elim SqT.of (fun z=>z.sq H)⟩
 cases e with
 | quiet=>exact go _ _ h
 | key k=>exact go _ _ h
 | word w=>exact go _ _ h
def bj1 (K:W.Frag) (P:Params):Sp:=fun vs H Q _=>∃ (d:Addr) (v:V) (es:List Ev) (e:Ev),vs=[.ref d,v]∧DtAt P H d (plc es 0 [])∧e.tr.AtK K H v∧∀ y,plOf es e=some y→Q y H
theorem ax3 (T:Txt K mg t):FnOk P w K mg base CX0 1 t.a_place_of t.fd_place_of ["places","event"] (bj1 K w.params):=by
 refine T.F_place_of.ok ax0 (fun vs H Q E h=>?_) (fun cdv A outer s H vs Q E hr h=>?_)
 · obtain ⟨d,v,es,e,rfl,_⟩:=h
   rfl
 · obtain ⟨d,v,es,e,rfl,hd,hv,q⟩:=h
   refine ⟨_,(@a03 _ _ _ _ _ (@ab1 _ _ _ _ _ _ _ _ (b65 (br0 K (P:=w.params) rfl (by exact hr.units) (pv 1) (pv 0))) (@a07 _ _ _ (@a52 _ _ _ _ (bi2 K (P:=w.params) rfl (by exact hr.units) (pv 0) (pv 1) (fun _ _=>rfl)))) (@a68 _))
    (@a07 _ _ _ (@a52 _ _ _ _ (bb1 K (P:=w.params) rfl (by exact hr.units) (pv 0) (@a40 _ _ _ _ _ _ _ (a38 K) (pv 1) (@a04 _ _ _ _) (fun _ _=>rfl)) (@a04 _ _ _ _) ⟨by rfl,by rfl,by rfl,by rfl⟩)))),?_⟩
   have hth:=e.tr_h
   obtain ⟨b,xs,rfl,hb⟩:=c39 hv
   walk_at "go"
   refine ⟨d,_,e.tr,rfl,hd,⟨hv,by omega⟩,?_⟩
   walk_at "r"
   cases hx:valV (plc es 0 []) e.tr with
   | some y =>
     refine bg2 ?_
     walk_at "r"
     refine ⟨d,_,e.tr,y,rfl,hd,⟨hv,by omega⟩,hx,q y ?_⟩
     unfold plOf
     rw [hx]
     rfl
   | none =>
     refine bg3 ?_
     walk_at "r"
     refine ⟨d,_,rfl,hd,?_⟩
     walk_at "r"
     refine a72 hb (a05 (j:=0) rfl) ?_
     walk_at "r"
     refine ⟨_,.str e.kind,hd,⟨str_at0.toK K,by simp [Tr.h]⟩,q _ ?_⟩
     unfold plOf
     rw [hx]
     rfl
abbrev Row:=List Str×Nat
abbrev ag3:=Bool×List Row
def strW (s:Str):Tw:=.sc (.str s)
def rowW (r:Row):Tw:=.tup [.lst (r.1.map strW),.sc (.int (r.2:Nat))]
def roomW (r:ag3):Tw:=.tup [.sc (.bl r.1),.lst (r.2.map rowW)]
theorem strs_w {H:Hp}:∀ {ss:List Str}{vs:List V}{fs:List Addr},Tw.Ats H (ss.map strW) vs fs↔vs=strsV ss∧fs=[]
 | [],vs,fs=>by simp [Tw.Ats,strsV]
 | s::ss,vs,fs=>by
   simp only [List.map_cons,Tw.Ats,strW,Tw.At]
   constructor
   · rintro ⟨v,ws,f,g,rfl,rfl,⟨rfl,_,rfl⟩,h⟩
     obtain ⟨rfl,rfl⟩:=strs_w.mp h
     exact ⟨rfl,rfl⟩
   · rintro ⟨rfl,rfl⟩
     exact ⟨_,_,[],[],rfl,rfl,⟨rfl,True.intro,rfl⟩,strs_w.mpr ⟨rfl,rfl⟩⟩
theorem row_w {H:Hp}{r:Row}{v:V}{fs:List Addr}:(rowW r).At H v fs↔∃ k sl,v=.ref k∧H k=some (.tup [.ref sl,.int (r.2:Nat)])∧H sl=some (.lst (strsV r.1))∧fs=[sl]:=by
 simp only [rowW,Tw.At,Tw.Ats]
 constructor
 · rintro ⟨a,vs,rfl,e,v,ws,f,g,rfl,rfl,⟨sl,us,gs,rfl,e2,h,rfl⟩,v',ws',f',g',rfl,rfl,⟨rfl,_,rfl⟩,rfl,rfl⟩
   obtain ⟨rfl,rfl⟩:=strs_w.mp h
   exact ⟨a,sl,rfl,e,e2,rfl⟩
 · rintro ⟨k,sl,rfl,e,e2,rfl⟩
   exact ⟨k,_,rfl,e,_,_,[sl],[],rfl,rfl,⟨sl,_,[],rfl,e2,strs_w.mpr ⟨rfl,rfl⟩,rfl⟩,_,_,[],[],rfl,rfl,⟨rfl,True.intro,rfl⟩,rfl,rfl⟩
theorem room_w {H:Hp}{r:ag3}{v:V}{fs:List Addr}:(roomW r).At H v fs↔∃ q g ps gs,v=.ref q∧H q=some (.tup [.bl r.1,.ref g])∧H g=some (.lst ps)∧Tw.Ats H (r.2.map rowW) ps gs∧fs=g::gs:=by
 simp only [roomW,Tw.At,Tw.Ats]
 constructor
 · rintro ⟨a,vs,rfl,e,v,ws,f,g,rfl,rfl,⟨rfl,_,rfl⟩,v',ws',f',g',rfl,rfl,⟨sl,us,gs,rfl,e2,h,rfl⟩,rfl,rfl⟩
   exact ⟨a,sl,us,gs,rfl,e,e2,h,by simp⟩
 · rintro ⟨q,g,ps,gs,rfl,e,e2,h,rfl⟩
   exact ⟨q,_,rfl,e,_,_,[],g::gs,rfl,rfl,⟨rfl,True.intro,rfl⟩,_,_,g::gs,[],rfl,by simp,⟨g,ps,gs,rfl,e2,h,rfl⟩,rfl,rfl⟩
def bs3 (K:W.Frag):Sp:=fun vs H Q _=>∃ (v:V) (n:Addr) (m:Nat) (r:ag3) (fs:List Addr),vs=[v,.ref n]∧(roomW r).At H v fs∧H n=some (.lst (natsV (List.range m)))∧(∀ x∈r.2,x.2<m)∧r.2.length≤1000∧(∀ x∈r.2,x.1.length≤1000) ∧
 ∀ v' fs' H',Same H H'→(roomW r).At H' v' fs'→(∀ a∈fs',H a=none)→Q v' H'
theorem at5 (T:Txt K mg t):FnOk P w K mg base CX0 1 t.a_room_with t.fd_room_with ["room","numbers"] (bs3 K):=by
 refine T.F_room_with.ok at3 (fun vs H Q E h=>?_) (fun cdv A outer s H vs Q E hr h=>?_)
 · obtain ⟨v,n,m,r,fs,rfl,_⟩:=h
   rfl
 · obtain ⟨v,n,m,r,fs,rfl,hv,hn,hm,hl,hsl,q⟩:=h
   refine ⟨_,(@a07 _ _ _ (@a52 _ _ _ _ (@a34 _ _ _ _ _ (@a00 _ _ _ _ _ (@a40 _ _ _ _ _ _ _ (a38 K) (pv 0) (@a04 _ _ _ _) (fun _ _=>rfl)) (@a00 _ _ _ _ _ (ab6 (Nt:=["said","way"]) (Nf:=["numbers"]) (caps:=[1]) rfl (a50 (sc:=defScope a73) rfl rfl (by decide +kernel) (by decide +kernel) (by decide +kernel) rfl (by decide +kernel)) (a48 K (@a40 _ _ _ _ _ _ _ (a38 K) (pv 0) (@a04 _ _ _ _) (fun _ _=>rfl))) (fun _ _ _ _ _=>(aa6 K (n:=2) rfl (a41 (a08 (i:=0) (show (["said","way","numbers"]:List Str).Nodup by decide +kernel) rfl (by walk_at "o")) (a41 (a08 (i:=1) (show (["said","way","numbers"]:List Str).Nodup by decide +kernel) rfl (by walk_at "o")) (@a99 _))))) (fun _ _ _ _ _=>(@a59 _)) (fun _ _ _ _ _=>(@a34 _ _ _ _ _ (@a00 _ _ _ _ _ (@a37 _ _ _ _ _ _ _ _ _ (a94 K) (by rfl) T.z_list a98 (@a00 _ _ _ _ _ (pv 0) (@a01 _) (by rfl)) (by decide) (by decide) (by rfl) (by rfl)) (@a00 _ _ _ _ _ (@a40 _ _ _ _ _ _ _ (a35 K) (pv 2) (pv 1) (fun _ _=>rfl)) (@a01 _) (by rfl)) (by rfl))))) (@a01 _) (by rfl)) (by rfl))))),?_⟩
   obtain ⟨b,g,ps,gs,rfl,hb,hg,hps,rfl⟩:=room_w.mp hv
   have pl:ps.length=r.2.length:=by rw [hps.len,gL]
   walk_at "go"
   refine a72 (SqT.of hb) (a05 (j:=0) rfl) ?_
   walk_at "r"
   refine a72 (SqT.of hb) (a05 (j:=1) rfl) ?_
   walk_at "r"
   refine ⟨⟨_,SqL.of hg⟩,bg4 (xs:=ps) (le_line (by omega)) (fun i acc H'=>i≤r.2.length∧acc.length=i∧Same H H'∧∃ fs',Tw.Ats H' ((r.2.take i).map rowW) acc fs'∧∀ a∈fs',H a=none) ⟨Nat.zero_le _,rfl,Same.refl _,[],by simp [Tw.Ats],by simp⟩ (fun i acc H' ⟨_,e,s',_⟩=>⟨by omega,SqL.of (s' _ _ hg)⟩) ?_ ?_⟩
   · rintro i x acc H' hx ⟨hi,ea,s',fs',hat,hfr⟩
     obtain ⟨tx,fx,hx1,hx2,_⟩:=(hps.same s').get i x hx
     rw [gM] at hx1
     obtain ⟨w0,hw,rfl⟩:=gO hx1
     obtain ⟨k,sl,rfl,hk,hsl',rfl⟩:=row_w.mp hx2
     have hi':i<r.2.length:=(gS hw).1
     have hwm:=hm w0 (gI hw)
     refine ⟨k,_,_,rfl,SqT.of hk,?_⟩
     walk_at "r"
     refine aa7 (SqL.of hsl') ?_
     intro p1 H1 f1 s1 e1
     walk_at "r"
     refine a86 (SqL.of ((s'.trans s1) _ _ hn)) (bg5 (by simpa using hwm)) ?_
     rw [show (List.range m).getD w0.2 0=w0.2 by simp [hwm]]
     walk_at "r"
     intro p2 H2 f2 s2 e2
     refine ⟨hi',by simp [ea],s'.trans (s1.trans s2),fs'++[p1],?_,?_⟩
     · rw [List.take_add_one,hw,List.map_append]
       exact (hat.same (s1.trans s2)).snoc (row_w.mpr ⟨p2,p1,rfl,e2,s2 _ _ e1,rfl⟩)
     · intro a ha
       rcases gA ha with ha | ha
       · exact hfr a ha
       · rw [gG ha]; exact s'.free f1
   · rintro acc H' ⟨_,ea,s',fs',hat,hfr⟩ p1 H1 f1 s1 e1
     rw [pl,List.take_length] at hat
     walk_at "r"
     intro p2 H2 f2 s2 e2
     refine q _ (p1::fs') H2 (s'.trans (s1.trans s2)) (room_w.mpr ⟨p2,p1,acc,fs',rfl,e2,s2 _ _ e1,hat.same (s1.trans s2),rfl⟩) ?_
     intro a ha
     rcases List.mem_cons.mp ha with rfl | ha
     · exact s'.free f1
     · exact hfr a ha
def mf (d s c:Addr):List (Str×V):=putF "rooms" (.ref c) (putF "saying" (.ref s) (putF "places" (.ref d) []))
theorem bc0 (d s c:Addr):(mf d s c).lookup ("places":Str)=some (.ref d):=by
 unfold mf
 rw [a56,if_neg (by decide +kernel),a56,if_neg (by decide +kernel),a56,if_pos rfl]
theorem bc1 (d s c:Addr):(mf d s c).lookup ("saying":Str)=some (.ref s):=by
 unfold mf
 rw [a56,if_neg (by decide +kernel),a56,if_pos rfl]
theorem az8 (d s c:Addr):(mf d s c).lookup ("rooms":Str)=some (.ref c):=by
 unfold mf
 rw [a56,if_pos rfl]
theorem bs4 (d s c:Addr) {m:Str}(h1:¬ m="rooms") (h2:¬ m="saying") (h3:¬ m="places"):(mf d s c).lookup m=none:=by
 unfold mf
 rw [a56,if_neg h1,a56,if_neg h2,a56,if_neg h3]
 all_goals rfl
structure MAt (P:Params) (C:Addr) (H:Hp) (p d s c:Addr) (es:List Ev) (sy:List Str) (rs:List ag3) (gs:List Addr):Prop where
 ex:∃ dx rvs,H p=some (.ins C dx (mf d s c))∧DtAt P H d (plc es 0 [])∧H s=some (.lst (strsV sy))∧H c=some (.lst rvs)∧Tw.Ats H (rs.map roomW) rvs gs
structure TabAt (H:Hp) (v:V) (a b c:Addr) (es:List Ev) (sy:List Str) (rs:List ag3) (gs:List Addr):Prop where
 ex:∃ t us rvs,v=.ref t∧H t=some (.tup [.ref a,.ref b,.ref c])∧H a=some (.lst us)∧Tr.Ats H (es.map Ev.tr) us []∧H b=some (.lst (strsV sy))∧H c=some (.lst rvs)∧Tw.Ats H (rs.map roomW) rvs gs
structure TabOk (es:List Ev) (sy:List Str) (rs:List ag3):Prop where
 ne:es.length≤100
 ns:sy.length≤100
 nr:rs.length≤100
 ok:∀ r∈rs,r.2.length=es.length∧∀ x∈r.2,x.2<rs.length∧x.1.length≤100
def bs5 (K:W.Frag) (P:Params) (C:Addr):Sp:=fun vs H Q _=>∃ (p dx:Addr) (v:V) (a b c:Addr) (es:List Ev) (sy:List Str) (rs:List ag3) (gs:List Addr),vs=[.ref p,v]∧H p=some (.ins C dx [])∧TabAt H v a b c es sy rs gs∧TabOk es sy rs ∧
 ∀ d s c' gs' H',MAt P C H' p d s c' es sy rs gs'→H d=none→H s=none→H c'=none→(∀ x∈gs',H x=none)→(∀ x o,H x=some o→x≠p→H' x=some o)→Q .non H'
theorem ab4 (T:Txt K mg t):FnOk P w K mg base CX0 2 t.a_TableMachine___init__ t.fd_TableMachine___init__ ["self","table"] (bs5 K w.params t.c_TableMachine):=by
 have G_places_by:=at4 (P:=P) (w:=w) (base:=base) T
 have G_room_with:=at5 (P:=P) (w:=w) (base:=base) T
 refine T.F_TableMachine___init__.ok sc_TableMachine___init__ (fun vs H Q E h=>?_) (fun cdv A outer s H vs Q E hr h=>?_)
 · obtain ⟨p,dx,v,a,b,c,es,sy,rs,gs,rfl,_⟩:=h
   rfl
 · obtain ⟨p,dx,v,a,b,c,es,sy,rs,gs,rfl,hp,hT,ok,q⟩:=h
   refine ⟨_,(@a03 _ _ _ _ _ (ak6 K (pv 0) (@a32 _ _ _ _ _ _ _ _ _ _ _ _ _ _ _ _ G_places_by (hr.mono (by omega)) rfl T.m_places_by T.F_places_by.kp T.b_places_by .nil a61 (@a00 _ _ _ _ _ (@a40 _ _ _ _ _ _ _ (a38 K) (pv 1) (@a04 _ _ _ _) (fun _ _=>rfl)) (@a01 _) (by rfl)) (by decide) (by rfl) (by rfl)) rfl)
    (@a03 _ _ _ _ _ (ak6 K (pv 0) (@a37 _ _ _ _ _ _ _ _ _ (a94 K) (by rfl) T.z_list a98 (@a00 _ _ _ _ _ (@a40 _ _ _ _ _ _ _ (a38 K) (pv 1) (@a04 _ _ _ _) (fun _ _=>rfl)) (@a01 _) (by rfl)) (by decide) (by decide) (by rfl) (by rfl)) rfl)
    (@a03 _ _ _ _ _ (@a36 _ _ 2 _ _ _ _ sc_TableMachine___init__.nd rfl (by walk_at "o") (@a37 _ _ _ _ _ _ _ _ _ (az2 rfl) (by rfl) T.z_list a98 (@a00 _ _ _ _ _ (@a37 _ _ _ _ _ _ _ _ _ as9 (by rfl) T.z_range ay8 (@a00 _ _ _ _ _ (@a45 _ _ _ _ _ _ _ _ _ (a83 K) (by rfl) T.z_len a87 (@a00 _ _ _ _ _ (@a40 _ _ _ _ _ _ _ (a38 K) (pv 1) (@a04 _ _ _ _) (fun _ _=>rfl)) (@a01 _) (by rfl)) (by decide) (by decide) (by rfl) (by rfl)) (@a01 _) (by rfl)) (by decide) (by decide) (by rfl) (by rfl)) (@a01 _) (by rfl)) (by decide) (by decide) (by rfl) (by rfl)) (by rfl) (by walk_at "o"))
    (@a07 _ _ _ (ak6 K (pv 0) (ab6 (Nt:=["room"]) (Nf:=["same"]) (caps:=[2]) rfl (a50 (sc:=defScope a31) rfl rfl (by decide +kernel) (by decide +kernel) (by decide +kernel) rfl (by decide +kernel)) (a48 K (@a40 _ _ _ _ _ _ _ (a38 K) (pv 1) (@a04 _ _ _ _) (fun _ _=>rfl))) (fun _ _ _ _ _=>(a08 (i:=0) (show (["room","same"]:List Str).Nodup by decide +kernel) rfl (by walk_at "o"))) (fun _ _ _ _ _=>(@a59 _)) (fun _ _ _ _ _=>(@a32 _ _ _ _ _ _ _ _ _ _ _ _ _ _ _ _ G_room_with (hr.mono (by omega)) rfl T.m_room_with T.F_room_with.kp T.b_room_with .nil a61 (@a00 _ _ _ _ _ (pv 0) (@a00 _ _ _ _ _ (pv 1) (@a01 _) (by rfl)) (by rfl)) (by decide) (by rfl) (by rfl)))) rfl))))),?_⟩
   obtain ⟨tt,us,rvs,rfl,h1,h2,h3,h4,h5,h6⟩:=hT.ex
   have rl:rvs.length=rs.length:=by rw [h6.len,gL]
   have o1:=ok.ne
   have o2:=ok.ns
   have o3:=ok.nr
   walk_at "go"
   refine a72 (SqT.of h1) (a05 (j:=0) rfl) ?_
   walk_at "r"
   refine ⟨a,us,es,rfl,h2,h3,by omega,fun d H1 f1 s1 d1=>?_⟩
   walk_at "r"
   refine ⟨p,_,dx,_,rfl,s1 _ _ hp,T.cl_TableMachine,T.n_TableMachine_places,by decide,?_⟩
   have np:∀ {x:Addr}{o:HO},H x=some o→(∀ C dx fs,o≠.ins C dx fs)→x≠p:=fun e z=>ae0 e hp (z _ _ _)
   have kP2:∀ x o,x≠p→H x=some o→upd H1 p (.ins t.c_TableMachine dx (putF "places" (.ref d) [])) x=some o:=fun x o z e=>by rw [a09 z]; exact s1 _ _ e
   have e2:upd H1 p (.ins t.c_TableMachine dx (putF "places" (.ref d) [])) p=some (.ins t.c_TableMachine dx (putF "places" (.ref d) [])):=a33
   have hdp:d≠p:=(a06 hp f1).symm
   have d2:DtAt w.params (upd H1 p (.ins t.c_TableMachine dx (putF "places" (.ref d) []))) d (plc es 0 []):=d1.mono (ag0 (s1 _ _ hp)) (a09 hdp)
   generalize upd H1 p (.ins t.c_TableMachine dx (putF "places" (.ref d) []))=H2 at kP2 e2 d2
   walk_at "r"
   refine a72 (SqT.of (kP2 _ _ (np h1 (fun _ _ _ z=>nomatch z)) h1)) (a05 (j:=1) rfl) ?_
   walk_at "r"
   refine aa7 (SqL.of (kP2 _ _ (np h4 (fun _ _ _ z=>nomatch z)) h4)) ?_
   intro ps H3 f3 s3 e3
   walk_at "r"
   have hsp:ps≠p:=(a06 e2 f3).symm
   refine ⟨p,_,dx,_,rfl,s3 _ _ e2,T.cl_TableMachine,T.n_TableMachine_saying,(by have h1:=aa1 "places" (V.ref d) []; rw [List.length_nil] at h1; omega),?_⟩
   have kP4:∀ x o,x≠p→H2 x=some o→upd H3 p (.ins t.c_TableMachine dx (putF "saying" (.ref ps) (putF "places" (.ref d) []))) x=some o:=fun x o z e=>by rw [a09 z]; exact s3 _ _ e
   have e4:upd H3 p (.ins t.c_TableMachine dx (putF "saying" (.ref ps) (putF "places" (.ref d) []))) p=some (.ins t.c_TableMachine dx (putF "saying" (.ref ps) (putF "places" (.ref d) []))):=a33
   have e34:upd H3 p (.ins t.c_TableMachine dx (putF "saying" (.ref ps) (putF "places" (.ref d) []))) ps=some (.lst (strsV sy)):=by rw [a09 hsp]; exact e3
   have d4:DtAt w.params (upd H3 p (.ins t.c_TableMachine dx (putF "saying" (.ref ps) (putF "places" (.ref d) [])))) d (plc es 0 []):=(ab2 d2 s3).mono (ag0 (s3 _ _ e2)) (a09 hdp)
   have t4:Tups H2 (upd H3 p (.ins t.c_TableMachine dx (putF "saying" (.ref ps) (putF "places" (.ref d) [])))):=s3.tups.trans (ag0 (s3 _ _ e2))
   generalize upd H3 p (.ins t.c_TableMachine dx (putF "saying" (.ref ps) (putF "places" (.ref d) [])))=H4 at kP4 e4 e34 d4 t4
   have kP:∀ x o,x≠p→H x=some o→H4 x=some o:=fun x o z e=>kP4 x o z (kP2 x o z e)
   have h14:=kP _ _ (np h1 (fun _ _ _ z=>nomatch z)) h1
   have h54:=kP _ _ (np h5 (fun _ _ _ z=>nomatch z)) h5
   have k4:Keep gs H H4:=⟨fun b ys e=>kP _ _ (np e (fun _ _ _ z=>nomatch z)) e,fun a _ xs e=>kP _ _ (np e (fun _ _ _ z=>nomatch z)) e⟩
   have h64:=h6.mono k4
   walk_at "r"
   refine a72 (SqT.of h14) (a05 (j:=2) rfl) ?_
   walk_at "r"
   refine aa4 (SqL.of h54) ?_
   rw [rl]
   walk_at "r"
   refine az4 (by omega) ?_
   intro pg H5 f5 s5 e5
   walk_at "r"
   refine ba5 e5 (by omega) ?_
   intro pn H6 f6 s6 e6
   walk_at "r"
   have s46:=s5.trans s6
   refine a72 (SqT.of (s46 _ _ h14)) (a05 (j:=2) rfl) ?_
   walk_at "r"
   refine ⟨⟨_,SqL.of (s46 _ _ h54)⟩,a77 (xs:=rvs) (le_line (by omega)) (fun i acc H'=>i≤rs.length∧acc.length=i∧Same H6 H'∧∃ fs',Tw.Ats H' ((rs.take i).map roomW) acc fs'∧∀ a∈fs',H6 a=none) ⟨Nat.zero_le _,rfl,Same.refl _,[],by simp [Tw.Ats],by simp⟩ (fun i acc H' ⟨_,e,s',_⟩=>⟨by omega,SqL.of ((s46.trans s') _ _ h54)⟩) ?_ ?_⟩
   · rintro i x acc H' hx ⟨hi,ea,s',fs',hat,hfr⟩
     obtain ⟨tx,fx,hx1,hx2,_⟩:=(h64.same (s46.trans s')).get i x hx
     rw [gM] at hx1
     obtain ⟨w0,hw,rfl⟩:=gO hx1
     have hi':i<rs.length:=(gS hw).1
     obtain ⟨k1,k2⟩:=ok.ok w0 (gI hw)
     walk_at "r"
     refine ⟨x,pn,rs.length,w0,fx,rfl,hx2,s' _ _ e6,fun z hz=>(k2 z hz).1,by omega,fun z hz=>by have:=(k2 z hz).2; omega,fun v' fs2 H7 s7 hv7 hf7=>?_⟩
     refine ⟨hi',by simp [ea],s'.trans s7,fs'++fs2,?_,?_⟩
     · rw [List.take_add_one,hw,List.map_append]
       exact (hat.same s7).snoc hv7
     · intro a ha
       rcases gA ha with ha | ha
       · exact hfr a ha
       · exact s'.free (hf7 a ha)
   · rintro acc H' ⟨_,ea,s',fs',hat,hfr⟩ pc H8 f8 s8 e8
     rw [rl,List.take_length] at hat
     walk_at "r"
     have s48:=s46.trans (s'.trans s8)
     have e48:=s48 _ _ e4
     have hcp:pc≠p:=(a06 e4 ((s46.trans s').free f8)).symm
     refine ⟨p,_,dx,_,rfl,e48,T.cl_TableMachine,T.n_TableMachine_rooms,(by have h1:=aa1 "places" (V.ref d) []; have h2:=aa1 "saying" (V.ref ps) (putF "places" (V.ref d) []); rw [List.length_nil] at h1; omega),?_⟩
     walk_at "r"
     have tF:Tups H8 (upd H8 p (.ins t.c_TableMachine dx (mf d ps pc))):=ag0 e48
     have frH:∀ {x:Addr},H4 x=none→x≠p→H x=none:=fun {x} z zp=>by
      cases e:H x with
      | none=>rfl
      | some o=>rw [kP x o zp e] at z; cases z
     have nfs:∀ x∈fs',x≠p:=fun x hx z=>by
      have:=s46.free (hfr x hx)
      rw [z,e4] at this
      cases this
     refine q d ps pc fs' _ ⟨dx,acc,a33,(ab2 d4 s48).mono tF (a09 hdp),by rw [a09 hsp]; exact s48 _ _ e34,by rw [a09 hcp]; exact e8,(hat.same s8).mono ⟨tF,fun a ha xs e=>by rw [a09 (nfs a ha)]; exact e⟩⟩ f1 ?_ (frH ((s46.trans s').free f8) hcp) (fun x hx=>frH (s46.free (hfr x hx)) (nfs x hx)) fun x o e z=>by rw [a09 z]; exact s48 _ _ (kP x o z e)
     cases e:H ps with
     | none=>rfl
     | some o=>rw [kP2 ps o hsp e] at f3; cases f3
def bj2 (K:W.Frag) (P:Params) (C:Addr):Sp:=fun vs H Q _=>∃ (p d s c:Addr) (es:List Ev) (sy:List Str) (rs:List ag3) (gs:List Addr),vs=[.ref p]∧MAt P C H p d s c es sy rs gs ∧
 ∀ k l H',H l=none→Same H H'→H' k=some (.tup [.ref l,.int 0])→H' l=some (.lst (strsV sy))→Q (.ref k) H'
theorem ac8 (T:Txt K mg t):FnOk P w K mg base CX0 1 t.a_TableMachine_begin t.fd_TableMachine_begin ["self"] (bj2 K w.params t.c_TableMachine):=by
 refine T.F_TableMachine_begin.ok ac7 (fun vs H Q E h=>?_) (fun cdv A outer s H vs Q E hr h=>?_)
 · obtain ⟨p,d,s',c,es,sy,rs,gs,rfl,_⟩:=h
   rfl
 · obtain ⟨p,d,s',c,es,sy,rs,gs,rfl,hM,q⟩:=h
   refine ⟨_,(@a07 _ _ _ (@a52 _ _ _ _ (@a34 _ _ _ _ _ (@a00 _ _ _ _ _ (@a37 _ _ _ _ _ _ _ _ _ (a94 K) (by rfl) T.z_list a98 (@a00 _ _ _ _ _ (ac5 K (pv 0) rfl) (@a01 _) (by rfl)) (by decide) (by decide) (by rfl) (by rfl)) (@a00 _ _ _ _ _ (@a04 _ _ _ _) (@a01 _) (by rfl)) (by rfl))))),?_⟩
   obtain ⟨dx,rvs,h1,h2,h3,h4,h5⟩:=hM.ex
   walk_at "go"
   refine ⟨p,_,dx,_,_,rfl,h1,T.cl_TableMachine,T.n_TableMachine_saying,bc1 _ _ _,?_⟩
   walk_at "r"
   refine aa7 (SqL.of h3) ?_
   intro l H1 f1 s1 e1
   walk_at "r"
   intro k H2 f2 s2 e2
   exact q k l H2 f1 (s1.trans s2) e2 (s2 _ _ e1)
def bs6 (K:W.Frag) (P:Params) (C:Addr):Sp:=fun vs H Q _=>∃ (p d s c:Addr) (es:List Ev) (sy:List Str) (rs:List ag3) (gs:List Addr) (n j:Nat) (v:V) (e:Ev) (r:ag3) (x:Row),vs=[.ref p,.int (n:Nat),v]∧MAt P C H p d s c es sy rs gs∧e.tr.AtK K H v ∧
 plOf es e=some (.int (j:Nat))∧rs[n]?=some r∧r.2[j]?=some x∧∀ k l H',H l=none→Same H H'→H' k=some (.tup [.ref l,.int (x.2:Nat)])→H' l=some (.lst (strsV x.1))→Q (.ref k) H'
theorem ad6 (T:Txt K mg t):FnOk P w K mg base CX0 2 t.a_TableMachine_step t.fd_TableMachine_step ["self","standing","event"] (bs6 K w.params t.c_TableMachine):=by
 have G_place_of:=ax3 (P:=P) (w:=w) (base:=base) T
 refine T.F_TableMachine_step.ok sc_TableMachine_step (fun vs H Q E h=>?_) (fun cdv A outer s H vs Q E hr h=>?_)
 · obtain ⟨p,d,s',c,es,sy,rs,gs,n,j,v,e,r,x,rfl,_⟩:=h
   rfl
 · obtain ⟨p,d,s',c,es,sy,rs,gs,n,j,v,e,r,x,rfl,hM,hv,hj,hr1,hx,q⟩:=h
   refine ⟨_,(@a03 _ _ _ _ _ (@a36 _ _ 3 _ _ _ _ sc_TableMachine_step.nd rfl (by walk_at "o") (@a40 _ _ _ _ _ _ _ (a35 K) (@a40 _ _ _ _ _ _ _ (a38 K) (@a40 _ _ _ _ _ _ _ (a35 K) (ac5 K (pv 0) rfl) (pv 1) (fun _ _=>rfl)) (@a04 _ _ _ _) (fun _ _=>rfl)) (@a32 _ _ _ _ _ _ _ _ _ _ _ _ _ _ _ _ G_place_of (hr.mono (by omega)) rfl T.m_place_of T.F_place_of.kp T.b_place_of .nil a61 (@a00 _ _ _ _ _ (ac5 K (pv 0) rfl) (@a00 _ _ _ _ _ (pv 2) (@a01 _) (by rfl)) (by rfl)) (by decide) (by rfl) (by rfl)) (fun _ _=>rfl)) (by rfl) (by walk_at "o"))
    (@a07 _ _ _ (@a52 _ _ _ _ (@a34 _ _ _ _ _ (@a00 _ _ _ _ _ (@a37 _ _ _ _ _ _ _ _ _ (a94 K) (by rfl) T.z_list a98 (@a00 _ _ _ _ _ (@a40 _ _ _ _ _ _ _ (a38 K) (pv 3) (@a04 _ _ _ _) (fun _ _=>rfl)) (@a01 _) (by rfl)) (by decide) (by decide) (by rfl) (by rfl)) (@a00 _ _ _ _ _ (@a40 _ _ _ _ _ _ _ (a38 K) (pv 3) (@a04 _ _ _ _) (fun _ _=>rfl)) (@a01 _) (by rfl)) (by rfl)))))),?_⟩
   obtain ⟨dx,rvs,h1,h2,h3,h4,h5⟩:=hM.ex
   have hn:n<rvs.length:=by
    rw [h5.len,gL]
    exact (gS hr1).1
   obtain ⟨tx,fx,hx1,hx2,_⟩:=h5.get n rvs[n] (gE hn)
   rw [gM,hr1] at hx1
   cases hx1
   obtain ⟨q1,g,ps,gs1,hq0,hq1,hg,hps,rfl⟩:=room_w.mp hx2
   have hjl:j<ps.length:=by
    rw [hps.len,gL]
    exact (gS hx).1
   obtain ⟨tx,fx,hx1,hx3,_⟩:=hps.get j ps[j] (gE hjl)
   rw [gM,hx] at hx1
   cases hx1
   obtain ⟨k0,sl,hk0,hk1,hsl,rfl⟩:=row_w.mp hx3
   walk_at "go"
   refine ⟨p,_,dx,_,_,rfl,h1,T.cl_TableMachine,T.n_TableMachine_rooms,az8 _ _ _,?_⟩
   walk_at "r"
   refine a86 (SqL.of h4) (a05 (j:=n) (v:=.ref q1) (by rw [gE hn,hq0])) ?_
   walk_at "r"
   refine a72 (SqT.of hq1) (a05 (j:=1) rfl) ?_
   walk_at "r"
   refine ⟨p,_,dx,_,_,rfl,h1,T.cl_TableMachine,T.n_TableMachine_places,bc0 _ _ _,?_⟩
   walk_at "r"
   refine ⟨d,v,es,e,rfl,h2,hv,fun y hy=>?_⟩
   rw [hj] at hy
   cases hy
   refine a86 (SqL.of hg) (a05 (j:=j) (v:=.ref k0) (by rw [gE hjl,hk0])) ?_
   walk_at "r"
   refine a72 (SqT.of hk1) (a05 (j:=0) rfl) ?_
   walk_at "r"
   refine aa7 (SqL.of hsl) ?_
   intro l H1 f1 s1 e1
   walk_at "r"
   refine a72 (SqT.of (s1 _ _ hk1)) (a05 (j:=1) rfl) ?_
   walk_at "r"
   intro k H2 f2 s2 e2
   exact q k l H2 f1 (s1.trans s2) e2 (s2 _ _ e1)
noncomputable instance evDec:DecidableEq Ev:=fun _ _=>Classical.propDecidable _
theorem bm3 (e:Ev) (k:Str):¬ e.tr=Tr.str k:=by cases e <;> simp [Ev.tr]
theorem bc2 (es:List Ev) (e:Ev) (t:Tr):valV (plc (es++[e]) 0 []) t=if t=.str e.kind then some (.int (es.length:Nat)) else if t=e.tr then some (.int (es.length:Nat)) else valV (plc es 0 []) t:=by
 rw [ap6,ay5,ay5,Nat.zero_add]
theorem bm4 {es:List Ev}(hn:es.Nodup) (e:Ev):∀ i,i≤es.length→(∃ j:Nat,(es.take i)[j]?=some e∧valV (plc (es.take i) 0 []) e.tr=some (.int (j:Nat)))∨(e∉es.take i∧valV (plc (es.take i) 0 []) e.tr=none):=by
 intro i
 induction i with
 | zero=>intro _; exact .inr ⟨by simp,rfl⟩
 | succ i ih =>
   intro hi
   have he:es[i]?=some es[i]:=gE (by omega)
   have htk:es.take (i+1)=es.take i++[es[i]]:=by rw [List.take_add_one,he]; rfl
   have hl:(es.take i).length=i:=by simp; omega
   rw [htk,bc2,if_neg (bm3 e _),hl]
   by_cases h:e.tr=es[i].tr
   · have h':=Ev.tr_inj h
     rw [if_pos h]
     refine .inl ⟨i,?_,rfl⟩
     rw [List.getElem?_append_right (by omega),hl,Nat.sub_self,h']
     rfl
   · rw [if_neg h]
     rcases ih (by omega) with ⟨j,h1,h2⟩ | ⟨h1,h2⟩
     · refine .inl ⟨j,?_,h2⟩
       rw [List.getElem?_append_left (gS h1).1]
       exact h1
     · refine .inr ⟨fun z=>?_,h2⟩
       rcases gA z with z | z
       · exact h1 z
       · exact h (by rw [gG z])
theorem az9 {es:List Ev}(k:Str):∀ i,i≤es.length→(∃ (j:Nat) (x:Ev),j<i∧es[j]?=some x∧x.kind=k∧(∀ (m:Nat) (y:Ev),j<m→m<i→es[m]?=some y→y.kind≠k)∧valV (plc (es.take i) 0 []) (.str k)=some (.int (j:Nat)))∨((∀ (m:Nat) (y:Ev),m<i→es[m]?=some y→y.kind≠k)∧valV (plc (es.take i) 0 []) (.str k)=none):=by
 intro i
 induction i with
 | zero=>intro _; exact .inr ⟨fun m y h=>absurd h (Nat.not_lt_zero _),rfl⟩
 | succ i ih =>
   intro hi
   have he:es[i]?=some es[i]:=gE (by omega)
   have htk:es.take (i+1)=es.take i++[es[i]]:=by rw [List.take_add_one,he]; rfl
   have hl:(es.take i).length=i:=by simp; omega
   rw [htk,bc2,hl]
   by_cases h:k=es[i].kind
   · rw [if_pos (by rw [h])]
     exact .inl ⟨i,es[i],by omega,he,h.symm,fun m y h1 h2=>absurd h1 (by omega),rfl⟩
   · rw [if_neg (by simpa using h),if_neg (fun z=>bm3 _ _ z.symm)]
     rcases ih (by omega) with ⟨j,x,h0,h1,h2,h3,h4⟩ | ⟨h1,h2⟩
     · refine .inl ⟨j,x,by omega,h1,h2,fun m y a b c=>?_,h4⟩
       by_cases hm:m=i
       · subst hm
         rw [he] at c
         cases c
         exact fun z=>h z.symm
       · exact h3 m y a (by omega) c
     · refine .inr ⟨fun m y b c=>?_,h2⟩
       by_cases hm:m=i
       · subst hm
         rw [he] at c
         cases c
         exact fun z=>h z.symm
       · exact h1 m y (by omega) c
def LawPl (es:List Ev) (e:Ev) (j:Nat):Prop:=(e∈es∧es[j]?=some e)∨(e∉es∧((∃ x,es[j]?=some x∧x.kind=e.kind∧∀ (m:Nat) (y:Ev),j<m→es[m]?=some y→y.kind≠e.kind)∨(j=0∧∀ (m:Nat) (y:Ev),es[m]?=some y→y.kind≠e.kind)))
theorem c40 {es:List Ev}(hn:es.Nodup) {i j:Nat}{e:Ev}(h1:es[i]?=some e) (h2:es[j]?=some e):i=j:=by
 obtain ⟨l1,e1⟩:=gS h1
 obtain ⟨l2,e2⟩:=gS h2
 have pw:=List.pairwise_iff_getElem.mp hn
 rcases Nat.lt_trichotomy i j with h | h | h
 · exact absurd (e1.trans e2.symm) (pw i j l1 l2 h)
 · exact h
 · exact absurd (e2.trans e1.symm) (pw j i l2 l1 h)
theorem ax4 {es:List Ev}(hn:es.Nodup) {e:Ev}{j:Nat}(h:LawPl es e j):plOf es e=some (.int (j:Nat)):=by
 have a:=bm4 hn e es.length (Nat.le_refl _)
 have b:=az9 (es:=es) e.kind es.length (Nat.le_refl _)
 rw [List.take_length] at a b
 unfold plOf
 rcases h with ⟨h1,h2⟩ | ⟨h1,h2⟩
 · rcases a with ⟨i,a1,a2⟩ | ⟨a1,_⟩
   · rw [a2,c40 hn h2 a1]
     rfl
   · exact absurd h1 a1
 · rcases a with ⟨i,a1,_⟩ | ⟨_,a2⟩
   · exact absurd (gI a1) h1
   · rw [a2]
     rcases h2 with ⟨x,k1,k2,k3⟩ | ⟨rfl,k3⟩
     · rcases b with ⟨i,y,b0,b1,b2,b3,b4⟩ | ⟨b1,_⟩
       · rw [b4]
         have:i=j:=by
          rcases Nat.lt_trichotomy i j with h | h | h
          · exact absurd k2 (b3 j x h (gS k1).1 k1)
          · exact h
          · exact absurd b2 (k3 i y h b1)
         rw [this]
         rfl
       · exact absurd k2 (b1 j x (gS k1).1 k1)
     · rcases b with ⟨i,y,b0,b1,b2,b3,b4⟩ | ⟨_,b4⟩
       · exact absurd b2 (k3 i y b1)
       · rw [b4]
         rfl
abbrev Say:=Option Nat×Str
def W5:List Str:=[Str.ofString "a",Str.ofString "b",Str.ofString "go",Str.ofString "yes",Str.ofString "no"]
def figS (l:Nat):Str:=Str.ofString (toString ((l:Nat):Int))
def sayT (x:Say):Str:=match x.1 with
 | none=>x.2
 | some l=>figS l++Str.ofString ":"++x.2
def SayOk (x:Say):Prop:=x.2∈W5∧∀ l,x.1=some l→l<10
theorem bs7:∀ l,l<10→∀ w∈W5,Txt.partition (figS l++Str.ofString ":"++w) (Str.ofString ":")=(figS l,Str.ofString ":",w):=by decide +kernel
theorem bs8:∀ w∈W5,Txt.partition w (Str.ofString ":")=(w,Str.ofString "",Str.ofString ""):=by decide +kernel
theorem bc3:∀ l,l<10→intText? (figS l)=some (l:Int):=by decide +kernel
theorem c92:∀ l,l<10→∀ w∈W5,(Builtin.Str.occurrences (figS l++Str.ofString ":"++w) (Str.ofString ":") 0 (figS l++Str.ofString ":"++w).length 1).isEmpty=false:=by decide +kernel
theorem c93:∀ w∈W5,(Builtin.Str.occurrences w (Str.ofString ":") 0 w.length 1).isEmpty=true:=by decide +kernel
theorem c94:∀ l,l<10→∀ w∈W5,∃ c,(figS l++Str.ofString ":"++w).cps.toList[0]?=some c∧intText? ⟨#[c]⟩=some (l:Int):=by
 intro l hl w hw
 refine ⟨48+l,?_⟩
 revert l w
 decide +kernel
theorem c95:∀ l,l<10→∀ w∈W5,Txt.slice (figS l++Str.ofString ":"++w) (some 2) none=w:=by decide +kernel
theorem bm5:∀ l,l<10→∀ w∈W5,(figS l++Str.ofString ":"++w).length≤100:=by decide +kernel
theorem c41:∀ w∈W5,w.length≤100:=by decide +kernel
theorem bc4:∀ l,l<10→(figS l).length≤100:=by decide +kernel
def pb (xs:List Ev) (w:Ev):List Ev:=if xs.length<3 then xs++[w] else xs
def stl (R:List (List Ev)) (x:Say):List (List Ev):=match x.1 with
 | none=>R
 | some l=>if l<R.length then R.set l (pb (R.getD l []) (.word x.2)) else R
def stlS (R:List (List Ev)) (s:List Say):List (List Ev):=s.foldl stl R
def stlA (R:List (List Ev)) (ss:List (List Say)):List (List Ev):=ss.foldl stlS R
theorem bs9 (R:List (List Ev)) (x:Say):(stl R x).length=R.length:=by
 unfold stl
 split
 · rfl
 · split
   · simp
   · rfl
theorem ai9:∀ (s:List Say) (R:List (List Ev)),(stlS R s).length=R.length
 | [],R=>rfl
 | x::s,R=>by
   show (stlS (stl R x) s).length=_
   rw [ai9 s,bs9]
theorem ac0:∀ (s:List (List Say)) (R:List (List Ev)),(stlA R s).length=R.length
 | [],R=>rfl
 | x::s,R=>by
   show (stlA (stlS R x) s).length=_
   rw [ac0 s,ai9]
def EvsAt (H:Hp) (v:V) (ws:List Ev):Prop:=∃ a us,v=.ref a∧H a=some (.tup us)∧Tr.Ats H (ws.map Ev.tr) us []
theorem EvsAt.tups {H H':Hp}{v:V}{ws:List Ev}(h:EvsAt H v ws) (k:Tups H H'):EvsAt H' v ws:=by
 obtain ⟨a,us,e,h1,h2⟩:=h
 exact ⟨a,us,e,k _ _ h1,a62 h2 k⟩
theorem w_at {H:Hp}{a:Addr}{w:Str}(h:H a=some (.tup [.str "word",.str w])):(Ev.word w).tr.At H (.ref a) []:=by
 simp only [Ev.tr,Tr.At,Tr.Ats]
 exact ⟨a,_,rfl,h,_,_,[],[],rfl,rfl,⟨rfl,rfl⟩,_,_,[],[],rfl,rfl,⟨rfl,rfl⟩,rfl,rfl⟩
def bc5 (K:W.Frag):Sp:=fun vs H Q _=>∃ (k l:Addr) (y:V) (xs:List V),vs=[.ref k]∧H k=some (.tup [.ref l,y])∧H l=some (.lst xs)∧∀ l' k' H',H l'=none→Same H H'→H' k'=some (.tup [.ref l',y])→H' l'=some (.lst xs)→Q (.ref k') H'
theorem at6 (T:Txt K mg t):FnOk P w K mg base CX0 1 t.a_copied t.fd_copied ["told"] (bc5 K):=by
 refine T.F_copied.ok bb7 (fun vs H Q E h=>?_) (fun cdv A outer s H vs Q E hr h=>?_)
 · obtain ⟨k,l,y,xs,rfl,_⟩:=h
   rfl
 · obtain ⟨k,l,y,xs,rfl,hk,hl,q⟩:=h
   refine ⟨_,(@a07 _ _ _ (@a52 _ _ _ _ (@a34 _ _ _ _ _ (@a00 _ _ _ _ _ (@a37 _ _ _ _ _ _ _ _ _ (a94 K) (by rfl) T.z_list a98 (@a00 _ _ _ _ _ (@a40 _ _ _ _ _ _ _ (a38 K) (pv 0) (@a04 _ _ _ _) (fun _ _=>rfl)) (@a01 _) (by rfl)) (by decide) (by decide) (by rfl) (by rfl)) (@a00 _ _ _ _ _ (@a40 _ _ _ _ _ _ _ (a38 K) (pv 0) (@a04 _ _ _ _) (fun _ _=>rfl)) (@a01 _) (by rfl)) (by rfl))))),?_⟩
   walk_at "go"
   refine a72 (SqT.of hk) (a05 (j:=0) rfl) ?_
   walk_at "r"
   refine aa7 (SqL.of hl) ?_
   intro p1 H1 f1 s1 e1
   walk_at "r"
   refine a72 (SqT.of (s1 _ _ hk)) (a05 (j:=1) rfl) ?_
   walk_at "r"
   intro p2 H2 f2 s2 e2
   exact q p1 p2 H2 f1 (s1.trans s2) e2 (s2 _ _ e1)
def c42 (K:W.Frag):Sp:=fun vs H Q _=>∃ (v u:V) (ws:List Ev) (w:Ev),vs=[v,u]∧EvsAt H v ws∧w.tr.At H u []∧ws.length≤100∧∀ v' H',Same H H'→EvsAt H' v' (pb ws w)→Q v' H'
theorem ag4 (T:Txt K mg t):FnOk P w K mg base CX0 1 t.a_put_behind t.fd_put_behind ["row","event"] (c42 K):=by
 refine T.F_put_behind.ok ap3 (fun vs H Q E h=>?_) (fun cdv A outer s H vs Q E hr h=>?_)
 · obtain ⟨v,u,ws,w0,rfl,_⟩:=h
   rfl
 · obtain ⟨v,u,ws,w0,rfl,⟨a,us,rfl,ha,hus⟩,hu,hl,q⟩:=h
   refine ⟨_,(@a03 _ _ _ _ _ (@ab1 _ _ _ _ _ _ _ _ (@a53 _ _ _ _ _ _ _ _ aq9 (@a45 _ _ _ _ _ _ _ _ _ (a83 K) (by rfl) T.z_len a87 (@a00 _ _ _ _ _ (pv 0) (@a01 _) (by rfl)) (by decide) (by decide) (by rfl) (by rfl)) (aj4 (by rfl) T.m_MOST_WAITING (by exact T.r_MOST_WAITING)) (nomark _)) (@a07 _ _ _ (@a52 _ _ _ _ (@a69 _ _ _ _ _ _ _ _ bh8 (pv 0) (@a34 _ _ _ _ _ (@a00 _ _ _ _ _ (pv 1) (@a01 _) (by rfl)))))) (@a68 _))
    (@a07 _ _ _ (@a52 _ _ _ _ (pv 0)))),?_⟩
   have sl:(1000000:Nat)≤sizeLine:=le_line (Nat.le_refl _)
   have ul:us.length=ws.length:=by rw [hus.len,gL]
   walk_at "go"
   refine b92 (SqT.of ha) ?_
   walk_at "r"
   rw [ul]
   by_cases hc:ws.length<3
   · refine as0 (by omega) ?_
     walk_at "r"
     intro p1 H1 f1 s1 e1
     refine c35 (s1 _ _ ha) e1 (by simp; omega) fun c H2 s2 e2=>?_
     have s02:=s1.trans s2
     refine q _ H2 s02 ⟨c,_,rfl,e2,?_⟩
     unfold pb
     rw [if_pos hc,List.map_append]
     exact (a62 hus s02.tups).snoc (a78 hu s02.tups)
   · refine as1 (by omega) ?_
     walk_at "r"
     refine q _ H (Same.refl _) ⟨a,us,rfl,ha,?_⟩
     unfold pb
     rw [if_neg hc]
     exact hus
abbrev Told:=Addr×List Say×Nat
def ToldAt (H:Hp) (v:V) (x:Told):Prop:=∃ k,v=.ref k∧H k=some (.tup [.ref x.1,.int (x.2.2:Nat)])∧H x.1=some (.lst (strsV (x.2.1.map sayT)))
def StdAt (H:Hp) (v:V) (x:Nat×List Ev):Prop:=∃ k rv,v=.ref k∧H k=some (.tup [.int (x.1:Nat),rv])∧EvsAt H rv x.2
theorem ToldAt.same {H H':Hp}{v:V}{x:Told}(h:ToldAt H v x) (s:Same H H'):ToldAt H' v x:=by
 obtain ⟨k,e,h1,h2⟩:=h
 exact ⟨k,e,s _ _ h1,s _ _ h2⟩
theorem StdAt.tups {H H':Hp}{v:V}{x:Nat×List Ev}(h:StdAt H v x) (t:Tups H H'):StdAt H' v x:=by
 obtain ⟨k,rv,e,h1,h2⟩:=h
 exact ⟨k,rv,e,t _ _ h1,h2.tups t⟩
def stds (ts:List Told) (R:List (List Ev)):List (Nat×List Ev):=List.zipWith (fun x ws=>(x.2.2,ws)) ts R
structure TurnAt (B H:Hp) (v:V) (ts:List Told) (R:List (List Ev)):Prop where
 ex:∃ res sa st stv,v=.ref res∧H res=some (.tup [.ref sa,.ref st])∧H sa=some (.lst (ts.map fun x=>V.ref x.1))∧H st=some (.tup stv)∧Each (StdAt H) stv (stds ts R)∧(∀ x∈ts,H x.1=some (.lst (strsV (x.2.1.map sayT))))∧B sa=none
theorem TurnAt.free {A B H:Hp}{v:V}{ts:List Told}{R:List (List Ev)}(h:TurnAt B H v ts R) (s:Same A B):TurnAt A H v ts R:=by
 obtain ⟨res,sa,st,stv,h1,h2,h3,h4,h5,h6,h7⟩:=h.ex
 exact ⟨res,sa,st,stv,h1,h2,h3,h4,h5,h6,s.free h7⟩
def R3 (R:List (List Ev)):Prop:=∀ r∈R,r.length≤3
theorem bt0 {xs:List Ev}{w:Ev}(h:xs.length≤3):(pb xs w).length≤3:=by
 unfold pb
 split
 · simp; omega
 · exact h
theorem c43 {R:List (List Ev)}(h:R3 R) (x:Say):R3 (stl R x):=by
 unfold stl
 split
 · exact h
 · split
   · next l hl =>
     intro r hr
     rcases List.mem_or_eq_of_mem_set hr with hr | rfl
     · exact h r hr
     · exact bt0 (h _ (by rw [List.getD_eq_getElem?_getD,gE hl]; exact List.getElem_mem hl))
   · exact h
theorem ap7:∀ (s:List Say) {R:List (List Ev)},R3 R→R3 (stlS R s)
 | [],R,h=>h
 | x::s,R,h=>ap7 s (c43 h x)
theorem al1:∀ (s:List (List Say)) {R:List (List Ev)},R3 R→R3 (stlA R s)
 | [],R,h=>h
 | x::s,R,h=>al1 s (ap7 x h)
theorem at7 (R:List (List Ev)) (s:List Say) (x:Say):stlS R (s++[x])=stl (stlS R s) x:=by simp [stlS,List.foldl_append]
theorem at8 (R:List (List Ev)) (s:List (List Say)) (x:List Say):stlA R (s++[x])=stlS (stlA R s) x:=by simp [stlA,List.foldl_append]
theorem al3 {ss:List Str}{i:Nat}{v:V}(h:(strsV ss)[i]?=some v):∃ s,ss[i]?=some s∧v=.str s:=by
 unfold strsV at h
 rw [gM] at h
 obtain ⟨s,h1,h2⟩:=gO h
 exact ⟨s,h1,h2.symm⟩
def b60 (K:W.Frag):Sp:=fun vs H Q _=>∃ (ta ra:Addr) (tvs rvs:List V) (ts:List Told) (R:List (List Ev)),vs=[.ref ta,.ref ra]∧H ta=some (.lst tvs)∧Each (ToldAt H) tvs ts∧H ra=some (.lst rvs)∧Each (EvsAt H) rvs R∧R.length=ts.length∧ts.length≤100∧(∀ x∈ts,x.2.1.length≤100∧∀ s∈x.2.1,SayOk s)∧R3 R ∧
 ∀ v H',Same H H'→TurnAt H H' v ts (stlA R (ts.map (·.2.1)))→Q v H'
theorem ac9 (T:Txt K mg t):FnOk P w K mg base CX0 2 t.a_settled_turn t.fd_settled_turn ["told","rows"] (b60 K):=by
 have G_put_behind:=ag4 (P:=P) (w:=w) (base:=base) T
 refine T.F_settled_turn.ok sc_settled_turn (fun vs H Q E h=>?_) (fun cdv A outer s H vs Q E hr h=>?_)
 · obtain ⟨ta,ra,tvs,rvs,ts,R,rfl,_⟩:=h
   rfl
 · obtain ⟨ta,ra,tvs,rvs,ts,R,rfl,hta,hT,hra,hR,hl,hn,hok,hR3,q⟩:=h
   refine ⟨_,(@a03 _ _ _ _ _ (@a36 _ _ 1 _ _ _ _ sc_settled_turn.nd rfl (by walk_at "o") (@a37 _ _ _ _ _ _ _ _ _ (a94 K) (by rfl) T.z_list a98 (@a00 _ _ _ _ _ (pv 1) (@a01 _) (by rfl)) (by decide) (by decide) (by rfl) (by rfl)) (by rfl) (by walk_at "o"))
    (@a03 _ _ _ _ _ (ag9 (i:=2) (Nt:=["each"]) (Nf:=[]) (caps:=[]) rfl (a50 (sc:=defScope a49) rfl rfl (by decide +kernel) (by decide +kernel) (by decide +kernel) rfl (by decide +kernel)) (a48 K (pv 0)) (fun _ _ _ _ _=>(a08 (i:=0) (show (["each"]:List Str).Nodup by decide +kernel) rfl (by walk_at "o"))) (fun _ _ _ _ _=>(@a59 _)) (fun _ _ _ _ _=>(@a40 _ _ _ _ _ _ _ (a38 K) (pv 0) (@a04 _ _ _ _) (fun _ _=>rfl))) sc_settled_turn.nd rfl (by walk_at "o") rfl)
    (@a03 _ _ _ _ _ (@aa9 _ _ _ _ _ _ _ _ PassesOwn.never rfl (a48 K (pv 2)) (a08 (i:=3) sc_settled_turn.nd rfl (by walk_at "o")) (@a07 _ _ _ (@aa9 _ _ _ _ _ _ _ _ PassesOwn.never rfl (a48 K (pv 3)) (a08 (i:=4) sc_settled_turn.nd rfl (by walk_at "o")) (@a03 _ _ _ _ _ (@a36 _ _ 5 _ _ _ _ sc_settled_turn.nd rfl (by walk_at "o") (@ab0 _ K _ _ _ _ _ _ _ _ _ _ _ PySem.F.plainAttrs_str PySem.F.slot_str_partition PySem.F.type_str_partition br2 (pv 4) (@a00 _ _ _ _ _ (@a51 _ _ _ _) (@a01 _) (by rfl)) (by rfl) (by rfl) (by rfl) (by rfl) (by rfl) (by rfl)) (by rfl) (by walk_at "o"))
     (@a07 _ _ _ (@ab1 _ _ _ _ _ _ _ _ (@PW.pt _ _ _ (@aj5 _ _ _ _ _ _ _ (@a53 _ _ _ _ _ _ _ _ bv8 (@a40 _ _ _ _ _ _ _ (a38 K) (pv 5) (@a04 _ _ _ _) (fun _ _=>rfl)) (@a51 _ _ _ _) (nomark _)) (@ag8 _ _ _ _ (@a53 _ _ _ _ _ _ _ _ aq9 (@a37 _ _ _ _ _ _ _ _ _ ak7 (by rfl) T.z_int af4 (@a00 _ _ _ _ _ (@a40 _ _ _ _ _ _ _ (a38 K) (pv 5) (@a04 _ _ _ _) (fun _ _=>rfl)) (@a01 _) (by rfl)) (by decide) (by decide) (by rfl) (by rfl)) (@a45 _ _ _ _ _ _ _ _ _ (a83 K) (by rfl) T.z_len a87 (@a00 _ _ _ _ _ (pv 1) (@a01 _) (by rfl)) (by decide) (by decide) (by rfl) (by rfl)) (nomark _))))) (@a03 _ _ _ _ _ (@a36 _ _ 6 _ _ _ _ sc_settled_turn.nd rfl (by walk_at "o") (@a37 _ _ _ _ _ _ _ _ _ ak7 (by rfl) T.z_int af4 (@a00 _ _ _ _ _ (@a40 _ _ _ _ _ _ _ (a38 K) (pv 5) (@a04 _ _ _ _) (fun _ _=>rfl)) (@a01 _) (by rfl)) (by decide) (by decide) (by rfl) (by rfl)) (by rfl) (by walk_at "o"))
      (@a07 _ _ _ (@ah8 _ _ _ _ _ _ (@a32 _ _ _ _ _ _ _ _ _ _ _ _ _ _ _ _ G_put_behind (hr.mono (by omega)) rfl T.m_put_behind T.F_put_behind.kp T.b_put_behind .nil a61 (@a00 _ _ _ _ _ (@a40 _ _ _ _ _ _ _ (a35 K) (pv 1) (pv 6) (fun _ _=>rfl)) (@a00 _ _ _ _ _ (@a34 _ _ _ _ _ (@a00 _ _ _ _ _ (@a51 _ _ _ _) (@a00 _ _ _ _ _ (@a40 _ _ _ _ _ _ _ (a38 K) (pv 5) (@a04 _ _ _ _) (fun _ _=>rfl)) (@a01 _) (by rfl)) (by rfl))) (@a01 _) (by rfl)) (by rfl)) (by decide) (by rfl) (by rfl)) (aq8 (pv 1) (pv 6) ae9) (by rfl) (by rfl) (by rfl)))) (@a68 _)))) (by intro _; rfl))) (by intro _; rfl))
    (@a07 _ _ _ (@a52 _ _ _ _ (@a34 _ _ _ _ _ (@a00 _ _ _ _ _ (pv 2) (@a00 _ _ _ _ _ (@a37 _ _ _ _ _ _ _ _ _ (ak0 K) (by rfl) T.z_tuple af5 (@a00 _ _ _ _ _ (ab6 (Nt:=["each","row"]) (Nf:=[]) (caps:=[]) rfl (a50 (sc:=defScope a49) rfl rfl (by decide +kernel) (by decide +kernel) (by decide +kernel) rfl (by decide +kernel)) (bl9 K rfl T.z_zip (@a00 _ _ _ _ _ (pv 0) (@a00 _ _ _ _ _ (pv 1) (@a01 _) (by rfl)) (by rfl))) (fun _ _ _ _ _=>(aa6 K (n:=2) rfl (a41 (a08 (i:=0) (show (["each","row"]:List Str).Nodup by decide +kernel) rfl (by walk_at "o")) (a41 (a08 (i:=1) (show (["each","row"]:List Str).Nodup by decide +kernel) rfl (by walk_at "o")) (@a99 _))))) (fun _ _ _ _ _=>(@a59 _)) (fun _ _ _ _ _=>(@a34 _ _ _ _ _ (@a00 _ _ _ _ _ (@a40 _ _ _ _ _ _ _ (a38 K) (pv 0) (@a04 _ _ _ _) (fun _ _=>rfl)) (@a00 _ _ _ _ _ (pv 1) (@a01 _) (by rfl)) (by rfl))))) (@a01 _) (by rfl)) (by decide) (by decide) (by rfl) (by rfl)) (@a01 _) (by rfl)) (by rfl)))))))),?_⟩
   have sl:(1000000:Nat)≤sizeLine:=le_line (Nat.le_refl _)
   have tl:=hT.len
   have rl:=hR.len
   walk_at "go"
   refine aa7 (SqL.of hra) ?_
   intro pr H1 f1 s1 e1
   walk_at "r"
   have hta1:=s1 _ _ hta
   refine ⟨⟨_,SqL.of hta1⟩,a77 (xs:=tvs) (le_line (by omega)) (fun i acc H'=>H'=H1∧i≤ts.length∧acc=(ts.take i).map (fun x=>V.ref x.1)) ⟨rfl,Nat.zero_le _,rfl⟩ (fun i acc H' ⟨e0,_,e⟩=>⟨by rw [e]; simp; omega,e0 ▸ SqL.of hta1⟩) ?_ ?_⟩
   · rintro i v acc H' hv ⟨rfl,hi,rfl⟩
     obtain ⟨x,hx⟩:∃ x,ts[i]?=some x:=⟨_,gE (by rw [← tl]; exact (gS hv).1)⟩
     obtain ⟨k,rfl,hk,_⟩:=(hT.mono fun v x h=>h.same s1).2 i v x hv hx
     walk_at "r"
     refine a72 (SqT.of hk) (a05 (j:=0) rfl) ?_
     refine ⟨rfl,(gS hx).1,?_⟩
     rw [List.take_add_one,hx]
     simp
   rintro acc H' ⟨rfl,_,rfl⟩ ps H2 f2 s2 e2
   rw [tl,List.take_length] at e2
   walk_at "r"
   have hne:pr≠ps:=a06 e1 f2
   have fps:H ps=none:=s1.free f2
   have e12:=s2 _ _ e1
   have s02:=s1.trans s2
   obtain ⟨Pv,hPv⟩:∃ Pv:Nat→St→Hp→Prop,Pv=(fun i σ H'=>i≤ts.length∧Same H H'∧H' ps=some (.lst (ts.map fun x=>V.ref x.1))∧(∃ rvs',H' pr=some (.lst rvs')∧Each (EvsAt H') rvs' (stlA R ((ts.take i).map (·.2.1))))∧∃ y1 y2 y3 y4,σ=[some (.ref ta),some (.ref pr),some (.ref ps),y1,y2,y3,y4]):=⟨_,rfl⟩
   refine ⟨⟨_,SqL.of e2⟩,ae8 (K:=K) (a:=ps) (xs:=ts.map fun x=>V.ref x.1) Pv (by rw [hPv]; exact ⟨Nat.zero_le _,s02,e2,⟨rvs,e12,hR.mono fun v x h=>h.tups s02.tups⟩,_,_,_,_,rfl⟩) (fun i σ H' _ h=>by rw [hPv] at h; exact SqL.of h.2.2.1) ?_ ?_⟩
   · intro i v σ H3 hv hI
     rw [hPv] at hI
     obtain ⟨hi,s3,hps3,⟨rv3,hp3,hE3⟩,y1,y2,y3,y4,rfl⟩:=hI
     rw [gM] at hv
     obtain ⟨x,hx,rfl⟩:=gO hv
     have hi':i<ts.length:=(gS hx).1
     obtain ⟨ok1,ok2⟩:=hok x (gI hx)
     obtain ⟨_,_,k,_,_,hlx⟩:=hT.get hx
     have htk:(ts.take (i+1)).map (·.2.1)=(ts.take i).map (·.2.1)++[x.2.1]:=by rw [List.take_add_one,hx]; simp
     have h3A:R3 (stlA R ((ts.take i).map (·.2.1))):=al1 _ hR3
     have lA:(stlA R ((ts.take i).map (·.2.1))).length=ts.length:=by rw [ac0,hl]
     have htk':stlA R ((ts.take (i+1)).map (·.2.1))=stlS (stlA R ((ts.take i).map (·.2.1))) x.2.1:=by rw [htk,at8]
     generalize stlA R ((ts.take i).map (·.2.1))=R1 at hE3 h3A lA htk'
     walk_at "r"
     obtain ⟨Pw,hPw⟩:∃ Pw:Nat→St→Hp→Prop,Pw=(fun j σ H'=>j≤x.2.1.length∧Same H H'∧H' ps=some (.lst (ts.map fun x=>V.ref x.1))∧(∃ rvs',H' pr=some (.lst rvs')∧Each (EvsAt H') rvs' (stlS R1 (x.2.1.take j)))∧∃ y2 y3 y4,σ=[some (.ref ta),some (.ref pr),some (.ref ps),some (.ref x.1),y2,y3,y4]):=⟨_,rfl⟩
     refine ⟨⟨_,SqL.of (s3 _ _ hlx)⟩,ae8 (K:=K) (a:=x.1) (xs:=strsV (x.2.1.map sayT)) Pw (by rw [hPw]; exact ⟨Nat.zero_le _,s3,hps3,⟨rv3,hp3,hE3⟩,_,_,_,rfl⟩) (fun j σ H' _ h=>by rw [hPw] at h; exact SqL.of (h.2.1 _ _ hlx)) ?_ ?_⟩
     · intro j v σ H4 hv hI
       rw [hPw] at hI
       obtain ⟨hj,s4,hps4,⟨rv4,hp4,hE4⟩,z2,z3,z4,rfl⟩:=hI
       obtain ⟨tx,htx,rfl⟩:=al3 hv
       rw [gM] at htx
       obtain ⟨y,hy,rfl⟩:=gO htx
       have hj':j<x.2.1.length:=(gS hy).1
       obtain ⟨ow,ol⟩:=ok2 y (gI hy)
       have htk2:x.2.1.take (j+1)=x.2.1.take j++[y]:=by rw [List.take_add_one,hy]; rfl
       have h3B:R3 (stlS R1 (x.2.1.take j)):=ap7 _ h3A
       have lB:(stlS R1 (x.2.1.take j)).length=ts.length:=by rw [ai9,lA]
       have htk3:stlS R1 (x.2.1.take (j+1))=stl (stlS R1 (x.2.1.take j)) y:=by rw [htk2,at7]
       generalize stlS R1 (x.2.1.take j)=R2 at hE4 h3B lB htk3
       obtain ⟨yl,yw⟩:=y
       have rl4:=hE4.len
       walk_at "r"
       cases yl with
       | none =>
         refine bb2 (by decide +kernel) (Nat.le_trans (c41 yw ow) (by omega)) ?_
         rw [show sayT (none,yw)=yw from rfl,bs8 yw ow]
         intro ph H5 f5 s5 e5
         walk_at "r"
         refine a72 (SqT.of e5) (a05 (j:=1) rfl) ?_
         walk_at "r"
         refine bl6 rfl ?_
         walk_at "r"
         rw [hPw]
         show _∧_
         rw [htk3]
         exact ⟨hj',s4.trans s5,s5 _ _ hps4,⟨rv4,s5 _ _ hp4,hE4.mono fun v x h=>h.tups s5.tups⟩,_,_,_,rfl⟩
       | some l =>
         have hl7:=ol l rfl
         refine bb2 (by decide +kernel) (Nat.le_trans (bm5 l hl7 yw ow) (by omega)) ?_
         rw [show sayT (some l,yw)=figS l++Str.ofString ":"++yw from rfl,bs7 l hl7 yw ow]
         intro ph H5 f5 s5 e5
         walk_at "r"
         refine a72 (SqT.of e5) (a05 (j:=1) rfl) ?_
         walk_at "r"
         refine bl5 (show ¬ (Str.ofString ":":Str)=Str.ofString "" by decide +kernel) ?_
         walk_at "r"
         refine a72 (SqT.of e5) (a05 (j:=0) rfl) ?_
         walk_at "r"
         refine ⟨figS l,(l:Int),rfl,bc3 l hl7,Nat.le_trans (bc4 l hl7) (by omega),?_⟩
         walk_at "r"
         have hp5:=s5 _ _ hp4
         refine aa4 (SqL.of hp5) ?_
         walk_at "r"
         rw [rl4]
         have hE5:=hE4.mono fun v x (h:EvsAt H4 v x)=>h.tups s5.tups
         by_cases hc:l<R2.length
         · refine as0 (by omega) ?_
           walk_at "r"
           refine a72 (SqT.of e5) (a05 (j:=0) rfl) ?_
           walk_at "r"
           refine ⟨figS l,(l:Int),rfl,bc3 l hl7,Nat.le_trans (bc4 l hl7) (by omega),?_⟩
           walk_at "r"
           have hg:R2[l]?=some (R2.getD l []):=by simp [hc]
           obtain ⟨rv,hrv,hrE⟩:=hE5.get hg
           refine a86 (SqL.of hp5) (a05 (j:=l) hrv) ?_
           walk_at "r"
           refine a72 (SqT.of e5) (a05 (j:=2) rfl) ?_
           walk_at "r"
           intro pt H6 f6 s6 e6
           walk_at "r"
           have h3l:=h3B _ (gI hg)
           refine ⟨rv,.ref pt,R2.getD l [],.word yw,rfl,hrE.tups s6.tups,w_at e6,by omega,fun v' H7 s7 hE7=>?_⟩
           have s57:=s6.trans s7
           have hp7:=s57 _ _ hp5
           walk_at "r"
           refine as3 hp7 (j:=l) (by unfold ixN; rw [if_pos (by omega),if_pos (by omega)]; simp) ?_
           walk_at "r"
           have t8:Tups H7 (upd H7 pr (.lst (rv4.set l v'))):=Tups.upd hp7
           rw [hPw]
           show _∧_
           rw [htk3]
           refine ⟨hj',(s4.trans (s5.trans s57)).updNew f1,by rw [a09 (Ne.symm hne)]; exact s57 _ _ (s5 _ _ hps4),⟨_,a33,?_⟩,_,_,_,rfl⟩
           rw [show stl R2 (some l,yw)=R2.set l (pb (R2.getD l []) (.word yw)) by unfold stl; exact if_pos hc]
           exact Each.set (hE5.mono fun v x h=>h.tups (s57.tups.trans t8)) l (hE7.tups t8)
         · refine as1 (by omega) ?_
           walk_at "r"
           rw [hPw]
           show _∧_
           rw [htk3]
           refine ⟨hj',s4.trans s5,s5 _ _ hps4,⟨rv4,hp5,?_⟩,_,_,_,rfl⟩
           rw [show stl R2 (some l,yw)=R2 by unfold stl; exact if_neg hc]
           exact hE5
     · intro σ H4 hI
       rw [hPw] at hI
       obtain ⟨_,s4,hps4,⟨rv4,hp4,hE4⟩,z2,z3,z4,rfl⟩:=hI
       rw [show (strsV (x.2.1.map sayT)).length=x.2.1.length by simp [strsV],List.take_length] at hE4
       walk_at "r"
       rw [hPv]
       show _∧_
       rw [htk']
       exact ⟨hi',s4,hps4,⟨rv4,hp4,hE4⟩,_,_,_,_,rfl⟩
   · intro σ H3 hI
     rw [hPv] at hI
     obtain ⟨_,s3,hps3,⟨rv3,hp3,hE3⟩,y1,y2,y3,y4,rfl⟩:=hI
     rw [gL,List.take_length] at hE3
     have lR:(stlA R (ts.map (·.2.1))).length=ts.length:=by rw [ac0,hl]
     generalize stlA R (ts.map (·.2.1))=R1 at hE3 lR q
     have rl3:=hE3.len
     have hta3:=s3 _ _ hta
     walk_at "r"
     refine ⟨ta,pr,rfl,⟨_,SqL.of hta3⟩,⟨_,SqL.of hp3⟩,bm1 (xs:=tvs) (ys:=rv3) (by omega) (le_line (by omega)) (fun i acc H'=>i≤ts.length∧Same H3 H'∧Each (StdAt H') acc ((stds ts R1).take i)) ⟨Nat.zero_le _,Same.refl _,.nil⟩ (fun i acc H' ⟨hi,s',he⟩=>⟨by rw [he.len,List.length_take]; omega,SqL.of (s' _ _ hta3),SqL.of (s' _ _ hp3)⟩) ?_ ?_⟩
     · rintro i v rv acc H4 H5 hv hrv ⟨hi,s4,he⟩ s45
       have hi':i<ts.length:=by rw [← tl]; exact (gS hv).1
       have hx:ts[i]?=some ts[i]:=gE hi'
       have hr:R1[i]?=some (R1[i]'(by omega)):=gE (by omega)
       have s05:=s3.trans (s4.trans s45)
       obtain ⟨k,rfl,hk,_⟩:=(hT.mono fun v x h=>h.same s05).2 i v _ hv hx
       have hrE:=(hE3.mono fun v x (h:EvsAt H3 v x)=>h.tups (s4.trans s45).tups).2 i rv _ hrv hr
       walk_at "r"
       refine a72 (SqT.of hk) (a05 (j:=1) rfl) ?_
       walk_at "r"
       intro p6 H6 f6 s6 e6
       refine ⟨hi',s4.trans (s45.trans s6),?_⟩
       have hz:(stds ts R1)[i]?=some (ts[i].2.2,R1[i]'(by omega)):=by
        unfold stds
        rw [List.getElem?_zipWith,hx,hr]
       rw [List.take_add_one,hz]
       exact (he.mono fun v x h=>h.tups (s45.trans s6).tups).snoc ⟨p6,rv,rfl,e6,hrE.tups s6.tups⟩
     · rintro acc H4 ⟨_,s4,he⟩ p5 H5 f5 s5 e5
       rw [List.take_of_length_le (by unfold stds; simp; omega)] at he
       walk_at "r"
       refine ap0 (SqL.of e5) ?_
       intro p6 H6 f6 s6 e6
       walk_at "r"
       intro p7 H7 f7 s7 e7
       have s37:=s4.trans (s5.trans (s6.trans s7))
       have s07:=s3.trans s37
       refine q _ H7 s07 ⟨p7,ps,p6,acc,rfl,e7,s37 _ _ hps3,s7 _ _ e6,he.mono fun v x h=>h.tups (s5.trans (s6.trans s7)).tups,fun x hx=>?_,fps⟩
       obtain ⟨j,hj,rfl⟩:=List.mem_iff_getElem.mp hx
       obtain ⟨_,_,_,_,_,h⟩:=hT.get (gE hj)
       exact s07 _ _ h
def hh (l1 l2:Addr):List (Str×V):=putF "machines" (.ref l2) (putF "lines" (.ref l1) [])
theorem ac1 (l1 l2:Addr):(hh l1 l2).lookup ("machines":Str)=some (.ref l2):=by
 unfold hh
 rw [a56,if_pos rfl]
theorem bj3 (l1 l2:Addr) {m:Str}(h1:¬ m="machines") (h2:¬ m="lines"):(hh l1 l2).lookup m=none:=by
 unfold hh
 rw [a56,if_neg h1,a56,if_neg h2]
 rfl
structure HallAt (C:Addr) (H:Hp) (p:Addr) (ms:List Addr):Prop where
 ex:∃ dx l1 l2,H p=some (.ins C dx (hh l1 l2))∧H l2=some (.lst (ms.map V.ref))∧H l1=some (.lst (ms.map V.ref))
theorem HallAt.same {C p:Addr}{H H':Hp}{ms:List Addr}(h:HallAt C H p ms) (s:Same H H'):HallAt C H' p ms:=by
 obtain ⟨dx,l1,l2,h1,h2,h3⟩:=h.ex
 exact ⟨dx,l1,l2,s _ _ h1,s _ _ h2,s _ _ h3⟩
def bj4 (K:W.Frag) (C:Addr):Sp:=fun vs H Q _=>∃ (p m dx:Addr) (ms:List Addr),vs=[.ref p,.ref m]∧H p=some (.ins C dx [])∧H m=some (.lst (ms.map V.ref))∧∀ H',(∀ x o,H x=some o→x≠p→H' x=some o)→HallAt C H' p ms→(∀ y o,H y≠none→y≠p→HallAt C (upd H' y o) p ms)→Q .non H'
theorem ai5 (T:Txt K mg t):FnOk P w K mg base CX0 1 t.a_Hall___init__ t.fd_Hall___init__ ["self","machines"] (bj4 K t.c_Hall):=by
 refine T.F_Hall___init__.ok ai4 (fun vs H Q E h=>?_) (fun cdv A outer s H vs Q E hr h=>?_)
 · obtain ⟨p,m,dx,ms,rfl,_⟩:=h
   rfl
 · obtain ⟨p,m,dx,ms,rfl,hp,hm,q⟩:=h
   refine ⟨_,(@a03 _ _ _ _ _ (ak6 K (pv 0) (@a37 _ _ _ _ _ _ _ _ _ (a94 K) (by rfl) T.z_list a98 (@a00 _ _ _ _ _ (pv 1) (@a01 _) (by rfl)) (by decide) (by decide) (by rfl) (by rfl)) rfl)
    (@a07 _ _ _ (ak6 K (pv 0) (@a37 _ _ _ _ _ _ _ _ _ (a94 K) (by rfl) T.z_list a98 (@a00 _ _ _ _ _ (pv 1) (@a01 _) (by rfl)) (by decide) (by decide) (by rfl) (by rfl)) rfl))),?_⟩
   walk_at "go"
   refine aa7 (SqL.of hm) ?_
   intro l1 H1 f1 s1 e1
   walk_at "r"
   refine ⟨p,_,dx,_,rfl,s1 _ _ hp,T.cl_Hall,T.n_Hall_lines,by decide,?_⟩
   have np:∀ {x:Addr}{o:HO},H x=some o→(∀ C dx fs,o≠.ins C dx fs)→x≠p:=fun e z=>ae0 e hp (z _ _ _)
   have kP:∀ x o,x≠p→H x=some o→upd H1 p (.ins t.c_Hall dx (putF "lines" (.ref l1) [])) x=some o:=fun x o z e=>by rw [a09 z]; exact s1 _ _ e
   have e2:upd H1 p (.ins t.c_Hall dx (putF "lines" (.ref l1) [])) p=some (.ins t.c_Hall dx (putF "lines" (.ref l1) [])):=a33
   have hl1:l1≠p:=(a06 hp f1).symm
   have hH2:∀ x,x≠p→H1 x=upd H1 p (.ins t.c_Hall dx (putF "lines" (.ref l1) [])) x:=fun x z=>(a09 z).symm
   generalize upd H1 p (.ins t.c_Hall dx (putF "lines" (.ref l1) []))=H2 at kP e2 hH2
   walk_at "r"
   refine aa7 (SqL.of (kP _ _ (np hm (fun _ _ _ z=>nomatch z)) hm)) ?_
   intro l2 H3 f3 s3 e3
   walk_at "r"
   refine ⟨p,_,dx,_,rfl,s3 _ _ e2,T.cl_Hall,T.n_Hall_machines,(by have h1:=aa1 "lines" (V.ref l1) []; rw [List.length_nil] at h1; omega),?_⟩
   walk_at "r"
   have hl2:l2≠p:=(a06 e2 f3).symm
   refine q _ (fun x o e z=>by rw [a09 z]; exact s3 _ _ (kP x o z e)) ⟨dx,l1,l2,a33,by rw [a09 hl2]; exact e3,by rw [a09 hl1]; exact s3 _ _ (by rw [← hH2 l1 hl1]; exact e1)⟩ fun y o hy hyp=>?_
   have n1:l1≠y:=fun z=>hy (by rw [← z]; exact f1)
   have n2:l2≠y:=fun z=>hy (by
    rw [← z]
    cases e:H l2 with
    | none=>rfl
    | some o'=>rw [kP l2 o' hl2 e] at f3; cases f3)
   exact ⟨dx,l1,l2,by rw [a09 hyp.symm]; exact a33,by rw [a09 n2,a09 hl2]; exact e3,by rw [a09 n1,a09 hl1]; exact s3 _ _ (by rw [← hH2 l1 hl1]; exact e1)⟩
abbrev SRow:=List Say×Nat
abbrev SRoom:=Bool×List SRow
def rowS (r:SRow):Row:=(r.1.map sayT,r.2)
def roomS (r:SRoom):ag3:=(r.1,r.2.map rowS)
structure Tab where
 es:List Ev
 sy:List Say
 rs:List SRoom
def SaysOk (x:List Say):Prop:=x.length≤100∧∀ s∈x,SayOk s
structure TOk (x:Tab):Prop where
 nd:x.es.Nodup
 ne:0<x.es.length
 ne2:x.es.length≤100
 sy:SaysOk x.sy
 nr:0<x.rs.length
 nr2:x.rs.length≤100
 ok:∀ r∈x.rs,r.2.length=x.es.length∧∀ y∈r.2,y.2<x.rs.length∧SaysOk y.1
theorem TOk.tab {x:Tab}(h:TOk x):TabOk x.es (x.sy.map sayT) (x.rs.map roomS):=⟨h.ne2,by simpa using h.sy.1,by simpa using h.nr2,fun r hr=>by
 obtain ⟨r0,hr0,rfl⟩:=List.mem_map.mp hr
 obtain ⟨h1,h2⟩:=h.ok r0 hr0
 refine ⟨by simpa [roomS] using h1,fun y hy=>?_⟩
 obtain ⟨y0,hy0,rfl⟩:=List.mem_map.mp hy
 obtain ⟨h3,h4⟩:=h2 y0 hy0
 exact ⟨by simpa [rowS] using h3,by simpa [rowS] using h4.1⟩⟩
def MS (P:Params) (C:Addr) (H:Hp) (m:Addr) (x:Tab):Prop:=∃ d s c gs,MAt P C H m d s c x.es (x.sy.map sayT) (x.rs.map roomS) gs
theorem MS.same {P:Params}{C m:Addr}{H H':Hp}{x:Tab}(h:MS P C H m x) (s':Same H H'):MS P C H' m x:=by
 obtain ⟨d,s,c,gs,h⟩:=h
 obtain ⟨dx,rvs,h1,h2,h3,h4,h5⟩:=h.ex
 exact ⟨d,s,c,gs,⟨dx,rvs,s' _ _ h1,ab2 h2 s',s' _ _ h3,s' _ _ h4,h5.same s'⟩⟩
theorem ToldAt.upd {H:Hp}{v:V}{x:Told}{p:Addr}{xs:List V}{o:HO}(h:ToldAt H v x) (hp:H p=some (.lst xs)) (hn:x.1≠p):ToldAt (upd H p o) v x:=by
 obtain ⟨k,e,h1,h2⟩:=h
 exact ⟨k,e,by rw [a09 (ae0 h1 hp (fun z=>nomatch z))]; exact h1,by rw [a09 hn]; exact h2⟩
def NewT (H:Hp) (ts:List Told):Prop:=∀ x∈ts,H x.1=none
def Tab.beg (x:Tab):SRow:=(x.sy,0)
def at9 (K:W.Frag) (P:Params) (C Ct:Addr):Sp:=fun vs H Q _=>∃ (p:Addr) (ms:List Addr) (xs:List Tab),vs=[.ref p]∧HallAt C H p ms∧Each (MS P Ct H) ms xs∧ms.length≤100∧(∀ x∈xs,SaysOk x.sy) ∧
 ∀ v H' ts,Same H H'→TurnAt H H' v ts (stlA (List.replicate ms.length []) (xs.map (·.sy)))→ts.map (·.2)=xs.map Tab.beg→NewT H ts→Q v H'
theorem bc6 (n:Nat):R3 (List.replicate n []):=fun r hr=>by rw [List.eq_of_mem_replicate hr]; simp
theorem ap8 (T:Txt K mg t):FnOk P w K mg base CX0 3 t.a_Hall_begin t.fd_Hall_begin ["self"] (at9 K w.params t.c_Hall t.c_TableMachine):=by
 have G_TableMachine_begin:=ac8 (P:=P) (w:=w) (base:=base) T
 have G_copied:=at6 (P:=P) (w:=w) (base:=base) T
 have G_settled_turn:=ac9 (P:=P) (w:=w) (base:=base) T
 refine T.F_Hall_begin.ok sc_Hall_begin (fun vs H Q E h=>?_) (fun cdv A outer s H vs Q E hr h=>?_)
 · obtain ⟨p,ms,xs,rfl,_⟩:=h
   rfl
 · obtain ⟨p,ms,xs,rfl,hh,hM,hn,hok,q⟩:=h
   refine ⟨_,(@a03 _ _ _ _ _ (@a36 _ _ 1 _ _ _ _ sc_Hall_begin.nd rfl (by walk_at "o") (@a30 _ _ _ _ (@a01 _)) (by rfl) (by walk_at "o"))
    (@a03 _ _ _ _ _ (@aa9 _ _ _ _ _ _ _ _ PassesOwn.never rfl (a48 K (ac5 K (pv 0) rfl)) (a08 (i:=2) sc_Hall_begin.nd rfl (by walk_at "o")) (@a07 _ _ _ (@aa5 _ _ _ _ (@ab0 _ K _ _ _ _ _ _ _ _ _ _ _ PySem.F.plainAttrs_list PySem.F.slot_list_append PySem.F.type_list_append a84 (pv 1) (@a00 _ _ _ _ _ (@a32 _ _ _ _ _ _ _ _ _ _ _ _ _ _ _ _ G_copied (hr.mono (by omega)) rfl T.m_copied T.F_copied.kp T.b_copied .nil a61 (@a00 _ _ _ _ _ (ay2 (pv 2) T.cl_TableMachine T.M_TableMachine_begin G_TableMachine_begin (hr.mono (by omega)) T.b_TableMachine_begin .nil a61) (@a01 _) (by rfl)) (by decide) (by rfl) (by rfl)) (@a01 _) (by rfl)) (by rfl) (by rfl) (by rfl) (by rfl) (by rfl) (by rfl)) (by rfl))) (by intro _; rfl))
    (@a07 _ _ _ (@a52 _ _ _ _ (@a32 _ _ _ _ _ _ _ _ _ _ _ _ _ _ _ _ G_settled_turn (hr.mono (by omega)) rfl T.m_settled_turn T.F_settled_turn.kp T.b_settled_turn .nil a61 (@a00 _ _ _ _ _ (pv 1) (@a00 _ _ _ _ _ (ab6 (Nt:=["machine"]) (Nf:=[]) (caps:=[]) rfl (a50 (sc:=defScope a65) rfl rfl (by decide +kernel) (by decide +kernel) (by decide +kernel) rfl (by decide +kernel)) (a48 K (ac5 K (pv 0) rfl)) (fun _ _ _ _ _=>(a08 (i:=0) (show (["machine"]:List Str).Nodup by decide +kernel) rfl (by walk_at "o"))) (fun _ _ _ _ _=>(@a59 _)) (fun _ _ _ _ _=>(@a34 _ _ _ _ _ (@a01 _)))) (@a01 _) (by rfl)) (by rfl)) (by decide) (by rfl) (by rfl)))))),?_⟩
   have sl:(1000000:Nat)≤sizeLine:=le_line (Nat.le_refl _)
   have ml:=hM.len
   obtain ⟨dx,l1,l2,h1,h2,_⟩:=hh.ex
   walk_at "go"
   intro pt H1 f1 s1 e1
   walk_at "r"
   refine ⟨p,_,dx,_,_,rfl,s1 _ _ h1,T.cl_Hall,T.n_Hall_machines,ac1 _ _,?_⟩
   walk_at "r"
   refine ⟨⟨_,SqL.of (s1 _ _ h2)⟩,ae8 (K:=K) (a:=l2) (xs:=ms.map V.ref) (fun i σ H'=>i≤ms.length∧Same H H'∧(∃ tvs ts,H' pt=some (.lst tvs)∧Each (ToldAt H') tvs ts∧ts.map (·.2)=(xs.map Tab.beg).take i∧NewT H ts∧∀ x∈ts,x.1≠pt)∧∃ y,σ=[some (.ref p),some (.ref pt),y]) ⟨Nat.zero_le _,s1,⟨[],[],e1,.nil,rfl,fun x hx=>absurd hx (by simp),fun x hx=>absurd hx (by simp)⟩,_,rfl⟩ (fun i σ H' _ ⟨_,s',_⟩=>SqL.of (s' _ _ h2)) ?_ ?_⟩
   · rintro i v σ H2 hv ⟨hi,s2,⟨tvs,ts,hp2,hE2,hx2,hN2,hne2⟩,y,rfl⟩
     rw [gM] at hv
     obtain ⟨m,hm,rfl⟩:=gO hv
     have hi':i<ms.length:=(gS hm).1
     have hxi:xs[i]?=some (xs[i]'(by omega)):=gE (by omega)
     obtain ⟨d,s',c,gs,hmt⟩:=(hM.2 i m _ hm hxi).same s2
     obtain ⟨dxm,rvm,m1,_⟩:=hmt.ex
     have tlen:ts.length=i:=by
      have:=congrArg List.length hx2
      simp at this
      omega
     walk_at "r"
     refine af7 (SqL.of hp2) ?_
     walk_at "r"
     refine ⟨m,dxm,_,rfl,m1,bs4 _ _ _ (by decide +kernel) (by decide +kernel) (by decide +kernel),?_⟩
     walk_at "r"
     refine ⟨m,d,s',c,_,_,_,gs,rfl,hmt,fun k l H3 f3 s3 e3 e3'=>?_⟩
     walk_at "r"
     refine ⟨k,l,_,_,rfl,e3,e3',fun l' k' H4 f4 s4 e4 e4'=>?_⟩
     walk_at "r"
     have s24:=s3.trans s4
     have hp4:=s24 _ _ hp2
     refine a96 hp4 (by rw [hE2.len,tlen]; omega) ?_
     have hne:l'≠pt:=(a06 (s3 _ _ hp2) f4).symm
     refine ⟨hi',(s2.trans s24).updNew f1,⟨_,ts++[(l',(xs[i]'(by omega)).sy,0)],a33,?_,?_,?_,?_⟩,_,rfl⟩
     · refine Each.snoc ⟨hE2.1,fun j v x a b=>(((hE2.2 j v x a b).same s24).upd hp4 (hne2 x (gI b)))⟩ (ToldAt.upd ⟨k',rfl,e4,e4'⟩ hp4 hne)
     · rw [List.map_append,hx2,List.take_add_one,gM,hxi]
       rfl
     · intro x hx
       rcases gA hx with hx | hx
       · exact hN2 x hx
       · rw [gG hx]
         exact (s2.trans s3).free f4
     · intro x hx
       rcases gA hx with hx | hx
       · exact hne2 x hx
       · rw [gG hx]
         exact hne
   · rintro σ H2 ⟨_,s2,⟨tvs,ts,hp2,hE2,hx2,hN2,hne2⟩,y,rfl⟩
     rw [gL,ml,List.take_of_length_le (by simp)] at hx2
     have tlen:ts.length=ms.length:=by
      have:=congrArg List.length hx2
      simp at this
      omega
     walk_at "r"
     refine ⟨p,_,dx,_,_,rfl,s2 _ _ h1,T.cl_Hall,T.n_Hall_machines,ac1 _ _,?_⟩
     walk_at "r"
     refine ⟨⟨_,SqL.of (s2 _ _ h2)⟩,a77 (xs:=ms.map V.ref) (le_line (by simp; omega)) (fun i acc H'=>i≤ms.length∧Same H2 H'∧Each (EvsAt H') acc (List.replicate i [])) ⟨Nat.zero_le _,Same.refl _,.nil⟩ (fun i acc H' ⟨_,s',he⟩=>⟨by rw [he.len]; simp,SqL.of ((s2.trans s') _ _ h2)⟩) ?_ ?_⟩
     · rintro i v acc H3 hv ⟨hi,s3,he⟩
       have hi':i<ms.length:=by have:=(gS hv).1; simpa using this
       walk_at "r"
       intro p4 H4 f4 s4 e4
       refine ⟨hi',s3.trans s4,?_⟩
       rw [List.replicate_succ']
       exact (he.mono fun v x h=>h.tups s4.tups).snoc ⟨p4,[],rfl,e4,by simp [Tr.Ats]⟩
     · rintro acc H3 ⟨_,s3,he⟩ pr H4 f4 s4 e4
       rw [gL] at he
       walk_at "r"
       have s24:=s3.trans s4
       refine ⟨pt,pr,tvs,acc,ts,List.replicate ms.length [],rfl,s24 _ _ hp2,hE2.mono fun v x h=>h.same s24,e4,he.mono fun v x h=>h.tups s4.tups,by simp [tlen],by omega,fun x hx=>?_,bc6 _,fun v H5 s5 hT5=>?_⟩
       · have hm:x.2∈xs.map Tab.beg:=by rw [← hx2]; exact List.mem_map_of_mem hx
         obtain ⟨x0,hx0,e0⟩:=List.mem_map.mp hm
         rw [← e0]
         exact hok x0 hx0
       · rw [show ts.map (·.2.1)=xs.map (·.sy) by
          have:=congrArg (List.map Prod.fst) hx2
          rw [List.map_map,List.map_map] at this
          exact this] at hT5
         exact q v H5 ts (s2.trans (s24.trans s5)) (hT5.free (s2.trans s24)) hx2 hN2
def inRow (r:List Ev):Ev→List Ev
 | .quiet=>r
 | .key k=>pb r (.key k)
 | .word w=>pb r (.word w)
def evOf (r:List Ev):Ev:=r.headD .quiet
theorem ag5 {r:List Ev}{o:Ev}(h:r.length≤3):(inRow r o).length≤3:=by
 cases o with
 | quiet=>exact h
 | key k=>exact bt0 h
 | word w=>exact bt0 h
structure Ln where
 m:Addr
 x:Tab
 g:Nat
 r:List Ev
 o:Ev
 y:SRow
structure Ln.Ok (l:Ln):Prop where
 at_:∃ (j:Nat) (rm:SRoom),plOf l.x.es (evOf (inRow l.r l.o))=some (.int (j:Nat))∧l.x.rs[l.g]?=some rm∧rm.2[j]?=some l.y
 le:l.r.length≤3
 says:SaysOk l.y.1
theorem quietK {K:W.Frag}{H:Hp}{a:Addr}(h:TupK K a [.str "quiet"]):Ev.quiet.tr.AtK K H (.ref a):=by
 simp only [Ev.tr,Tr.AtK,Tr.AtsK]
 exact ⟨_,_,rfl,.inr h,_,_,rfl,rfl,rfl⟩
theorem cut1 (us:List V):cutV us (some 1) none=us.tail:=by
 unfold cutV
 rw [HT.sIx_none,show (1:Int)=((1:Nat):Int) from rfl,HT.sIx_nat]
 cases us with
 | nil=>rfl
 | cons u us=>simp
theorem b00 {H:Hp}{r:List Ev}{us:List V}(h:Tr.Ats H (r.map Ev.tr) us []):Tr.Ats H (r.tail.map Ev.tr) us.tail []:=by
 cases r with
 | nil =>
   simp only [List.map_nil,Tr.Ats] at h
   rw [h.1]
   simp [Tr.Ats]
 | cons w r =>
   obtain ⟨v,ws,rfl,_,h2⟩:=ats_cons0.mp h
   exact h2
def Ln.std (l:Ln):Nat×List Ev:=(l.g,l.r)
def Ln.row (l:Ln):List Ev:=(inRow l.r l.o).tail
structure StepPre (K:W.Frag) (P:Params) (C Ct:Addr) (H:Hp) (p st ou:Addr) (ls:List Ln) (stv ovs:List V):Prop where
 hh:HallAt C H p (ls.map (·.m))
 hM:∀ l∈ls,MS P Ct H l.m l.x
 hn:ls.length≤100
 hst:H st=some (.tup stv)
 hS:Each (StdAt H) stv (ls.map Ln.std)
 hou:H ou=some (.lst ovs)
 hO:Each (fun v (e:Ev)=>e.tr.AtK K H v∧(e≠.quiet→e.tr.At H v [])) ovs (ls.map (·.o))
 hok:∀ l∈ls,l.Ok
def StepPost (H:Hp) (ls:List Ln) (Q:VK):Prop:=∀ v H' ts,Same H H'→TurnAt H H' v ts (stlA (ls.map Ln.row) (ls.map (·.y.1)))→ts.map (·.2)=ls.map (·.y)→NewT H ts→Q v H'
def b01 (K:W.Frag) (P:Params) (C Ct:Addr):Sp:=fun vs H Q _=>∃ (p st ou:Addr) (ls:List Ln) (stv ovs:List V),vs=[.ref p,.ref st,.ref ou]∧StepPre K P C Ct H p st ou ls stv ovs∧StepPost H ls Q
theorem ah9 (T:Txt K mg t):FnOk P w K mg base CX0 3 t.a_Hall_step t.fd_Hall_step ["self","standing","outer"] (b01 K w.params t.c_Hall t.c_TableMachine):=by
 have G_TableMachine_step:=ad6 (P:=P) (w:=w) (base:=base) T
 have G_copied:=at6 (P:=P) (w:=w) (base:=base) T
 have G_put_behind:=ag4 (P:=P) (w:=w) (base:=base) T
 have G_settled_turn:=ac9 (P:=P) (w:=w) (base:=base) T
 refine T.F_Hall_step.ok sc_Hall_step (fun vs H Q E h=>?_) (fun cdv A outer s H vs Q E hr h=>?_)
 · obtain ⟨p,st,ou,ls,stv,ovs,rfl,_⟩:=h
   rfl
 · obtain ⟨p,st,ou,ls,stv,ovs,rfl,⟨hh,hM,hn,hst,hS,hou,hO,hok⟩,q⟩:=h
   refine ⟨_,(@a03 _ _ _ _ _ (@a36 _ _ 3 _ _ _ _ sc_Hall_step.nd rfl (by walk_at "o") (@a30 _ _ _ _ (@a01 _)) (by rfl) (by walk_at "o"))
    (@a03 _ _ _ _ _ (@a36 _ _ 4 _ _ _ _ sc_Hall_step.nd rfl (by walk_at "o") (@a30 _ _ _ _ (@a01 _)) (by rfl) (by walk_at "o"))
    (@a03 _ _ _ _ _ (@aa9 _ _ _ _ _ _ _ _ PassesOwn.never rfl (az5 K rfl T.z_zip (@a00 _ _ _ _ _ (ac5 K (pv 0) rfl) (@a00 _ _ _ _ _ (pv 1) (@a00 _ _ _ _ _ (pv 2) (@a01 _) (by rfl)) (by rfl)) (by rfl))) (aa6 K (n:=3) rfl (a41 (a08 (i:=5) sc_Hall_step.nd rfl (by walk_at "o")) (a41 (a08 (i:=6) sc_Hall_step.nd rfl (by walk_at "o")) (a41 (a08 (i:=7) sc_Hall_step.nd rfl (by walk_at "o")) (@a99 _))))) (@a03 _ _ _ _ _ (@a36 _ _ 8 _ _ _ _ sc_Hall_step.nd rfl (by walk_at "o") (@ao3 _ _ _ _ _ _ _ _ (@a53 _ _ _ _ _ _ _ _ (bi1 K (by exact hr.units)) (pv 7) (aj4 (by rfl) T.m_QUIET (by exact T.r_QUIET)) (nomark _)) (@a40 _ _ _ _ _ _ _ (a38 K) (pv 6) (@a04 _ _ _ _) (fun _ _=>rfl)) (@a32 _ _ _ _ _ _ _ _ _ _ _ _ _ _ _ _ G_put_behind (hr.mono (by omega)) rfl T.m_put_behind T.F_put_behind.kp T.b_put_behind .nil a61 (@a00 _ _ _ _ _ (@a40 _ _ _ _ _ _ _ (a38 K) (pv 6) (@a04 _ _ _ _) (fun _ _=>rfl)) (@a00 _ _ _ _ _ (pv 7) (@a01 _) (by rfl)) (by rfl)) (by decide) (by rfl) (by rfl))) (by rfl) (by walk_at "o"))
     (@a03 _ _ _ _ _ (@aa5 _ _ _ _ (@ab0 _ K _ _ _ _ _ _ _ _ _ _ _ PySem.F.plainAttrs_list PySem.F.slot_list_append PySem.F.type_list_append a84 (pv 3) (@a00 _ _ _ _ _ (@a32 _ _ _ _ _ _ _ _ _ _ _ _ _ _ _ _ G_copied (hr.mono (by omega)) rfl T.m_copied T.F_copied.kp T.b_copied .nil a61 (@a00 _ _ _ _ _ (aj7 (pv 5) T.cl_TableMachine T.M_TableMachine_step G_TableMachine_step (hr.mono (by omega)) T.b_TableMachine_step .nil a61 (@a00 _ _ _ _ _ (@a40 _ _ _ _ _ _ _ (a38 K) (pv 6) (@a04 _ _ _ _) (fun _ _=>rfl)) (@a00 _ _ _ _ _ (@ao3 _ _ _ _ _ _ _ _ (@a53 _ _ _ _ _ _ _ _ bo1 (@a45 _ _ _ _ _ _ _ _ _ (a83 K) (by rfl) T.z_len a87 (@a00 _ _ _ _ _ (pv 8) (@a01 _) (by rfl)) (by decide) (by decide) (by rfl) (by rfl)) (@a04 _ _ _ _) (nomark _)) (@a40 _ _ _ _ _ _ _ (a38 K) (pv 8) (@a04 _ _ _ _) (fun _ _=>rfl)) (aj4 (by rfl) T.m_QUIET (by exact T.r_QUIET))) (@a01 _) (by rfl)) (by rfl))) (@a01 _) (by rfl)) (by decide) (by rfl) (by rfl)) (@a01 _) (by rfl)) (by rfl) (by rfl) (by rfl) (by rfl) (by rfl) (by rfl)) (by rfl))
     (@a07 _ _ _ (@aa5 _ _ _ _ (@ab0 _ K _ _ _ _ _ _ _ _ _ _ _ PySem.F.plainAttrs_list PySem.F.slot_list_append PySem.F.type_list_append a84 (pv 4) (@a00 _ _ _ _ _ (@ab5 _ _ _ _ _ _ _ _ _ _ bh9 (pv 8) (@ae2 _ _ _ (@a04 _ _ _ _)) (@ae1 _)) (@a01 _) (by rfl)) (by rfl) (by rfl) (by rfl) (by rfl) (by rfl) (by rfl)) (by rfl))))) (by intro _; rfl))
    (@a07 _ _ _ (@a52 _ _ _ _ (@a32 _ _ _ _ _ _ _ _ _ _ _ _ _ _ _ _ G_settled_turn (hr.mono (by omega)) rfl T.m_settled_turn T.F_settled_turn.kp T.b_settled_turn .nil a61 (@a00 _ _ _ _ _ (pv 3) (@a00 _ _ _ _ _ (pv 4) (@a01 _) (by rfl)) (by rfl)) (by decide) (by rfl) (by rfl))))))),?_⟩
   have sl:(1000000:Nat)≤sizeLine:=le_line (Nat.le_refl _)
   have stl:=hS.len
   rw [gL] at stl
   have hol:=hO.len
   rw [gL] at hol
   obtain ⟨dx,l1,l2,h1,h2,_⟩:=hh.ex
   walk_at "go"
   intro pt H1 f1 s1 e1
   walk_at "r"
   intro pr H2 f2 s2 e2
   walk_at "r"
   have s02:=s1.trans s2
   have hne:pt≠pr:=a06 e1 f2
   have fpr:=s1.free f2
   refine ⟨p,_,dx,_,_,rfl,s02 _ _ h1,T.cl_Hall,T.n_Hall_machines,ac1 _ _,?_⟩
   walk_at "r"
   obtain ⟨Pv,hPv⟩:∃ Pv:Nat→St→Hp→Prop,Pv=(fun i σ H'=>i≤ls.length∧Same H H'∧(∃ tvs ts,H' pt=some (.lst tvs)∧Each (ToldAt H') tvs ts∧ts.map (·.2)=(ls.map (·.y)).take i∧NewT H ts∧(∀ x∈ts,x.1≠pt)∧∀ x∈ts,x.1≠pr)∧(∃ rvs,H' pr=some (.lst rvs)∧Each (EvsAt H') rvs ((ls.map Ln.row).take i))∧∃ y1 y2 y3 y4,σ=[some (.ref p),some (.ref st),some (.ref ou),some (.ref pt),some (.ref pr),y1,y2,y3,y4]):=⟨_,rfl⟩
   refine ⟨l2,st,ou,rfl,⟨_,SqL.of (s02 _ _ h2)⟩,⟨_,SqT.of (s02 _ _ hst)⟩,⟨_,SqL.of (s02 _ _ hou)⟩,at1 (K:=K) (a:=l2) (b:=st) (c:=ou) (xs:=(ls.map (·.m)).map V.ref) (ys:=stv) (us:=ovs) (by simp; omega) (by simp; omega) Pv (by rw [hPv]; exact ⟨Nat.zero_le _,s02,⟨[],[],s2 _ _ e1,.nil,rfl,fun x hx=>absurd hx (by simp),fun x hx=>absurd hx (by simp),fun x hx=>absurd hx (by simp)⟩,⟨[],e2,.nil⟩,_,_,_,_,rfl⟩) (fun i σ H' _ h=>by rw [hPv] at h; exact ⟨SqL.of (h.2.1 _ _ h2),SqT.of (h.2.1 _ _ hst),SqL.of (h.2.1 _ _ hou)⟩) ?_ ?_⟩
   · intro i mv lv ev σ H3 qt H4 hmv hlv hev hI s34 hqt
     rw [hPv] at hI
     obtain ⟨hi,s3,⟨tvs,ts,hp3,hE3,hx3,hN3,hn3,hn3'⟩,⟨rvs,hr3,hrE3⟩,y1,y2,y3,y4,rfl⟩:=hI
     rw [gM,gM] at hmv
     obtain ⟨m0,hm0,rfl⟩:=gO hmv
     obtain ⟨L,hL,rfl⟩:=gO hm0
     have hi':i<ls.length:=(gS hL).1
     have s4:=s3.trans s34
     obtain ⟨lk,rv,rfl,hlk,hrv⟩:=(hS.2 i lv L.std hlv (by rw [gM,hL]; rfl)).tups s4.tups
     obtain ⟨d,s',c,gs,hmt⟩:=(hM L (gI hL)).same s4
     obtain ⟨dxm,rvm,m1,_⟩:=hmt.ex
     obtain ⟨heq,heq2⟩:=hO.2 i ev L.o hev (by rw [gM,hL]; rfl)
     replace heq:=heq.mono s4.tups
     replace heq2:=fun z=>a78 (heq2 z) s4.tups
     obtain ⟨⟨pj,rm,pj1,pj2,pj3⟩,h3i,_⟩:=hok L (gI hL)
     have htk1:(ls.map (·.y)).take (i+1)=(ls.map (·.y)).take i++[L.y]:=by rw [List.take_add_one,gM,hL]; rfl
     have htk2:(ls.map Ln.row).take (i+1)=(ls.map Ln.row).take i++[L.row]:=by rw [List.take_add_one,gM,hL]; rfl
     have tlen:ts.length=i:=by
      have:=congrArg List.length hx3
      simp at this
      omega
     have rlen:rvs.length=i:=by rw [hrE3.len]; simp; omega
     have hp4:=s34 _ _ hp3
     have hr4:=s34 _ _ hr3
     refine am7 (SqT.of hqt) rfl ?_
     walk_at "r"
     refine c37 heq (quietK T.d_QUIET) (by have:=L.o.tr_h; omega) (by have:=Ev.quiet.tr_h; omega) ?_
     walk_at "r"
     refine twoH (fun v H5=>Same H4 H5∧EvsAt H5 v (inRow L.r L.o)) ?_ (fun hb z=>?_) (fun hb z=>?_)
     rotate_left
     · have ho:L.o=.quiet:=Ev.tr_inj (of_decide_eq_true hb)
       rw [ho] at z
       walk_at "r"
       refine a72 (SqT.of hlk) (a05 (j:=1) rfl) ?_
       exact z _ _ ⟨Same.refl _,hrv⟩
     · have ho:inRow L.r L.o=pb L.r L.o:=by
        cases h:L.o with
        | quiet=>exact absurd (congrArg Ev.tr h) (of_decide_eq_false hb)
        | key k=>rfl
        | word w=>rfl
       rw [ho] at z
       walk_at "r"
       refine a72 (SqT.of hlk) (a05 (j:=1) rfl) ?_
       walk_at "r"
       exact ⟨rv,ev,L.r,L.o,rfl,hrv,heq2 (fun z=>absurd (congrArg Ev.tr z) (of_decide_eq_false hb)),by omega,fun v' H5 s5 hE5=>z _ _ ⟨s5,hE5⟩⟩
     rintro v5 H5 ⟨s45,ra,rus,rfl,hra,hrus⟩
     replace hlk:=s45 _ _ hlk
     replace hp4:=s45 _ _ hp4
     replace hr4:=s45 _ _ hr4
     replace m1:=s45 _ _ m1
     replace hmt:MAt w.params t.c_TableMachine H5 L.m d s' c L.x.es (L.x.sy.map sayT) (L.x.rs.map roomS) gs:=by
      obtain ⟨dx',rvs',g1,g2,g3,g4,g5⟩:=hmt.ex
      exact ⟨dx',rvs',s45 _ _ g1,ab2 g2 s45,s45 _ _ g3,s45 _ _ g4,g5.same s45⟩
     have s5':=s4.trans s45
     have s35:=s34.trans s45
     have h3r:(inRow L.r L.o).length≤3:=ag5 h3i
     have hLr:L.row=(inRow L.r L.o).tail:=rfl
     generalize inRow L.r L.o=r at hrus h3r pj1 hLr
     walk_at "r"
     refine af7 (SqL.of hp4) ?_
     walk_at "r"
     refine ⟨L.m,dxm,_,rfl,m1,bs4 _ _ _ (by decide +kernel) (by decide +kernel) (by decide +kernel),?_⟩
     walk_at "r"
     refine a72 (SqT.of hlk) (a05 (j:=0) rfl) ?_
     walk_at "r"
     refine b92 (SqT.of hra) ?_
     walk_at "r"
     have ul:rus.length=r.length:=by rw [hrus.len,gL]
     rw [ul]
     refine twoH (fun v H6=>H6=H5∧(evOf r).tr.AtK K H5 v) ?_ (fun hb z=>?_) (fun hb z=>?_)
     rotate_left
     · have hpos:0<r.length:=by have:=of_decide_eq_true hb; omega
       cases r with
       | nil=>simp at hpos
       | cons w0 r =>
         obtain ⟨v0,us0,rfl,hv0,_⟩:=ats_cons0.mp hrus
         walk_at "r"
         refine a72 (SqT.of hra) (a05 (j:=0) rfl) ?_
         exact z _ _ ⟨rfl,hv0.toK K⟩
     · have hz:r=[]:=by
        have:=of_decide_eq_false hb
        exact List.length_eq_zero_iff.mp (by omega)
       subst hz
       walk_at "r"
       exact z _ _ ⟨rfl,quietK T.d_QUIET⟩
     · rintro v _ ⟨rfl,he⟩
       walk_at "r"
       refine ⟨L.m,d,s',c,_,_,_,gs,L.g,pj,v,evOf r,roomS rm,rowS L.y,rfl,hmt,he,pj1,by rw [gM,pj2]; rfl,by show (rm.2.map rowS)[pj]?=_; rw [gM,pj3]; rfl,fun k l H6 f5 s5 e5 e5'=>?_⟩
       walk_at "r"
       refine ⟨k,l,_,_,rfl,e5,e5',fun l' k' H7 f6 s6 e6 e6'=>?_⟩
       walk_at "r"
       have s46:=s5.trans s6
       have hp6:=s46 _ _ hp4
       have hr6:=s46 _ _ hr4
       refine a96 hp6 (by rw [hE3.len,tlen]; omega) ?_
       have hnl:l'≠pt:=(a06 (s5 _ _ hp4) f6).symm
       have hnl':l'≠pr:=(a06 (s5 _ _ hr4) f6).symm
       have s7:Same H (upd H7 pt (.lst (tvs++[.ref k']))):=(s5'.trans s46).updNew f1
       have t7:Tups H7 (upd H7 pt (.lst (tvs++[.ref k']))):=Tups.upd hp6
       have e7:upd H7 pt (.lst (tvs++[.ref k'])) pt=some (.lst (tvs++[.ref k'])):=a33
       have hr7:upd H7 pt (.lst (tvs++[.ref k'])) pr=some (.lst rvs):=by rw [a09 (Ne.symm hne)]; exact hr6
       have hE7:Each (ToldAt (upd H7 pt (.lst (tvs++[.ref k'])))) (tvs++[.ref k']) (ts++[(l',L.y)]):=by
        refine Each.snoc ⟨hE3.1,fun j v x a b=>(((hE3.2 j v x a b).same (s35.trans s46)).upd hp6 (hn3 x (gI b)))⟩ (ToldAt.upd ⟨k',rfl,e6,e6'⟩ hp6 hnl)
       have hra7:=t7 _ _ (s46 _ _ hra)
       generalize upd H7 pt (.lst (tvs++[.ref k']))=H7b at s7 t7 e7 hr7 hE7 hra7
       walk_at "r"
       refine af7 (SqL.of hr7) ?_
       walk_at "r"
       refine c88 hra7 fun c8 H8 s8 e8=>?_
       rw [cut1] at e8
       walk_at "r"
       have hr8:=s8 _ _ hr7
       refine a96 hr8 (by omega) ?_
       have t9:Tups H8 (upd H8 pr (.lst (rvs++[.ref c8]))):=Tups.upd hr8
       have t39:Tups H3 (upd H8 pr (.lst (rvs++[.ref c8]))):=(s35.trans s46).tups.trans (t7.trans (s8.tups.trans t9))
       have hnx:∀ x∈ts++[(l',L.y)],x.1≠pt∧x.1≠pr:=fun x hx=>by
        rcases gA hx with hx | hx
        · exact ⟨hn3 x hx,hn3' x hx⟩
        · rw [gG hx]
          exact ⟨hnl,hnl'⟩
       rw [hPv]
       show _∧_
       rw [htk1,htk2,show L.row=r.tail from hLr]
       refine ⟨hi',(s7.trans s8).updNew fpr,⟨_,ts++[(l',L.y)],by rw [a09 hne]; exact s8 _ _ e7,?_,?_,?_,fun x hx=>(hnx x hx).1,fun x hx=>(hnx x hx).2⟩,⟨_,a33,?_⟩,_,_,_,_,rfl⟩
       · exact ⟨hE7.1,fun j v x a b=>((hE7.2 j v x a b).same s8).upd hr8 (hnx x (gI b)).2⟩
       · rw [List.map_append,hx3]
         rfl
       · intro x hx
         rcases gA hx with hx | hx
         · exact hN3 x hx
         · rw [gG hx]
           exact (s5'.trans s5).free f6
       · exact (hrE3.mono fun v x h=>h.tups t39).snoc ⟨c8,_,rfl,t9 _ _ e8,a62 (b00 hrus) (s46.tups.trans (t7.trans (s8.tups.trans t9)))⟩
   · intro σ H3 hI
     rw [hPv] at hI
     obtain ⟨_,s3,⟨tvs,ts,hp3,hE3,hx3,hN3,hn3,hn3'⟩,⟨rvs,hr3,hrE3⟩,y1,y2,y3,y4,rfl⟩:=hI
     rw [gL,gL,List.take_of_length_le (by simp)] at hx3
     rw [gL,gL,List.take_of_length_le (by simp)] at hrE3
     have tlen:ts.length=ls.length:=by
      have:=congrArg List.length hx3
      simp at this
      omega
     walk_at "r"
     refine ⟨pt,pr,tvs,rvs,ts,ls.map Ln.row,rfl,hp3,hE3,hr3,hrE3,by simp; omega,by omega,fun x hx=>?_,fun r hr=>?_,fun v H5 s5 hT5=>?_⟩
     · have:x.2∈ls.map (·.y):=by rw [← hx3]; exact List.mem_map_of_mem hx
       obtain ⟨L,hL,e⟩:=List.mem_map.mp this
       rw [← e]
       exact (hok L hL).says
     · obtain ⟨L,hL,rfl⟩:=List.mem_map.mp hr
       have h3:=ag5 (o:=L.o) (hok L hL).le
       unfold Ln.row
       simp
       omega
     · rw [show ts.map (·.2.1)=ls.map (·.y.1) by
        have:=congrArg (List.map Prod.fst) hx3
        rw [List.map_map,List.map_map] at this
        exact this] at hT5
       exact q v H5 ts (s3.trans s5) (hT5.free s3) hx3 hN3
def bt1 (K:W.Frag) (P:Params) (C:Addr):Sp:=fun vs H Q _=>∃ (p d s c:Addr) (es:List Ev) (sy:List Str) (rs:List ag3) (gs:List Addr) (n:Nat) (r:ag3),vs=[.ref p,.int (n:Nat)]∧MAt P C H p d s c es sy rs gs∧rs[n]?=some r∧Q (.bl r.1) H
theorem ad7 (T:Txt K mg t):FnOk P w K mg base CX0 1 t.a_TableMachine_over t.fd_TableMachine_over ["self","standing"] (bt1 K w.params t.c_TableMachine):=by
 refine T.F_TableMachine_over.ok ad5 (fun vs H Q E h=>?_) (fun cdv A outer s H vs Q E hr h=>?_)
 · obtain ⟨p,d,s',c,es,sy,rs,gs,n,r,rfl,_⟩:=h
   rfl
 · obtain ⟨p,d,s',c,es,sy,rs,gs,n,r,rfl,hM,hr1,q⟩:=h
   refine ⟨_,(@a07 _ _ _ (@a52 _ _ _ _ (@a40 _ _ _ _ _ _ _ (a38 K) (@a40 _ _ _ _ _ _ _ (a35 K) (ac5 K (pv 0) rfl) (pv 1) (fun _ _=>rfl)) (@a04 _ _ _ _) (fun _ _=>rfl)))),?_⟩
   obtain ⟨dx,rvs,h1,h2,h3,h4,h5⟩:=hM.ex
   have hn:n<rvs.length:=by
    rw [h5.len,gL]
    exact (gS hr1).1
   obtain ⟨tx,fx,hx1,hx2,_⟩:=h5.get n rvs[n] (gE hn)
   rw [gM,hr1] at hx1
   cases hx1
   obtain ⟨q1,g,ps,gs1,hq0,hq1,hg,hps,rfl⟩:=room_w.mp hx2
   walk_at "go"
   refine ⟨p,_,dx,_,_,rfl,h1,T.cl_TableMachine,T.n_TableMachine_rooms,az8 _ _ _,?_⟩
   walk_at "r"
   refine a86 (SqL.of h4) (a05 (j:=n) (v:=.ref q1) (by rw [gE hn,hq0])) ?_
   walk_at "r"
   exact a72 (SqT.of hq1) (a05 (j:=0) rfl) q
def bj5 (K:W.Frag) (P:Params) (C Ct:Addr):Sp:=fun vs H Q _=>∃ (p st:Addr) (ms:List Addr) (xs:List Tab) (stv:List V) (S:List (Nat×List Ev)) (bs:List Bool),vs=[.ref p,.ref st]∧HallAt C H p ms∧Each (MS P Ct H) ms xs∧ms.length≤100∧H st=some (.tup stv)∧Each (StdAt H) stv S∧S.length=ms.length∧bs.length=ms.length ∧
 (∀ (i:Nat) (x:Tab) (s:Nat×List Ev) (b:Bool),xs[i]?=some x→S[i]?=some s→bs[i]?=some b→∃ rm,x.rs[s.1]?=some rm∧rm.1=b)∧∀ l H',H l=none→Same H H'→H' l=some (.lst (bs.map V.bl))→Q (.ref l) H'
theorem ae6 (T:Txt K mg t):FnOk P w K mg base CX0 2 t.a_Hall_ended_lines t.fd_Hall_ended_lines ["self","standing"] (bj5 K w.params t.c_Hall t.c_TableMachine):=by
 have G_TableMachine_over:=ad7 (P:=P) (w:=w) (base:=base) T
 refine T.F_Hall_ended_lines.ok ae5 (fun vs H Q E h=>?_) (fun cdv A outer s H vs Q E hr h=>?_)
 · obtain ⟨p,st,ms,xs,stv,S,bs,rfl,_⟩:=h
   rfl
 · obtain ⟨p,st,ms,xs,stv,S,bs,rfl,hh,hM,hn,hst,hS,hSl,hbl,hb,q⟩:=h
   refine ⟨_,(@a07 _ _ _ (@a52 _ _ _ _ (ab6 (Nt:=["machine","line"]) (Nf:=[]) (caps:=[]) rfl (a50 (sc:=defScope a42) rfl rfl (by decide +kernel) (by decide +kernel) (by decide +kernel) rfl (by decide +kernel)) (bi7 K rfl T.z_zip (@a00 _ _ _ _ _ (ac5 K (pv 0) rfl) (@a00 _ _ _ _ _ (pv 1) (@a01 _) (by rfl)) (by rfl))) (fun _ _ _ _ _=>(aa6 K (n:=2) rfl (a41 (a08 (i:=0) (show (["machine","line"]:List Str).Nodup by decide +kernel) rfl (by walk_at "o")) (a41 (a08 (i:=1) (show (["machine","line"]:List Str).Nodup by decide +kernel) rfl (by walk_at "o")) (@a99 _))))) (fun _ _ _ _ _=>(@a59 _)) (fun _ _ _ _ _=>(aj7 (pv 0) T.cl_TableMachine T.M_TableMachine_over G_TableMachine_over (hr.mono (by omega)) T.b_TableMachine_over .nil a61 (@a00 _ _ _ _ _ (@a40 _ _ _ _ _ _ _ (a38 K) (pv 1) (@a04 _ _ _ _) (fun _ _=>rfl)) (@a01 _) (by rfl))))))),?_⟩
   have sl:(1000000:Nat)≤sizeLine:=le_line (Nat.le_refl _)
   have stl:=hS.len
   have ml:=hM.len
   obtain ⟨dx,l1,l2,h1,h2,_⟩:=hh.ex
   walk_at "go"
   refine ⟨p,_,dx,_,_,rfl,h1,T.cl_Hall,T.n_Hall_machines,ac1 _ _,?_⟩
   walk_at "r"
   refine ⟨l2,st,rfl,⟨_,SqL.of h2⟩,⟨_,SqT.of hst⟩,bi8 (K:=K) (xs:=ms.map V.ref) (ys:=stv) (by simp; omega) (le_line (by simp; omega)) (fun i acc H'=>i≤ms.length∧Same H H'∧acc=(bs.take i).map V.bl) ⟨Nat.zero_le _,Same.refl _,rfl⟩ (fun i acc H' ⟨hi,s',e⟩=>⟨by rw [e]; simp; omega,SqL.of (s' _ _ h2),SqT.of (s' _ _ hst)⟩) ?_ ?_⟩
   · rintro i v z acc H2 H3 hv hz ⟨hi,s2,rfl⟩ s3
     rw [gM] at hv
     obtain ⟨m,hm,rfl⟩:=gO hv
     have hi':i<ms.length:=(gS hm).1
     obtain ⟨x,hx⟩:∃ x,xs[i]?=some x:=⟨_,gE (by omega)⟩
     obtain ⟨s,hs⟩:∃ s,S[i]?=some s:=⟨_,gE (by omega)⟩
     obtain ⟨b,hbi⟩:∃ b,bs[i]?=some b:=⟨_,gE (by omega)⟩
     obtain ⟨rm,r1,r2⟩:=hb i x s b hx hs hbi
     have s4:=s2.trans s3
     obtain ⟨d,s',c,gs,hmt⟩:=(hM.2 i m x hm hx).same s4
     obtain ⟨dxm,rvm,m1,_⟩:=hmt.ex
     obtain ⟨lk,rv,rfl,hlk,hrv⟩:=(hS.2 i z s hz hs).tups s4.tups
     walk_at "r"
     refine ⟨m,dxm,_,rfl,m1,bs4 _ _ _ (by decide +kernel) (by decide +kernel) (by decide +kernel),?_⟩
     walk_at "r"
     refine a72 (SqT.of hlk) (a05 (j:=0) rfl) ?_
     walk_at "r"
     refine ⟨m,d,s',c,_,_,_,gs,s.1,roomS rm,rfl,hmt,by rw [gM,r1]; rfl,?_⟩
     refine ⟨hi',s4,?_⟩
     rw [List.take_add_one,hbi,List.map_append,show (roomS rm).1=b from r2]
     rfl
   · rintro acc H3 ⟨_,s3,rfl⟩ l H4 f4 s4 e4
     walk_at "r"
     rw [gL,List.take_of_length_le (by omega)] at e4
     exact q l H4 (s3.free f4) (s3.trans s4) e4
def saids:List (List Say) :=
 [[(none,Str.ofString "a")],[(some 0,Str.ofString "go")],[(some 1,Str.ofString "yes")],[(some 2,Str.ofString "go")],[(some 0,Str.ofString "yes"),(some 1,Str.ofString "go")],[(none,Str.ofString "b"),(some 7,Str.ofString "go")]]
def saidT:List (List Str):=[["a"],["0:go"],["1:yes"],["2:go"],["0:yes","1:go"],["b","7:go"]]
theorem bt2:saids.map (·.map sayT)=saidT:=by decide +kernel
def sayB (x:Say):Bool:=W5.contains x.2 && (match x.1 with | none=>true | some l=>decide (l<10))
theorem bt3 {x:Say}(h:sayB x=true):SayOk x:=by
 unfold sayB at h
 rw [Bool.and_eq_true] at h
 refine ⟨by simpa using h.1,fun l hl=>?_⟩
 have h2:=h.2
 rw [hl] at h2
 exact of_decide_eq_true h2
theorem bj6:∀ x∈saids,SaysOk x:=by
 have h:saids.all (fun x=>decide (x.length≤100) && x.all sayB)=true:=by decide +kernel
 intro x hx
 have:=List.all_eq_true.mp h x hx
 rw [Bool.and_eq_true] at this
 exact ⟨of_decide_eq_true this.1,fun s hs=>bt3 (List.all_eq_true.mp this.2 s hs)⟩
def TxtsAt (H:Hp) (ls:List Addr) (ts:List (List Str)):Prop:=Each (fun l t=>H l=some (.lst (strsV t))) ls ts
theorem TxtsAt.add {H H':Hp}{ls:List Addr}{ts:List (List Str)}{l:Addr}{t:List Str}(h:TxtsAt H ls ts) (s:Same H H') (e:H' l=some (.lst (strsV t))):TxtsAt H' (ls++[l]) (ts++[t]):=Each.snoc (h.mono fun l t h=>s _ _ h) e
theorem TxtsAt.same {H H':Hp}{ls:List Addr}{ts:List (List Str)}(h:TxtsAt H ls ts) (s:Same H H'):TxtsAt H' ls ts:=h.mono fun l t h=>s _ _ h
theorem StA.ne {H:Hp}{s:Addr}{z:Int}(k:StA H s z) {p:Addr}(h:H p=none):p≠s:=by
 obtain ⟨x,e⟩:=k
 exact (a06 e h).symm
theorem StA.not_str {H:Hp}{s:Addr}{z:Int}(k:StA H s z) {p:Addr}{t:List Str}(h:H p=some (.lst (strsV t))):p≠s:=by
 obtain ⟨x,e⟩:=k
 rintro rfl
 rw [e] at h
 cases t <;> simp [strsV] at h
def bt4 (K:W.Frag):Sp:=fun vs H Q _=>∃ (s:Addr) (z:Int),vs=[.ref s]∧StA H s z∧∀ l x H',Oth s H H'→StA H' s z→H l=none→H' l=some (.lst (strsV (List.map sayT x)))→SaysOk x→Q (.ref l) H'
theorem ax5 (T:Txt K mg t):FnOk P w K mg base CX0 2 t.a__law_said t.fd__law_said ["state"] (bt4 K):=by
 have G__law_take:=ab9 (P:=P) (w:=w) (base:=base) T
 refine T.F__law_said.ok sc_law_said (fun vs H Q E h=>?_) (fun cdv A outer s H vs Q E hr h=>?_)
 · obtain ⟨s0,z,rfl,_⟩:=h
   rfl
 · obtain ⟨s0,z,rfl,hs,q⟩:=h
   refine ⟨_,(@a03 _ _ _ _ _ (@a36 _ _ 1 _ _ _ _ sc_law_said.nd rfl (by walk_at "o") (@a30 _ _ _ _ (@a00 _ _ _ _ _ (@a30 _ _ _ _ (@a00 _ _ _ _ _ (@a51 _ _ _ _) (@a01 _) (by rfl))) (@a00 _ _ _ _ _ (@a30 _ _ _ _ (@a00 _ _ _ _ _ (@a51 _ _ _ _) (@a01 _) (by rfl))) (@a00 _ _ _ _ _ (@a30 _ _ _ _ (@a00 _ _ _ _ _ (@a51 _ _ _ _) (@a01 _) (by rfl))) (@a00 _ _ _ _ _ (@a30 _ _ _ _ (@a00 _ _ _ _ _ (@a51 _ _ _ _) (@a01 _) (by rfl))) (@a00 _ _ _ _ _ (@a30 _ _ _ _ (@a00 _ _ _ _ _ (@a51 _ _ _ _) (@a00 _ _ _ _ _ (@a51 _ _ _ _) (@a01 _) (by rfl)) (by rfl))) (@a00 _ _ _ _ _ (@a30 _ _ _ _ (@a00 _ _ _ _ _ (@a51 _ _ _ _) (@a00 _ _ _ _ _ (@a51 _ _ _ _) (@a01 _) (by rfl)) (by rfl))) (@a01 _) (by rfl)) (by rfl)) (by rfl)) (by rfl)) (by rfl)) (by rfl))) (by rfl) (by walk_at "o"))
    (@a03 _ _ _ _ _ (@ab1 _ _ _ _ _ _ _ _ (@a53 _ _ _ _ _ _ _ _ ai0 (@a32 _ _ _ _ _ _ _ _ _ _ _ _ _ _ _ _ G__law_take (hr.mono (by omega)) rfl T.m__law_take T.F__law_take.kp T.b__law_take .nil a61 (@a00 _ _ _ _ _ (pv 0) (@a00 _ _ _ _ _ (@a04 _ _ _ _) (@a01 _) (by rfl)) (by rfl)) (by decide) (by rfl) (by rfl)) (@a04 _ _ _ _) (nomark _)) (@a07 _ _ _ (@a52 _ _ _ _ (@a30 _ _ _ _ (@a01 _)))) (@a68 _))
    (@a07 _ _ _ (@a52 _ _ _ _ (@a37 _ _ _ _ _ _ _ _ _ (a94 K) (by rfl) T.z_list a98 (@a00 _ _ _ _ _ (@a40 _ _ _ _ _ _ _ (a35 K) (pv 1) (@a32 _ _ _ _ _ _ _ _ _ _ _ _ _ _ _ _ G__law_take (hr.mono (by omega)) rfl T.m__law_take T.F__law_take.kp T.b__law_take .nil a61 (@a00 _ _ _ _ _ (pv 0) (@a00 _ _ _ _ _ (@a04 _ _ _ _) (@a01 _) (by rfl)) (by rfl)) (by decide) (by rfl) (by rfl)) (fun _ _=>rfl)) (@a01 _) (by rfl)) (by decide) (by decide) (by rfl) (by rfl)))))),?_⟩
   have sl:(1000000:Nat)≤sizeLine:=le_line (Nat.le_refl _)
   walk_at "go"
   intro a0 H1 f0 s0' e0
   walk_at "r"
   intro a1 H2 f1 s1 e1
   walk_at "r"
   intro a2 H3 f2 s2 e2
   walk_at "r"
   intro a3 H4 f3 s3 e3
   walk_at "r"
   intro a4 H5 f4 s4 e4
   walk_at "r"
   intro a5 H6 f5 s5 e5
   walk_at "r"
   have T6:TxtsAt H6 [a0,a1,a2,a3,a4,a5] saidT :=
    ((((((show TxtsAt H [] [] from Each.nil).add s0' e0).add s1 e1).add s2 e2).add s3 e3).add s4 e4).add s5 e5
   have s06:Same H H6:=s0'.trans (s1.trans (s2.trans (s3.trans (s4.trans s5))))
   clear e0 e1 e2 e3 e4 e5 f0 f1 f2 f3 f4 f5 s0' s1 s2 s3 s4 s5
   intro b6 H7 g6 r6 e6
   walk_at "r"
   have T7:=T6.same r6
   have s07:=s06.trans r6
   have k7:=hs.same s07
   have nb6:b6≠s0:=(hs.same s06).ne g6
   clear T6
   refine ⟨s0,z,2,rfl,k7,by decide,by decide,fun r H8 hr o8 k8=>?_⟩
   walk_at "r"
   by_cases h0:r=0
   · rw [if_pos (decide_eq_true (by omega))]
     walk_at "r"
     intro p9 H9 f9 s9 e9
     exact q p9 [] H9 (((a54 s07).trans o8).trans (a54 s9)) (k8.same s9) (((a54 s07).trans o8).free k8 f9) e9 ⟨by simp,by simp⟩
   rw [if_neg (by simp; omega)]
   walk_at "r"
   refine ⟨s0,z,6,rfl,k8,by decide,by decide,fun r2 H9 hr2 o9 k9=>?_⟩
   walk_at "r"
   have o79:=o8.trans o9
   have e9:=o79 _ _ nb6 e6
   have hrl:r2<saids.length:=hr2
   have hT:saidT[r2]?=some (saids[r2].map sayT):=by rw [← bt2,gM,gE hrl]; rfl
   obtain ⟨av,hav,hat⟩:=Each.get T7 hT
   have hat9:=o79 _ _ (k7.not_str hat) hat
   refine a86 (SqL.of e9) (a05 (j:=r2) (v:=.ref av) (by
    have h:=congrArg (Option.map V.ref) hav
    rw [← gM] at h
    exact h)) ?_
   walk_at "r"
   refine aa7 (SqL.of hat9) ?_
   intro p17 H17 f17 s17 e17
   exact q p17 _ H17 (((a54 s07).trans o79).trans (a54 s17)) (k9.same s17) (((a54 s07).trans o79).free k9 f17) e17 (bj6 _ (List.getElem_mem hrl))
theorem c96 {ks:List Nat}{ws:List Str}(h1:ks.Nodup) (h2:ws.Nodup):([Ev.quiet]++ks.map Ev.key++ws.map Ev.word).Nodup:=by
 have i1:(ks.map Ev.key).Nodup:=List.Pairwise.map _ (fun a b hab z=>hab (by injection z)) h1
 have i2:(ws.map Ev.word).Nodup:=List.Pairwise.map _ (fun a b hab z=>hab (by injection z)) h2
 unfold List.Nodup at *
 rw [List.pairwise_append,List.pairwise_append]
 refine ⟨⟨by simp,i1,?_⟩,i2,?_⟩
 · intro a ha b hb z
   obtain ⟨k,_,rfl⟩:=List.mem_map.mp hb
   rw [gG ha] at z
   cases z
 · intro a ha b hb z
   obtain ⟨k,_,rfl⟩:=List.mem_map.mp hb
   rcases gA ha with ha | ha
   · rw [gG ha] at z
     cases z
   · obtain ⟨k',_,rfl⟩:=List.mem_map.mp ha
     cases z
theorem ag6 {ks:List Nat}{j:Nat}{v:V}(h:(natsV ks)[j]?=some v):∃ k,ks[j]?=some k∧v=.int (k:Nat):=by
 simp only [natsV,gM] at h
 obtain ⟨k,h1,h2⟩:=gO h
 exact ⟨k,h1,h2.symm⟩
theorem of4 {r:Nat}{a b c d:Addr}(h:r<4):∃ x:Addr,atI [V.ref a,.ref b,.ref c,.ref d] (r:Nat)=some (.ref x)∧(x=a∨x=b∨x=c∨x=d):=by
 have:r=0∨r=1∨r=2∨r=3:=by omega
 rcases this with rfl | rfl | rfl | rfl
 · exact ⟨a,a05 rfl,by simp⟩
 · exact ⟨b,a05 rfl,by simp⟩
 · exact ⟨c,a05 rfl,by simp⟩
 · exact ⟨d,a05 rfl,by simp⟩
def TabW (H:Hp) (v:V) (x:Tab):Prop:=∃ a b c gs,TabAt H v a b c x.es (x.sy.map sayT) (x.rs.map roomS) gs
theorem TabW.same {H H':Hp}{v:V}{x:Tab}(h:TabW H v x) (s:Same H H'):TabW H' v x:=by
 obtain ⟨a,b,c,gs,h⟩:=h
 obtain ⟨t,us,rvs,h1,h2,h3,h4,h5,h6,h7⟩:=h.ex
 exact ⟨a,b,c,gs,⟨t,us,rvs,h1,s _ _ h2,s _ _ h3,h4.same s,s _ _ h5,s _ _ h6,h7.same s⟩⟩
def RowsOk (es:List Ev) (m:Nat) (rows:List SRow):Prop:=rows.length=es.length∧∀ x∈rows,x.2<m∧SaysOk x.1
theorem aj0 {s:Addr}{H H':Hp}{z:Int}{gs:List Addr}(o:Oth s H H') (k:StA H s z) (h:∀ x∈gs,x≠s):Keep gs H H':=⟨o.tups k,fun a ha xs e=>o a _ (h a ha) e⟩
def bj7 (K:W.Frag):Sp:=fun vs H Q _=>∃ (c m:Int),vs=[.int c,.int m]∧∀ v x H',Same H H'→TabW H' v x→TOk x→Q v H'
theorem au0 (T:Txt K mg t):FnOk P w K mg base CX0 3 t.a__law_table t.fd__law_table ["cell","mixed"] (bj7 K):=by
 have G__law_said:=ax5 (P:=P) (w:=w) (base:=base) T
 have G__law_take:=ab9 (P:=P) (w:=w) (base:=base) T
 refine T.F__law_table.ok sc_law_table (fun vs H Q E h=>?_) (fun cdv A outer s H vs Q E hr h=>?_)
 · obtain ⟨c,m,rfl,_⟩:=h
   rfl
 · obtain ⟨c,m,rfl,q⟩:=h
   refine ⟨_,(@a03 _ _ _ _ _ (@a36 _ _ 2 _ _ _ _ sc_law_table.nd rfl (by walk_at "o") (@a30 _ _ _ _ (@a00 _ _ _ _ _ (pv 0) (@a00 _ _ _ _ _ (pv 1) (@a01 _) (by rfl)) (by rfl))) (by rfl) (by walk_at "o"))
    (@a03 _ _ _ _ _ (@a36 _ _ 3 _ _ _ _ sc_law_table.nd rfl (by walk_at "o") (@a40 _ _ _ _ _ _ _ (a35 K) (@a30 _ _ _ _ (@a00 _ _ _ _ _ (@a30 _ _ _ _ (@a01 _)) (@a00 _ _ _ _ _ (@a30 _ _ _ _ (@a00 _ _ _ _ _ (@a04 _ _ _ _) (@a01 _) (by rfl))) (@a00 _ _ _ _ _ (@a30 _ _ _ _ (@a00 _ _ _ _ _ (@a04 _ _ _ _) (@a01 _) (by rfl))) (@a00 _ _ _ _ _ (@a30 _ _ _ _ (@a00 _ _ _ _ _ (@a04 _ _ _ _) (@a00 _ _ _ _ _ (@a04 _ _ _ _) (@a01 _) (by rfl)) (by rfl))) (@a01 _) (by rfl)) (by rfl)) (by rfl)) (by rfl))) (@a32 _ _ _ _ _ _ _ _ _ _ _ _ _ _ _ _ G__law_take (hr.mono (by omega)) rfl T.m__law_take T.F__law_take.kp T.b__law_take .nil a61 (@a00 _ _ _ _ _ (pv 2) (@a00 _ _ _ _ _ (@a04 _ _ _ _) (@a01 _) (by rfl)) (by rfl)) (by decide) (by rfl) (by rfl)) (fun _ _=>rfl)) (by rfl) (by walk_at "o"))
    (@a03 _ _ _ _ _ (@a36 _ _ 4 _ _ _ _ sc_law_table.nd rfl (by walk_at "o") (@a40 _ _ _ _ _ _ _ (a35 K) (@a30 _ _ _ _ (@a00 _ _ _ _ _ (@a30 _ _ _ _ (@a01 _)) (@a00 _ _ _ _ _ (@a30 _ _ _ _ (@a00 _ _ _ _ _ (@a51 _ _ _ _) (@a01 _) (by rfl))) (@a00 _ _ _ _ _ (@a30 _ _ _ _ (@a00 _ _ _ _ _ (@a51 _ _ _ _) (@a01 _) (by rfl))) (@a00 _ _ _ _ _ (@a30 _ _ _ _ (@a00 _ _ _ _ _ (@a51 _ _ _ _) (@a00 _ _ _ _ _ (@a51 _ _ _ _) (@a01 _) (by rfl)) (by rfl))) (@a01 _) (by rfl)) (by rfl)) (by rfl)) (by rfl))) (@a32 _ _ _ _ _ _ _ _ _ _ _ _ _ _ _ _ G__law_take (hr.mono (by omega)) rfl T.m__law_take T.F__law_take.kp T.b__law_take .nil a61 (@a00 _ _ _ _ _ (pv 2) (@a00 _ _ _ _ _ (@a04 _ _ _ _) (@a01 _) (by rfl)) (by rfl)) (by decide) (by rfl) (by rfl)) (fun _ _=>rfl)) (by rfl) (by walk_at "o"))
    (@a03 _ _ _ _ _ (@a36 _ _ 5 _ _ _ _ sc_law_table.nd rfl (by walk_at "o") (@a69 _ _ _ _ _ _ _ _ a76 (@a69 _ _ _ _ _ _ _ _ a76 (@a30 _ _ _ _ (@a00 _ _ _ _ _ (@a34 _ _ _ _ _ (@a00 _ _ _ _ _ (@a51 _ _ _ _) (@a01 _) (by rfl))) (@a01 _) (by rfl))) (ab6 (Nt:=["key"]) (Nf:=[]) (caps:=[]) rfl (a50 (sc:=defScope a63) rfl rfl (by decide +kernel) (by decide +kernel) (by decide +kernel) rfl (by decide +kernel)) (a48 K (pv 3)) (fun _ _ _ _ _=>(a08 (i:=0) (show (["key"]:List Str).Nodup by decide +kernel) rfl (by walk_at "o"))) (fun _ _ _ _ _=>(@a59 _)) (fun _ _ _ _ _=>(@a34 _ _ _ _ _ (@a00 _ _ _ _ _ (@a51 _ _ _ _) (@a00 _ _ _ _ _ (pv 0) (@a01 _) (by rfl)) (by rfl)))))) (ab6 (Nt:=["word"]) (Nf:=[]) (caps:=[]) rfl (a50 (sc:=defScope a63) rfl rfl (by decide +kernel) (by decide +kernel) (by decide +kernel) rfl (by decide +kernel)) (a48 K (pv 4)) (fun _ _ _ _ _=>(a08 (i:=0) (show (["word"]:List Str).Nodup by decide +kernel) rfl (by walk_at "o"))) (fun _ _ _ _ _=>(@a59 _)) (fun _ _ _ _ _=>(@a34 _ _ _ _ _ (@a00 _ _ _ _ _ (@a51 _ _ _ _) (@a00 _ _ _ _ _ (pv 0) (@a01 _) (by rfl)) (by rfl)))))) (by rfl) (by walk_at "o"))
    (@a03 _ _ _ _ _ (@a36 _ _ 6 _ _ _ _ sc_law_table.nd rfl (by walk_at "o") (@a69 _ _ _ _ _ _ _ _ a76 (@a04 _ _ _ _) (@a32 _ _ _ _ _ _ _ _ _ _ _ _ _ _ _ _ G__law_take (hr.mono (by omega)) rfl T.m__law_take T.F__law_take.kp T.b__law_take .nil a61 (@a00 _ _ _ _ _ (pv 2) (@a00 _ _ _ _ _ (@a04 _ _ _ _) (@a01 _) (by rfl)) (by rfl)) (by decide) (by rfl) (by rfl))) (by rfl) (by walk_at "o"))
    (@a03 _ _ _ _ _ (@a36 _ _ 7 _ _ _ _ sc_law_table.nd rfl (by walk_at "o") (@a32 _ _ _ _ _ _ _ _ _ _ _ _ _ _ _ _ G__law_said (hr.mono (by omega)) rfl T.m__law_said T.F__law_said.kp T.b__law_said .nil a61 (@a00 _ _ _ _ _ (pv 2) (@a01 _) (by rfl)) (by decide) (by rfl) (by rfl)) (by rfl) (by walk_at "o"))
    (@a03 _ _ _ _ _ (@a36 _ _ 8 _ _ _ _ sc_law_table.nd rfl (by walk_at "o") (@a30 _ _ _ _ (@a01 _)) (by rfl) (by walk_at "o"))
    (@a03 _ _ _ _ _ (@aa9 _ _ _ _ _ _ _ _ PassesOwn.never rfl (a95 rfl T.z_range (@a00 _ _ _ _ _ (pv 6) (@a01 _) (by rfl))) (a08 (i:=9) sc_law_table.nd rfl (by walk_at "o")) (@a07 _ _ _ (@ab1 _ _ _ _ _ _ _ _ (@a53 _ _ _ _ _ _ _ _ ai0 (@a32 _ _ _ _ _ _ _ _ _ _ _ _ _ _ _ _ G__law_take (hr.mono (by omega)) rfl T.m__law_take T.F__law_take.kp T.b__law_take .nil a61 (@a00 _ _ _ _ _ (pv 2) (@a00 _ _ _ _ _ (@a04 _ _ _ _) (@a01 _) (by rfl)) (by rfl)) (by decide) (by rfl) (by rfl)) (@a04 _ _ _ _) (nomark _)) (@a07 _ _ _ (@aa5 _ _ _ _ (@ab0 _ K _ _ _ _ _ _ _ _ _ _ _ PySem.F.plainAttrs_list PySem.F.slot_list_append PySem.F.type_list_append a84 (pv 8) (@a00 _ _ _ _ _ (@a34 _ _ _ _ _ (@a00 _ _ _ _ _ (@aj2 _ _ _ _) (@a00 _ _ _ _ _ (ab6 (Nt:=["event"]) (Nf:=["k"]) (caps:=[9]) rfl (a50 (sc:=defScope a63) rfl rfl (by decide +kernel) (by decide +kernel) (by decide +kernel) rfl (by decide +kernel)) (a48 K (pv 5)) (fun _ _ _ _ _=>(a08 (i:=0) (show (["event","k"]:List Str).Nodup by decide +kernel) rfl (by walk_at "o"))) (fun _ _ _ _ _=>(@a59 _)) (fun _ _ _ _ _=>(@a34 _ _ _ _ _ (@a00 _ _ _ _ _ (@a30 _ _ _ _ (@a01 _)) (@a00 _ _ _ _ _ (pv 1) (@a01 _) (by rfl)) (by rfl))))) (@a01 _) (by rfl)) (by rfl))) (@a01 _) (by rfl)) (by rfl) (by rfl) (by rfl) (by rfl) (by rfl) (by rfl)) (by rfl))) (@a07 _ _ _ (@aa5 _ _ _ _ (@ab0 _ K _ _ _ _ _ _ _ _ _ _ _ PySem.F.plainAttrs_list PySem.F.slot_list_append PySem.F.type_list_append a84 (pv 8) (@a00 _ _ _ _ _ (@a34 _ _ _ _ _ (@a00 _ _ _ _ _ (@aj2 _ _ _ _) (@a00 _ _ _ _ _ (ab6 (Nt:=["event"]) (Nf:=["state","many"]) (caps:=[2,6]) rfl (a50 (sc:=defScope a63) rfl rfl (by decide +kernel) (by decide +kernel) (by decide +kernel) rfl (by decide +kernel)) (a48 K (pv 5)) (fun _ _ _ _ _=>(a08 (i:=0) (show (["event","state","many"]:List Str).Nodup by decide +kernel) rfl (by walk_at "o"))) (fun _ _ _ _ _=>(@a59 _)) (fun _ _ _ _ _=>(@a34 _ _ _ _ _ (@a00 _ _ _ _ _ (@a32 _ _ _ _ _ _ _ _ _ _ _ _ _ _ _ _ G__law_said (hr.mono (by omega)) rfl T.m__law_said T.F__law_said.kp T.b__law_said .nil a61 (@a00 _ _ _ _ _ (pv 1) (@a01 _) (by rfl)) (by decide) (by rfl) (by rfl)) (@a00 _ _ _ _ _ (@a32 _ _ _ _ _ _ _ _ _ _ _ _ _ _ _ _ G__law_take (hr.mono (by omega)) rfl T.m__law_take T.F__law_take.kp T.b__law_take .nil a61 (@a00 _ _ _ _ _ (pv 1) (@a00 _ _ _ _ _ (pv 2) (@a01 _) (by rfl)) (by rfl)) (by decide) (by rfl) (by rfl)) (@a01 _) (by rfl)) (by rfl))))) (@a01 _) (by rfl)) (by rfl))) (@a01 _) (by rfl)) (by rfl) (by rfl) (by rfl) (by rfl) (by rfl) (by rfl)) (by rfl))))) (by intro _; rfl))
    (@a07 _ _ _ (@a52 _ _ _ _ (@a34 _ _ _ _ _ (@a00 _ _ _ _ _ (pv 5) (@a00 _ _ _ _ _ (pv 7) (@a00 _ _ _ _ _ (pv 8) (@a01 _) (by rfl)) (by rfl)) (by rfl))))))))))))),?_⟩
   generalize hTL:(tFor _ _ _:TS)=TL
   revert hTL
   revert TL
   refine keepE ?_
   intro TL hTL
   walk_at "go"
   intro s0 HA fA sA eA
   have k:StA HA s0 m:=⟨c,eA⟩
   walk_at "r"
   intro pa H1 f1 s1 e1
   walk_at "r"
   intro pb H2 f2 s2 e2
   walk_at "r"
   intro pc H3 f3 s3 e3
   walk_at "r"
   intro pd H4 f4 s4 e4
   walk_at "r"
   intro pe H5 f5 s5 e5
   walk_at "r"
   have s05:=s1.trans (s2.trans (s3.trans (s4.trans s5)))
   have k5:=k.same s05
   refine ⟨s0,m,4,rfl,k5,by decide,by decide,fun r H6 hr o6 k6=>?_⟩
   walk_at "r"
   obtain ⟨pk,hpk,hor⟩:=of4 (a:=pa) (b:=pb) (c:=pc) (d:=pd) hr
   refine a86 (SqL.of (o6 _ _ (k.ne ((s1.trans (s2.trans (s3.trans s4))).free f5)) e5)) hpk ?_
   walk_at "r"
   obtain ⟨ks,hk6,hknd,kl,hpks⟩:∃ ks:List Nat,H6 pk=some (.lst (natsV ks))∧ks.Nodup∧ks.length≤10∧pk≠s0:=by
    rcases hor with rfl | rfl | rfl | rfl
    · exact ⟨[],o6 _ _ (k.ne f1) ((s2.trans (s3.trans (s4.trans s5))) _ _ e1),by simp,by simp,k.ne f1⟩
    · exact ⟨[0],o6 _ _ (k.ne (s1.free f2)) ((s3.trans (s4.trans s5)) _ _ e2),by simp,by simp,k.ne (s1.free f2)⟩
    · exact ⟨[4],o6 _ _ (k.ne ((s1.trans s2).free f3)) ((s4.trans s5) _ _ e3),by simp,by simp,k.ne ((s1.trans s2).free f3)⟩
    · exact ⟨[2,9],o6 _ _ (k.ne ((s1.trans (s2.trans s3)).free f4)) (s5 _ _ e4),by simp,by simp,k.ne ((s1.trans (s2.trans s3)).free f4)⟩
   have oA:Oth s0 HA H6:=(a54 s05).trans o6
   clear hor hpk o6 e1 e2 e3 e4 e5 f1 f2 f3 f4 f5 s1 s2 s3 s4 s5 s05 k5
   intro pa H1 f1 s1 e1
   walk_at "r"
   intro pb H2 f2 s2 e2
   walk_at "r"
   intro pc H3 f3 s3 e3
   walk_at "r"
   intro pd H4 f4 s4 e4
   walk_at "r"
   intro pe H5 f5 s5 e5
   walk_at "r"
   have s05:=s1.trans (s2.trans (s3.trans (s4.trans s5)))
   have k5:=k6.same s05
   refine ⟨s0,m,4,rfl,k5,by decide,by decide,fun r2 H7 hr2 o7 k7=>?_⟩
   walk_at "r"
   obtain ⟨pw,hpw,hor⟩:=of4 (a:=pa) (b:=pb) (c:=pc) (d:=pd) hr2
   refine a86 (SqL.of (o7 _ _ (k6.ne ((s1.trans (s2.trans (s3.trans s4))).free f5)) e5)) hpw ?_
   walk_at "r"
   obtain ⟨ws,e4',hwnd,wl⟩:∃ ws:List Str,H7 pw=some (.lst (strsV ws))∧ws.Nodup∧ws.length≤4:=by
    rcases hor with rfl | rfl | rfl | rfl
    · exact ⟨[],o7 _ _ (k6.ne f1) ((s2.trans (s3.trans (s4.trans s5))) _ _ e1),by simp,by simp⟩
    · exact ⟨["go"],o7 _ _ (k6.ne (s1.free f2)) ((s3.trans (s4.trans s5)) _ _ e2),by simp,by simp⟩
    · exact ⟨["yes"],o7 _ _ (k6.ne ((s1.trans s2).free f3)) ((s4.trans s5) _ _ e3),by decide +kernel,by simp⟩
    · exact ⟨["go","yes"],o7 _ _ (k6.ne ((s1.trans (s2.trans s3)).free f4)) (s5 _ _ e4),by decide +kernel,by simp⟩
   have oB:Oth s0 HA H7:=oA.trans ((a54 s05).trans o7)
   have e14:H7 pk=some (.lst (natsV ks)):=o7 _ _ hpks (s05 _ _ hk6)
   clear hor hpw o7 e1 e2 e3 e4 e5 f1 f2 f3 f4 f5 s1 s2 s3 s4 s5 s05 k5 k6 hk6
   intro p5 H5 f5 s5 e5
   walk_at "r"
   intro p6 H6 f6 s6 e6
   walk_at "r"
   have s46:=s5.trans s6
   refine ⟨⟨_,SqL.of (s46 _ _ e14)⟩,a77 (xs:=natsV ks) (le_line (by rw [a46]; omega)) (fun i acc H'=>i≤ks.length∧acc.length=i∧Same H6 H'∧Tr.Ats H' (((ks.take i).map Ev.key).map Ev.tr) acc []) ⟨Nat.zero_le _,rfl,Same.refl _,ats_nil0.mpr rfl⟩ (fun i acc H' ⟨_,e,s',_⟩=>⟨by omega,SqL.of ((s46.trans s') _ _ e14)⟩) ?_ ?_⟩
   · rintro i x acc H' hx ⟨hi,ea,s',hat⟩
     obtain ⟨k0,hk0,rfl⟩:=ag6 hx
     walk_at "r"
     intro p7 H7 f7 s7 e7
     refine ⟨(gS hk0).1,by simp [ea],s'.trans s7,?_⟩
     rw [List.take_add_one,hk0,show ks.take i++(some k0).toList=ks.take i++[k0] from rfl,List.map_append,List.map_append]
     exact ats_app0.mpr ⟨_,_,rfl,hat.same s7,ats_cons0.mpr ⟨_,_,rfl,ak1 e7 str_at0 az0,ats_nil0.mpr rfl⟩⟩
   rintro acc H' ⟨_,ea,s',hat⟩ p8 H8 f8 s8 e8
   rw [a46,List.take_length] at hat
   have al:acc.length≤10:=by rw [ea,a46]; exact kl
   walk_at "r"
   refine ah0 ((s'.trans s8) _ _ e6) e8 (le_line (by simp; omega)) ?_
   intro p9 H9 f9 s9 e9
   walk_at "r"
   have s49:=s46.trans (s'.trans (s8.trans s9))
   refine ⟨⟨_,SqL.of (s49 _ _ e4')⟩,a77 (xs:=strsV ws) (le_line (by simp [strsV]; omega)) (fun i acc H'=>i≤ws.length∧acc.length=i∧Same H9 H'∧Tr.Ats H' (((ws.take i).map Ev.word).map Ev.tr) acc []) ⟨Nat.zero_le _,rfl,Same.refl _,ats_nil0.mpr rfl⟩ (fun i acc H' ⟨_,e,s',_⟩=>⟨by omega,SqL.of ((s49.trans s') _ _ e4')⟩) ?_ ?_⟩
   · rintro i x acc H' hx ⟨hi,ea,s',hat⟩
     obtain ⟨k0,hk0,rfl⟩:=al3 hx
     walk_at "r"
     intro p7 H7 f7 s7 e7
     refine ⟨(gS hk0).1,by simp [ea],s'.trans s7,?_⟩
     rw [List.take_add_one,hk0,show ws.take i++(some k0).toList=ws.take i++[k0] from rfl,List.map_append,List.map_append]
     exact ats_app0.mpr ⟨_,_,rfl,hat.same s7,ats_cons0.mpr ⟨_,_,rfl,ak1 e7 str_at0 str_at0,ats_nil0.mpr rfl⟩⟩
   rintro acc2 H10 ⟨_,ea2,s10,hat2⟩ p11 H11 f11 s11 e11
   rw [show (strsV ws).length=ws.length by simp [strsV],List.take_length] at hat2
   have al2:acc2.length≤4:=by rw [ea2]; simp [strsV]; omega
   walk_at "r"
   have s911:=s10.trans s11
   refine ah0 (s911 _ _ e9) e11 (le_line (by simp; omega)) ?_
   intro p12 H12 f12 s12 e12
   walk_at "r"
   have s412:=s49.trans (s911.trans s12)
   have hu:Tr.Ats H12 (([Ev.quiet]++ks.map Ev.key++ws.map Ev.word).map Ev.tr) ([V.ref p5]++acc++acc2) []:=by
    rw [List.map_append,List.map_append]
    refine ats_app0.mpr ⟨_,_,rfl,ats_app0.mpr ⟨_,_,rfl,ats_cons0.mpr ⟨_,_,rfl,?_,ats_nil0.mpr rfl⟩,hat.same (s8.trans (s9.trans (s911.trans s12)))⟩,hat2.same (s11.trans s12)⟩
    exact at_tup0.mpr ⟨p5,_,rfl,(s6.trans (s'.trans (s8.trans (s9.trans (s911.trans s12))))) _ _ e5,ats_cons0.mpr ⟨_,_,rfl,str_at0,ats_nil0.mpr rfl⟩⟩
   have hnd:=c96 hknd hwnd
   have hel:([Ev.quiet]++ks.map Ev.key++ws.map Ev.word).length≤15:=by simp; omega
   have hep:0<([Ev.quiet]++ks.map Ev.key++ws.map Ev.word).length:=by simp
   have e12':H12 p12=some (.lst ([V.ref p5]++acc++acc2)):=e12
   have k12:=k7.same s412
   have o12:=oB.trans (a54 s412)
   have ne12:p12≠s0:=(k7.same (s49.trans s911)).ne f12
   generalize [Ev.quiet]++ks.map Ev.key++ws.map Ev.word=es at hu hnd hel hep
   generalize [V.ref p5]++acc++acc2=us at hu e12'
   clear e12 hat hat2 e4' e14 e5 e6 e8 e9 e11 f5 f6 f8 f9 f11 s5 s6 s' s8 s9 s10 s11 s12 s46 s49 s911 s412 oA oB ea ea2 hwnd hknd k7 f12
   have e1:=e12'
   have k1:=k12
   have o1:=o12
   have pe1:=ne12
   refine ⟨s0,m,4,rfl,k1,by decide,by decide,fun r H2 hr o2 k2=>?_⟩
   walk_at "r"
   refine ⟨s0,m,rfl,k2,fun pb sy H3 o3 k3 f3 e3 hsy=>?_⟩
   walk_at "r"
   intro pc H4 f4 s4 e4
   walk_at "r"
   subst hTL
   walk_at "r"
   rw [show (1+(r:Int)).toNat=r+1 by omega]
   have pb1:pb≠s0:=k2.ne f3
   have pc1:pc≠s0:=k3.ne f4
   have o14:Oth s0 H12 H4:=o2.trans (o3.trans (a54 s4))
   have e14:=o14 _ _ pe1 e1
   have hu4:=a62 hu (o14.tups k1)
   have e24:=s4 _ _ e3
   have k4:=k3.same s4
   have ul:us.length=es.length:=by rw [hu.len,gL]
   have hcpe:p12≠pc:=a06 ((o2.trans o3) _ _ pe1 e1) f4
   have hcpb:pb≠pc:=a06 e3 f4
   obtain ⟨Pv,hPv⟩:∃ Pv:Nat→St→Hp→Prop,Pv=(fun i σ H'=>i≤r+1∧∃ (rs:List SRoom) (acc:List V) (gs:List Addr),H' pc=some (.lst acc)∧Tw.Ats H' ((rs.map roomS).map roomW) acc gs∧rs.length=i∧(∀ q∈rs,RowsOk es (r+1) q.2)∧(∀ x∈gs,H4 x=none)∧(∀ x o,x≠s0→x≠pc→H4 x=some o→H' x=some o)∧StA H' s0 m∧∃ y,σ=[some (.int c),some (.int m),some (.ref s0),some (.ref pk),some (.ref pw),some (.ref p12),some (.int (1+(r:Int))),some (.ref pb),some (.ref pc),y]):=⟨_,rfl⟩
   refine ab3 (lo:=0) (n:=r+1) Pv (by rw [hPv]; exact ⟨Nat.zero_le _,[],[],[],e4,by simp [Tw.Ats],rfl,by simp,by simp,fun x o _ _ e=>e,k4,_,rfl⟩) ?_ ?_
   · intro i σ H5 hi hI
     rw [hPv] at hI
     obtain ⟨hi2,rs,acc,gs,hc5,hat5,hrl,hro,hgs,kp5,k5,y,rfl⟩:=hI
     rw [Int.zero_add]
     walk_at "r"
     refine ⟨s0,m,8,rfl,k5,by decide,by decide,fun r6 H6 hr6 o6 k6=>?_⟩
     walk_at "r"
     have hc6:=o6 _ _ pc1 hc5
     have gsn:∀ x∈gs,x≠s0:=fun x hx=>k4.ne (hgs x hx)
     have gsc:∀ x∈gs,x≠pc:=fun x hx z=>by have:=hgs x hx; rw [z,e4] at this; cases this
     have hat6:=hat5.mono (aj0 o6 k5 gsn)
     have kp6:∀ x o,x≠s0→x≠pc→H4 x=some o→H6 x=some o:=fun x o a c e=>o6 x o a (kp5 x o a c e)
     have e16:=kp6 _ _ pe1 hcpe e14
     have al:acc.length=i:=by rw [hat5.len,gL,gL,hrl]
     have fr6:∀ {x:Addr},H6 x=none→H4 x=none:=fun {x} z=>by
      have z1:=k6.ne z
      have z3:x≠pc:=fun q=>by rw [q,hc6] at z; cases z
      cases e:H4 x with
      | none=>rfl
      | some o=>rw [kp6 x o z1 z3 e] at z; cases z
     have fin:∀ (b:Bool) (rows:List SRow) (v:V) (fs2:List Addr) (He:Hp),(roomW (roomS (b,rows))).At He v fs2→(∀ x∈fs2,H6 x=none)→Oth s0 H6 He→StA He s0 m→RowsOk es (r+1) rows →
      He pc=some (.lst acc)∧(i+1≤r+1∧∃ (rs:List SRoom) (acc2:List V) (gs:List Addr),upd He pc (.lst (acc++[v])) pc=some (.lst acc2)∧Tw.Ats (upd He pc (.lst (acc++[v]))) ((rs.map roomS).map roomW) acc2 gs∧rs.length=i+1∧(∀ q∈rs,RowsOk es (r+1) q.2)∧(∀ x∈gs,H4 x=none)∧(∀ x o,x≠s0→x≠pc→H4 x=some o→upd He pc (.lst (acc++[v])) x=some o)∧StA (upd He pc (.lst (acc++[v]))) s0 m):=by
      intro b rows v fs2 He hv hf oE kE hro'
      have hcE:=oE _ _ pc1 hc6
      have fsc:∀ x∈fs2,x≠pc:=fun x hx z=>by have:=hf x hx; rw [z,hc6] at this; cases this
      have tE:Tups He (upd He pc (.lst (acc++[v]))):=Tups.upd hcE
      refine ⟨hcE,hi,rs++[(b,rows)],acc++[v],gs++fs2,a33,?_,by simp [hrl],?_,?_,fun x o a c e=>by rw [a09 c]; exact oE x o a (kp6 x o a c e),?_⟩
      · rw [List.map_append,List.map_append]
        refine Tw.Ats.snoc ((hat6.mono (aj0 oE k6 gsn)).mono ⟨tE,fun a ha xs e=>by rw [a09 (gsc a ha)]; exact e⟩) (hv.mono ⟨tE,fun a ha xs e=>by rw [a09 (fsc a ha)]; exact e⟩)
      · intro q hq
        rcases gA hq with hq | hq
        · exact hro q hq
        · rw [gG hq]; exact hro'
      · intro x hx
        rcases gA hx with hx | hx
        · exact hgs x hx
        · exact fr6 (hf x hx)
      · obtain ⟨z,g1⟩:=kE
        exact ⟨z,by rw [a09 pc1.symm]; exact g1⟩
     refine ite2 (fun h0=>?_) (fun h0=>?_)
     · walk_at "r"
       refine af7 (SqL.of hc6) ?_
       walk_at "r"
       refine ⟨⟨_,SqL.of e16⟩,a77 (xs:=us) (le_line (by omega)) (fun j acc H'=>j≤es.length∧acc.length=j∧Same H6 H'∧∃ fs,Tw.Ats H' (((List.replicate j (([],i):SRow)).map rowS).map rowW) acc fs∧∀ x∈fs,H6 x=none) ⟨Nat.zero_le _,rfl,Same.refl _,[],by simp [Tw.Ats],by simp⟩ (fun j acc H' ⟨_,e,s',_⟩=>⟨by omega,SqL.of (s' _ _ e16)⟩) ?_ ?_⟩
       · rintro j x acc3 H' hx ⟨hj,ea,s',fs,hat,hfs⟩
         have hj':j<us.length:=(gS hx).1
         walk_at "r"
         intro p7 H7 f7 s7 e7
         walk_at "r"
         intro p8 H8 f8 s8 e8
         refine ⟨by omega,by simp [ea],s'.trans (s7.trans s8),fs++[p7],?_,?_⟩
         · rw [List.replicate_succ',List.map_append,List.map_append]
           exact (hat.same (s7.trans s8)).snoc (row_w.mpr ⟨p8,p7,rfl,e8,s8 _ _ e7,rfl⟩)
         · intro x hx
           rcases gA hx with hx | hx
           · exact hfs x hx
           · rw [gG hx]; exact s'.free f7
       · rintro acc3 H7 ⟨_,ea,s7,fs,hat,hfs⟩ p8 H8 f8 s8 e8
         rw [ul] at hat
         walk_at "r"
         intro p9 H9 f9 s9 e9
         walk_at "r"
         have s69:=s7.trans (s8.trans s9)
         obtain ⟨g1,g2⟩:=fin true (List.replicate es.length ([],i)) (.ref p9) (p8::fs) H9 (room_w.mpr ⟨p9,p8,acc3,fs,rfl,e9,s9 _ _ e8,hat.same (s8.trans s9),rfl⟩) (fun x hx=>by
          rcases List.mem_cons.mp hx with rfl | hx
          · exact s7.free f8
          · exact hfs x hx) (a54 s69) (k6.same s69) ⟨by simp,fun x hx=>by
          rw [(List.mem_replicate.mp hx).2]
          exact ⟨hi,⟨by simp,by simp⟩⟩⟩
         refine a96 g1 (Nat.lt_of_lt_of_le (show acc.length<1000000 by omega) (le_line (Nat.le_refl _))) ?_
         obtain ⟨x1,rs2,a2,gs2,x2,x3,x4,x5,x6,x7,x8⟩:=g2
         rw [hPv]
         exact ⟨x1,rs2,a2,gs2,x2,x3,x4,x5,x6,x7,x8,_,rfl⟩
     · walk_at "r"
       refine af7 (SqL.of hc6) ?_
       walk_at "r"
       refine ⟨⟨_,SqL.of e16⟩,a77 (xs:=us) (le_line (by omega)) (fun j acc H'=>j≤es.length∧acc.length=j∧Oth s0 H6 H'∧∃ (rows:List SRow) (fs:List Addr),rows.length=j∧(∀ x∈rows,x.2<r+1∧SaysOk x.1)∧Tw.Ats H' ((rows.map rowS).map rowW) acc fs∧(∀ x∈fs,H6 x=none)∧StA H' s0 m) ⟨Nat.zero_le _,rfl,Oth.refl,[],[],rfl,by simp,by simp [Tw.Ats],by simp,k6⟩ (fun j acc H' ⟨_,e,o',_⟩=>⟨by omega,SqL.of (o' _ _ pe1 e16)⟩) ?_ ?_⟩
       · rintro j x acc3 H' hx ⟨hj,ea,o',rows,fs,hrw,hok,hat,hfs,k'⟩
         have hj':j<us.length:=(gS hx).1
         walk_at "r"
         refine ⟨s0,m,rfl,k',fun p7 ss H7 o7 k7 f7 e7 hss=>?_⟩
         walk_at "r"
         rw [show (1+(r:Int))=((r+1:Nat):Int) by omega]
         refine ⟨s0,m,r+1,rfl,k7,by omega,by omega,fun w8 H8 hw8 o8 k8=>?_⟩
         walk_at "r"
         intro p9 H9 f9 s9 e9
         have z1:=k'.ne f7
         have fsn:∀ x∈fs,x≠s0:=fun x hx=>k6.ne (hfs x hx)
         refine ⟨by omega,by simp [ea],o'.trans (o7.trans (o8.trans (a54 s9))),rows++[(ss,w8)],fs++[p7],by simp [hrw],?_,?_,?_,k8.same s9⟩
         · intro x hx
           rcases gA hx with hx | hx
           · exact hok x hx
           · rw [gG hx]; exact ⟨hw8,hss⟩
         · rw [List.map_append,List.map_append]
           refine Tw.Ats.snoc (hat.mono ((aj0 o7 k' fsn).trans ((aj0 o8 k7 fsn).trans (s9.keep _)))) (row_w.mpr ⟨p9,p7,rfl,e9,s9 _ _ (o8 _ _ z1 e7),rfl⟩)
         · intro x hx
           rcases gA hx with hx | hx
           · exact hfs x hx
           · rw [gG hx]; exact o'.free k' f7
       · rintro acc3 H7 ⟨_,ea,o7,rows,fs,hrw,hok,hat,hfs,k7⟩ p8 H8 f8 s8 e8
         walk_at "r"
         intro p9 H9 f9 s9 e9
         walk_at "r"
         obtain ⟨g1,g2⟩:=fin false rows (.ref p9) (p8::fs) H9 (room_w.mpr ⟨p9,p8,acc3,fs,rfl,e9,s9 _ _ e8,hat.same (s8.trans s9),rfl⟩) (fun x hx=>by
          rcases List.mem_cons.mp hx with rfl | hx
          · exact o7.free k7 f8
          · exact hfs x hx) (o7.trans (a54 (s8.trans s9))) (k7.same (s8.trans s9)) ⟨by omega,hok⟩
         refine a96 g1 (Nat.lt_of_lt_of_le (show acc.length<1000000 by omega) (le_line (Nat.le_refl _))) ?_
         obtain ⟨x1,rs2,a2,gs2,x2,x3,x4,x5,x6,x7,x8⟩:=g2
         rw [hPv]
         exact ⟨x1,rs2,a2,gs2,x2,x3,x4,x5,x6,x7,x8,_,rfl⟩
   · intro σ H5 hI
     rw [hPv] at hI
     obtain ⟨hi2,rs,acc,gs,hc5,hat5,hrl,hro,hgs,kp5,k5,y,rfl⟩:=hI
     walk_at "r"
     intro pt H6 f6 s6 e6
     have kpA:∀ x o,x≠s0→x≠pc→H4 x=some o→H6 x=some o:=fun x o a c e=>s6 _ _ (kp5 x o a c e)
     have t46:Tups H4 H6:=fun b ys e=>by
      obtain ⟨z,g1⟩:=k4
      exact kpA b _ (ae0 e g1 (fun z=>nomatch z)) (ae0 e e4 (fun z=>nomatch z)) e
     have hs06:Same H H6:=fun x o e=>by
      have h1:x≠s0:=a06 e fA
      have h4:H4 x=some o:=o14 _ _ h1 (o1 _ _ h1 (sA _ _ e))
      have h3:H3 x=some o:=o3 _ _ h1 (o2 _ _ h1 (o1 _ _ h1 (sA _ _ e)))
      exact kpA x o h1 (a06 h3 f4) h4
     refine q _ ⟨es,sy,rs⟩ H6 hs06 ⟨p12,pb,pc,gs,⟨pt,us,acc,rfl,e6,kpA _ _ pe1 hcpe e14,a62 hu4 t46,kpA _ _ pb1 hcpb e24,s6 _ _ hc5,hat5.same s6⟩⟩ ⟨hnd,hep,by show es.length≤100; omega,hsy,by show 0<rs.length; omega,by show rs.length≤100; omega,fun r0 hr0=>⟨(hro r0 hr0).1,fun x hx=>?_⟩⟩
     obtain ⟨h1,h2⟩:=(hro r0 hr0).2 x hx
     exact ⟨by show x.2<rs.length; omega,h2⟩
theorem ax6 {H:Hp}:∀ ss:List Str,Tr.Ats H (ss.map Tr.str) (strsV ss) []
 | []=>by simp [strsV,Tr.Ats]
 | s::ss=>ats_cons0.mpr ⟨_,_,rfl,str_at0,ax6 ss⟩
theorem bc7:∀ ss:List Str,Tr.hs (ss.map Tr.str)≤1
 | []=>by simp [Tr.hs]
 | s::ss=>by
   have:=bc7 ss
   simp only [List.map_cons,Tr.hs,Tr.h]
   omega
theorem b02 {α:Type}{k:α}:∀ {l:List α},k∈l→∃ j,j<l.length∧l[j]?=some k∧∀ m,m<j→l[m]?≠some k
 | [],h=>by cases h
 | x::l,h=>by
   by_cases hx:x=k
   · exact ⟨0,by simp,by rw [hx]; rfl,fun m hm=>absurd hm (Nat.not_lt_zero _)⟩
   · have h':k∈l:=by
      rcases List.mem_cons.mp h with rfl | h
      · exact absurd rfl hx
      · exact h
     obtain ⟨j,j0,j1,j2⟩:=b02 h'
     refine ⟨j+1,by simp; omega,by simpa using j1,fun m hm=>?_⟩
     cases m with
     | zero=>simpa using hx
     | succ m=>simpa using j2 m (by omega)
theorem ev_mem {es:List Ev}{e:Ev}:e.tr∈es.map Ev.tr↔e∈es:=by
 rw [List.mem_map]
 constructor
 · rintro ⟨x,hx,h⟩
   exact Ev.tr_inj h ▸ hx
 · intro h; exact ⟨e,h,rfl⟩
theorem c97 (es:List Ev):Tr.hs (es.map Ev.tr)≤1:=by
 induction es with
 | nil=>simp [Tr.hs]
 | cons e es ih =>
   have:=e.tr_h
   simp only [List.map_cons,Tr.hs]
   omega
def bc8 (K:W.Frag):Sp:=fun vs H Q _=>∃ (a:Addr) (us:List V) (v:V) (es:List Ev) (e:Ev),vs=[.ref a,v]∧H a=some (.lst us)∧Tr.Ats H (es.map Ev.tr) us []∧e.tr.At H v []∧es.Nodup∧es.length≤100∧0<es.length∧∀ (j:Nat) H',LawPl es e j→j<es.length→Same H H'→Q (.int (j:Nat)) H'
theorem au1 (T:Txt K mg t):FnOk P w K mg base CX0 1 t.a__law_place t.fd__law_place ["events","event"] (bc8 K):=by
 refine T.F__law_place.ok sc_law_place (fun vs H Q E h=>?_) (fun cdv A outer s H vs Q E hr h=>?_)
 · obtain ⟨a,us,v,es,e,rfl,_⟩:=h
   rfl
 · obtain ⟨a,us,v,es,e,rfl,ha,hu,hv,hn,hl,hl0,q⟩:=h
   refine ⟨_,(@a03 _ _ _ _ _ (@ab1 _ _ _ _ _ _ _ _ (@a53 _ _ _ _ _ _ _ _ (bq6 K (by exact hr.units)) (pv 1) (pv 0) (by with_unfolding_all rfl)) (@a07 _ _ _ (@a52 _ _ _ _ (@ab0 _ K _ _ _ _ _ _ _ _ _ _ _ PySem.F.plainAttrs_list PySem.F.slot_list_index PySem.F.type_list_index (am9 K (by exact hr.units)) (pv 0) (@a00 _ _ _ _ _ (pv 1) (@a01 _) (by rfl)) (by rfl) (by rfl) (by rfl) (by rfl) (by rfl) (by rfl)))) (@a68 _))
    (@a03 _ _ _ _ _ (ag9 (i:=2) (Nt:=["one"]) (Nf:=[]) (caps:=[]) rfl (a50 (sc:=defScope a74) rfl rfl (by decide +kernel) (by decide +kernel) (by decide +kernel) rfl (by decide +kernel)) (a48 K (pv 0)) (fun _ _ _ _ _=>(a08 (i:=0) (show (["one"]:List Str).Nodup by decide +kernel) rfl (by walk_at "o"))) (fun _ _ _ _ _=>(@a59 _)) (fun _ _ _ _ _=>(@a40 _ _ _ _ _ _ _ (a38 K) (pv 0) (@a04 _ _ _ _) (fun _ _=>rfl))) sc_law_place.nd rfl (by walk_at "o") rfl)
    (@a03 _ _ _ _ _ (@ab1 _ _ _ _ _ _ _ _ (@a53 _ _ _ _ _ _ _ _ (b53 K (by exact hr.units)) (@a40 _ _ _ _ _ _ _ (a38 K) (pv 1) (@a04 _ _ _ _) (fun _ _=>rfl)) (pv 2) (by with_unfolding_all rfl)) (@a07 _ _ _ (@a52 _ _ _ _ (@a04 _ _ _ _))) (@a68 _))
    (@a07 _ _ _ (@a52 _ _ _ _ (@a69 _ _ _ _ _ _ _ _ b70 (@a69 _ _ _ _ _ _ _ _ b70 (@a45 _ _ _ _ _ _ _ _ _ (a83 K) (by rfl) T.z_len a87 (@a00 _ _ _ _ _ (pv 2) (@a01 _) (by rfl)) (by decide) (by decide) (by rfl) (by rfl)) (@a04 _ _ _ _)) (@ab0 _ K _ _ _ _ _ _ _ _ _ _ _ PySem.F.plainAttrs_list PySem.F.slot_list_index PySem.F.type_list_index (am9 K (by exact hr.units)) (c32 K (pv 2) (@c60 _ _ _ _ _ _ bv7 (@a04 _ _ _ _))) (@a00 _ _ _ _ _ (@a40 _ _ _ _ _ _ _ (a38 K) (pv 1) (@a04 _ _ _ _) (fun _ _=>rfl)) (@a01 _) (by rfl)) (by rfl) (by rfl) (by rfl) (by rfl) (by rfl) (by rfl)))))))),?_⟩
   have sl:(1000000:Nat)≤sizeLine:=le_line (Nat.le_refl _)
   have ul:us.length=es.length:=by rw [hu.len,gL]
   have eh:=e.tr_h
   have esh:=c97 es
   obtain ⟨b,xs,rfl,hb⟩:=bj0 hv
   walk_at "go"
   refine c86 hv (SqL.of ha) hu (by omega) (by omega) ?_
   walk_at "r"
   by_cases hm:e.tr∈es.map Ev.tr
   · refine as0 hm ?_
     walk_at "r"
     refine af7 (SqL.of ha) ?_
     walk_at "r"
     obtain ⟨j,hj,hje⟩:=List.mem_iff_getElem.mp (ev_mem.mp hm)
     have hj2:es[j]?=some e:=by rw [gE hj,hje]
     refine ⟨e.tr,es.map Ev.tr,a,us,_,j,rfl,rfl,hv,SqL.of ha,hu,by omega,by omega,by rw [gM,hj2]; rfl,fun m hmj z=>?_,by omega,?_⟩
     · rw [gM] at z
       obtain ⟨y,hy,hye⟩:=gO z
       have:=c40 hn hj2 (by rw [hy,Ev.tr_inj hye])
       omega
     · exact q j H (.inl ⟨ev_mem.mp hm,hj2⟩) hj (Same.refl _)
   · refine as1 hm ?_
     have hm':e∉es:=fun z=>hm (ev_mem.mpr z)
     walk_at "r"
     refine ⟨⟨_,SqL.of ha⟩,a77 (xs:=us) (le_line (by omega)) (fun i acc H'=>H'=H∧i≤es.length∧acc=strsV ((es.take i).map Ev.kind)) ⟨rfl,Nat.zero_le _,rfl⟩ (fun i acc H' ⟨e0,_,e1⟩=>⟨by rw [e1]; simp [strsV]; omega,e0 ▸ SqL.of ha⟩) ?_ ?_⟩
     · rintro i x acc H' hx ⟨rfl,hi,rfl⟩
       obtain ⟨tx,h1,h2⟩:=ap5 hu hx
       rw [gM] at h1
       obtain ⟨y,hy,rfl⟩:=gO h1
       obtain ⟨c,zs,rfl,hc⟩:=bj0 h2
       walk_at "r"
       refine a72 (SqT.of hc) (a05 (j:=0) rfl) ?_
       refine ⟨rfl,(gS hy).1,?_⟩
       rw [List.take_add_one,hy]
       simp [strsV]
     rintro acc H' ⟨rfl,_,rfl⟩ pk H1 f1 s1 e1
     rw [ul,List.take_length] at e1
     walk_at "r"
     refine a72 (SqT.of (s1 _ _ hb)) (a05 (j:=0) rfl) ?_
     walk_at "r"
     have kh:=bc7 (es.map Ev.kind)
     refine bh5 str_at0 (SqL.of e1) (ax6 _) (by simp [Tr.h]) (by omega) ?_
     walk_at "r"
     have hkm:Tr.str e.kind∈(es.map Ev.kind).map Tr.str↔e.kind∈es.map Ev.kind:=by
      constructor
      · intro h
        obtain ⟨s,h1,h2⟩:=List.mem_map.mp h
        injection h2 with h2
        exact h2 ▸ h1
      · intro h
        exact List.mem_map_of_mem h
     by_cases hk:e.kind∈es.map Ev.kind
     · refine bl6 (hkm.mpr hk) ?_
       walk_at "r"
       refine aa4 (SqL.of e1) ?_
       walk_at "r"
       refine ⟨rfl,pk,_,rfl,SqL.of e1,?_⟩
       intro p2 H2 f2 s2 e2
       walk_at "r"
       refine af7 (SqL.of e2) ?_
       walk_at "r"
       refine a72 (SqT.of ((s1.trans s2) _ _ hb)) (a05 (j:=0) rfl) ?_
       walk_at "r"
       have hk':Tr.str e.kind∈((es.map Ev.kind).reverse).map Tr.str:=List.mem_map_of_mem (List.mem_reverse.mpr hk)
       obtain ⟨j,j0,j1,j2⟩:=b02 hk'
       have kh2:=bc7 (es.map Ev.kind).reverse
       have hjl:j<es.length:=by simpa using j0
       have hre:(strsV (es.map Ev.kind)).reverse=strsV (es.map Ev.kind).reverse:=by simp [strsV]
       refine ⟨.str e.kind,((es.map Ev.kind).reverse).map Tr.str,p2,_,_,j,rfl,rfl,str_at0,SqL.of e2,by rw [hre]; exact ax6 _,by simp [Tr.h],by omega,j1,j2,by omega,?_⟩
       walk_at "r"
       have hrv:∀ m,m<es.length→((es.map Ev.kind).reverse.map Tr.str)[m]?=(es[es.length - 1 - m]?).map fun x=>Tr.str x.kind:=fun m hm=>by
        rw [gM,List.getElem?_reverse (by simpa using hm),gL,gM,Option.map_map]
        rfl
       rw [show ((strsV (es.map Ev.kind)).length:Int) - 1 - (j:Int)=((es.length - 1 - j:Nat):Int) by simp [strsV]; omega]
       refine q _ H2 (.inr ⟨hm',.inl ?_⟩) (by omega) (s1.trans s2)
       rw [hrv j hjl] at j1
       obtain ⟨x,hx,hxk⟩:=gO j1
       refine ⟨x,hx,by injection hxk,fun m y hmj hy=>?_⟩
       have hml:=(gS hy).1
       have:=j2 (es.length - 1 - m) (by omega)
       rw [hrv _ (by omega),show es.length - 1 - (es.length - 1 - m)=m by omega,hy] at this
       intro z
       exact this (by rw [← z]; rfl)
     · refine bl5 (fun z=>hk (hkm.mp z)) ?_
       walk_at "r"
       refine q 0 H1 (.inr ⟨hm',.inr ⟨rfl,fun m y hy z=>hk ?_⟩⟩) hl0 s1
       rw [← z]
       exact List.mem_map_of_mem (gI hy)
structure LsAt (H:Hp) (las:List Addr) (F:List (List Ev)):Prop where
 nd:las.Nodup
 at_:Each (fun la ws=>∃ us,H la=some (.lst us)∧Tr.Ats H (ws.map Ev.tr) us []) las F
theorem LsAt.same {H H':Hp}{las:List Addr}{F:List (List Ev)}(h:LsAt H las F) (s:Same H H'):LsAt H' las F:=⟨h.nd,h.at_.mono fun la ws ⟨us,h1,h2⟩=>⟨us,s _ _ h1,a62 h2 s.tups⟩⟩
theorem LsAt.set {H:Hp}{las:List Addr}{F:List (List Ev)}{l:Nat}{la:Addr}{us us':List V}{ws:List Ev}(h:LsAt H las F) (hl:las[l]?=some la) (hu:H la=some (.lst us)) (hus:Tr.Ats H (ws.map Ev.tr) us' []):LsAt (upd H la (.lst us')) las (F.set l ws):=by
 have k:Tups H (upd H la (.lst us')):=Tups.upd hu
 refine ⟨h.nd,by rw [List.length_set]; exact h.at_.1,fun j la' ws' h1 h2=>?_⟩
 rw [List.getElem?_set] at h2
 by_cases e:l=j
 · subst e
   rw [if_pos rfl] at h2
   rw [hl] at h1
   cases h1
   split at h2
   · cases h2
     exact ⟨_,a33,a62 hus k⟩
   · cases h2
 · rw [if_neg e] at h2
   obtain ⟨us2,a,b⟩:=h.at_.2 j la' ws' h1 h2
   have hne:la'≠la:=fun z=>by
    subst z
    obtain ⟨l1,e1⟩:=gS hl
    obtain ⟨l2,e2⟩:=gS h1
    have pw:=List.pairwise_iff_getElem.mp h.nd
    rcases Nat.lt_trichotomy l j with z | z | z
    · exact pw l j l1 l2 z (e1.trans e2.symm)
    · exact e z
    · exact pw j l l2 l1 z (e2.trans e1.symm)
   exact ⟨us2,by rw [a09 hne]; exact a,a62 b k⟩
theorem LsAt.get {H:Hp}{las:List Addr}{F:List (List Ev)}(h:LsAt H las F) {l:Nat}(hl:l<F.length):∃ la us,las[l]?=some la∧la∈las∧H la=some (.lst us)∧Tr.Ats H ((F.getD l []).map Ev.tr) us []∧us.length=(F.getD l []).length:=by
 have hg:F[l]?=some (F.getD l []):=by simp [hl]
 obtain ⟨la,hla,us,h1,h2⟩:=h.at_.get hg
 exact ⟨la,us,hla,gI hla,h1,h2,by rw [h2.len,gL]⟩
def OthA (A:List Addr) (H H':Hp):Prop:=∀ y o,y∉A→H y=some o→H' y=some o
theorem OthA.refl {A:List Addr}{H:Hp}:OthA A H H:=fun _ _ _ e=>e
theorem OthA.trans {A:List Addr}{H H1 H2:Hp}(a:OthA A H H1) (b:OthA A H1 H2):OthA A H H2:=fun c o h e=>b c o h (a c o h e)
theorem au2 {A:List Addr}{H H':Hp}(h:Same H H'):OthA A H H':=fun c o _ e=>h c o e
theorem bt5 {A:List Addr}{H:Hp}{a:Addr}{o:HO}(h:a∈A):OthA A H (upd H a o):=fun y o' hy e=>by rw [a09 (fun z=>hy (by rw [z]; exact h))]; exact e
def SaysAt (H:Hp) (ls:List Addr) (xs:List (List Say)):Prop:=Each (fun l x=>H l=some (.lst (strsV (x.map sayT)))) ls xs
structure FoundAt (H:Hp) (f sa st:Addr) (ls:List Addr) (xs:List (List Say)) (R:List (Nat×List Ev)):Prop where
 ex:∃ stv,H f=some (.tup [.ref sa,.ref st])∧H sa=some (.lst (ls.map V.ref))∧SaysAt H ls xs∧H st=some (.tup stv)∧Each (StdAt H) stv R
theorem b03 {H:Hp}{v:V}{a b c:Addr}{es:List Ev}{sy:List Str}{rs:List SRoom}{gs:List Addr}(h:TabAt H v a b c es sy (rs.map roomS) gs) {g:Nat}{rm:SRoom}(hg:rs[g]?=some rm) :
 ∃ rvs q1 gl ps,H c=some (.lst rvs)∧rvs[g]?=some (.ref q1)∧H q1=some (.tup [.bl rm.1,.ref gl])∧H gl=some (.lst ps)∧∀ (j:Nat) (y:SRow),rm.2[j]?=some y→∃ k0 sl,ps[j]?=some (.ref k0)∧H k0=some (.tup [.ref sl,.int (y.2:Nat)])∧H sl=some (.lst (strsV (y.1.map sayT))):=by
 obtain ⟨t,us,rvs,rfl,h1,h2,h3,h4,h5,h6⟩:=h.ex
 have hr1:(rs.map roomS)[g]?=some (roomS rm):=by rw [gM,hg]; rfl
 have hn:g<rvs.length:=by
  rw [h6.len,gL]
  exact (gS hr1).1
 obtain ⟨tx,fx,hx1,hx2,_⟩:=h6.get g rvs[g] (gE hn)
 rw [gM,hr1] at hx1
 cases hx1
 obtain ⟨q1,gl,ps,gs1,hq0,hq1,hgl,hps,rfl⟩:=room_w.mp hx2
 refine ⟨rvs,q1,gl,ps,h5,by rw [gE hn,hq0],hq1,hgl,fun j y hy=>?_⟩
 have hx:(roomS rm).2[j]?=some (rowS y):=by show (rm.2.map rowS)[j]?=_; rw [gM,hy]; rfl
 have hjl:j<ps.length:=by
  rw [hps.len,gL]
  exact (gS hx).1
 obtain ⟨tx,fx,hx1,hx3,_⟩:=hps.get j ps[j] (gE hjl)
 rw [gM,hx] at hx1
 cases hx1
 obtain ⟨k0,sl,hk0,hk1,hsl,rfl⟩:=row_w.mp hx3
 exact ⟨k0,sl,by rw [gE hjl,hk0],hk1,hsl⟩
def Goes (x:Tab) (g:Nat) (r:List Ev) (o:Ev) (y:SRow):Prop:=∃ (j:Nat) (rm:SRoom),plOf x.es (evOf (inRow r o))=some (.int (j:Nat))∧x.rs[g]?=some rm∧rm.2[j]?=some y
theorem c44 {A:List Addr}{a b:Addr}(h:a∉A) (m:b∈A):a≠b:=fun z=>h (by rw [z]; exact m)
theorem b04:∀ (ts:List Told) (R:List (List Ev)),stds ts R=(ts.map (·.2.2)).zip R
 | [],_=>by simp [stds]
 | _::_,[]=>by simp [stds]
 | x::ts,r::R=>by
   have:=b04 ts R
   unfold stds at this ⊢
   simp only [List.zipWith_cons_cons,List.map_cons,List.zip_cons_cons,this]
theorem TurnAt.found {B H:Hp}{v:V}{ts:List Told}{R:List (List Ev)}{ys:List SRow}(h:TurnAt B H v ts R) (he:ts.map (·.2)=ys):∃ f fs fst,v=.ref f∧FoundAt H f fs fst (ts.map (·.1)) (ys.map (·.1)) ((ys.map (·.2)).zip R)∧B fs=none:=by
 obtain ⟨res,sa,st,stv,h1,h2,h3,h4,h5,h6,h7⟩:=h.ex
 subst he
 refine ⟨res,sa,st,h1,⟨stv,h2,by rw [List.map_map]; exact h3,?_,h4,by rw [List.map_map]; rw [b04] at h5; exact h5⟩,h7⟩
 refine ⟨by simp,fun j l x a b=>?_⟩
 rw [gM] at a
 obtain ⟨t0,ht,rfl⟩:=gO a
 rw [gM,gM,ht] at b
 cases b
 exact h6 t0 (gI ht)
theorem begs {xs:List Tab}:(xs.map Tab.beg).map (·.1)=xs.map (·.sy)∧(xs.map Tab.beg).map (·.2)=List.replicate xs.length 0:=by
 constructor
 · rw [List.map_map]; rfl
 · rw [List.map_map]
   induction xs with
   | nil=>rfl
   | cons x xs ih=>rw [List.map_cons,ih]; rfl
theorem al4 {α β:Type}{R:α→β→Prop}{v:α}{vs:List α}{x:β}{xs:List β}(h:Each R (v::vs) (x::xs)):R v x∧Each R vs xs:=⟨h.2 0 v x rfl rfl,by have:=h.1; simpa using this,fun i a b h1 h2=>h.2 (i+1) a b h1 h2⟩
theorem c98 {es:List Ev}(hn:es.Nodup) (h0:0<es.length) (e:Ev):∃ j:Nat,plOf es e=some (.int (j:Nat))∧j<es.length:=by
 have a:=bm4 hn e es.length (Nat.le_refl _)
 have b:=az9 (es:=es) e.kind es.length (Nat.le_refl _)
 rw [List.take_length] at a b
 unfold plOf
 rcases a with ⟨i,a1,a2⟩ | ⟨_,a2⟩
 · exact ⟨i,by rw [a2]; rfl,(gS a1).1⟩
 · rw [a2]
   rcases b with ⟨i,y,b0,b1,b2,b3,b4⟩ | ⟨_,b4⟩
   · exact ⟨i,by rw [b4]; rfl,b0⟩
   · exact ⟨0,by rw [b4]; rfl,h0⟩
noncomputable def plN (es:List Ev) (e:Ev):Nat:=match plOf es e with
 | some (.int i)=>i.toNat
 | _=>0
theorem bc9 {es:List Ev}{e:Ev}{j:Nat}(h:plOf es e=some (.int (j:Nat))):plN es e=j:=by
 unfold plN
 rw [h]
 rfl
abbrev Std:=List (Nat×List Ev)
def StOk (xs:List Tab) (S:Std):Prop:=S.length=xs.length∧∀ (i:Nat) (x:Tab) (s:Nat×List Ev),xs[i]?=some x→S[i]?=some s→s.1<x.rs.length∧s.2.length≤3
noncomputable def rowO (x:Tab) (s:Nat×List Ev) (o:Ev):SRow:=(x.rs.getD s.1 (false,[])).2.getD (plN x.es (evOf (inRow s.2 o))) ([],0)
noncomputable def lnO (x:Tab) (s:Nat×List Ev) (o:Ev):Ln:=⟨0,x,s.1,s.2,o,rowO x s o⟩
noncomputable def plO:List Tab→Std→List Ev→List Ln
 | x::xs,s::S,o::os=>lnO x s o::plO xs S os
 | _,_,_=>[]
theorem ah4 {β:Type}{f:Ln→β}{g:Tab→Nat×List Ev→Ev→β}(hf:∀ x s o,f (lnO x s o)=g x s o):∀ {xs:List Tab}{S:Std}{os:List Ev}{bs:List β},S.length=xs.length→os.length=xs.length→bs.length=xs.length→(∀ (i:Nat) x s o,xs[i]?=some x→S[i]?=some s→os[i]?=some o→bs[i]?=some (g x s o))→(plO xs S os).map f=bs
 | [],[],[],[],_,_,_,_=>rfl
 | x::xs,s::S,o::os,b::bs,h1,h2,h3,h=>by
   have e:=h 0 x s o rfl rfl rfl
   have:=ah4 hf (xs:=xs) (S:=S) (os:=os) (bs:=bs) (by simpa using h1) (by simpa using h2) (by simpa using h3) fun i x s o a b c=>h (i+1) x s o a b c
   simp only [plO,List.map_cons,this,hf]
   rw [show b=g x s o by simpa using e]
 | [],_::_,_,_,h,_,_,_=>by simp at h
 | _::_,[],_,_,h,_,_,_=>by simp at h
 | [],[],_::_,_,_,h,_,_=>by simp at h
 | _::_,_::_,[],_,_,h,_,_=>by simp at h
 | [],[],[],_::_,_,_,h,_=>by simp at h
 | _::_,_::_,_::_,[],_,_,h,_=>by simp at h
theorem ah5:∀ {xs:List Tab}{S:Std}{os:List Ev},S.length=xs.length→os.length=xs.length→(plO xs S os).length=xs.length
 | [],[],[],_,_=>rfl
 | x::xs,s::S,o::os,h1,h2=>by simp only [plO,List.length_cons]; rw [ah5 (by simpa using h1) (by simpa using h2)]
 | [],_::_,_,h,_=>by simp at h
 | _::_,[],_,h,_=>by simp at h
 | [],[],_::_,_,h=>by simp at h
 | _::_,_::_,[],_,h=>by simp at h
theorem ah6:∀ {xs:List Tab}{S:Std}{os:List Ev}{i:Nat}{x:Tab}{s:Nat×List Ev}{o:Ev},xs[i]?=some x→S[i]?=some s→os[i]?=some o→(plO xs S os)[i]?=some (lnO x s o)
 | x::xs,s::S,o::os,0,_,_,_,h1,h2,h3=>by
   cases h1
   cases h2
   cases h3
   rfl
 | x::xs,s::S,o::os,i+1,_,_,_,h1,h2,h3=>ah6 (xs:=xs) (S:=S) (os:=os) (i:=i) h1 h2 h3
 | [],_,_,_,_,_,_,h,_,_=>by simp at h
 | _::_,[],_,_,_,_,_,_,h,_=>by simp at h
 | _::_,_::_,[],_,_,_,_,_,_,h=>by simp at h
theorem ap9 {xs:List Tab}{S:Std}{os:List Ev}{l:Ln}(h1:S.length=xs.length) (h2:os.length=xs.length) (h:l∈plO xs S os):∃ (i:Nat) (x:Tab) (s:Nat×List Ev) (o:Ev),xs[i]?=some x∧S[i]?=some s∧os[i]?=some o∧l=lnO x s o:=by
 obtain ⟨i,hi,rfl⟩:=List.mem_iff_getElem.mp h
 have hl:=ah5 h1 h2
 have e:=ah6 (xs:=xs) (S:=S) (os:=os) (i:=i) (gE (by omega)) (gE (by omega)) (gE (by omega))
 rw [gE hi] at e
 exact ⟨i,_,_,_,gE (by omega),gE (by omega),gE (by omega),Option.some.inj e⟩
theorem b05 {x:Tab}{s:Nat×List Ev}{o:Ev}(t:TOk x) (h1:s.1<x.rs.length) (h2:s.2.length≤3):(lnO x s o).Ok∧(rowO x s o).2<x.rs.length∧Goes x s.1 s.2 o (rowO x s o):=by
 obtain ⟨j,hj,hj2⟩:=c98 t.nd t.ne (evOf (inRow s.2 o))
 obtain ⟨r1,r2⟩:=t.ok x.rs[s.1] (List.getElem_mem h1)
 have hj3:j<x.rs[s.1].2.length:=by omega
 obtain ⟨y1,y2⟩:=r2 x.rs[s.1].2[j] (List.getElem_mem hj3)
 have hrow:rowO x s o=x.rs[s.1].2[j]:=by
  unfold rowO
  rw [bc9 hj]
  simp [h1,hj3]
 have go:Goes x s.1 s.2 o (rowO x s o):=⟨j,x.rs[s.1],hj,gE h1,by rw [hrow]; exact gE hj3⟩
 exact ⟨⟨go,h2,by show SaysOk (rowO x s o).1; rw [hrow]; exact y2⟩,by rw [hrow]; exact y1,go⟩
theorem bj8 {x:Tab}{g:Nat}{r:List Ev}{o:Ev}{y z:SRow}(h1:Goes x g r o y) (h2:Goes x g r o z):y=z:=by
 obtain ⟨j,rm,a1,a2,a3⟩:=h1
 obtain ⟨k,rn,b1,b2,b3⟩:=h2
 rw [a1] at b1
 have:j=k:=by
  have:=Option.some.inj b1
  injection this with this
  omega
 subst this
 rw [a2] at b2
 cases b2
 rw [a3] at b3
 exact Option.some.inj b3
def outS (pl:List Ln):Std:=(pl.map (·.y.2)).zip (stlA (pl.map Ln.row) (pl.map (·.y.1)))
noncomputable def nxO (xs:List Tab) (S:Std) (os:List Ev):Std:=outS (plO xs S os)
def begS (xs:List Tab):Std:=(List.replicate xs.length 0).zip (stlA (List.replicate xs.length []) (xs.map (·.sy)))
theorem bm6 {α β:Type}{a:List α}{b:List β}{i:Nat}{s:α×β}(h:(a.zip b)[i]?=some s):a[i]?=some s.1∧b[i]?=some s.2:=by
 obtain ⟨x,y⟩:=s
 exact List.getElem?_zip_eq_some.mp h
theorem bd0 {xs:List Tab}(hok:∀ x∈xs,TOk x):StOk xs (begS xs):=by
 refine ⟨by simp [begS,ac0],fun i x s hx hs=>?_⟩
 obtain ⟨h1,h2⟩:=bm6 hs
 have h3:=List.eq_of_mem_replicate (gI h1)
 refine ⟨by rw [h3]; exact (hok x (gI hx)).nr,al1 _ (bc6 _) _ (gI h2)⟩
theorem bm7 {xs:List Tab}{S:Std}{os:List Ev}(hok:∀ x∈xs,TOk x) (hS:StOk xs S) (ho:os.length=xs.length):StOk xs (nxO xs S os):=by
 have hl:=ah5 hS.1 ho
 refine ⟨by simp [nxO,outS,ac0,hl],fun i x s h1 h2=>?_⟩
 obtain ⟨h3,h4⟩:=bm6 h2
 have hi:=(gS h1).1
 obtain ⟨s0,hs0⟩:∃ s0,S[i]?=some s0:=⟨_,gE (by have:=hS.1; omega)⟩
 obtain ⟨o,ho0⟩:∃ o,os[i]?=some o:=⟨_,gE (by omega)⟩
 obtain ⟨g1,g2⟩:=hS.2 i x s0 h1 hs0
 rw [gM,ah6 h1 hs0 ho0] at h3
 have h5:(rowO x s0 o).2=s.1:=Option.some.inj h3
 refine ⟨by rw [← h5]; exact (b05 (hok x (gI h1)) g1 g2).2.1,al1 _ (fun r hr=>?_) _ (gI h4)⟩
 obtain ⟨l',hl',rfl⟩:=List.mem_map.mp hr
 obtain ⟨k,x',s',o',k1,k2,k3,rfl⟩:=ap9 hS.1 ho hl'
 have:=ag5 (o:=o') (hS.2 k x' s' k1 k2).2
 show ((inRow s'.2 o').tail).length≤3
 simp
 omega
def qs (xs:List Tab):List Ev:=xs.map fun _=>.quiet
theorem au3 (xs:List Tab):(qs xs).length=xs.length:=by simp [qs]
theorem c45 {xs:List Tab}{i:Nat}{x:Tab}(h:xs[i]?=some x):(qs xs)[i]?=some .quiet:=by simp [qs,h]
noncomputable def nxQ (xs:List Tab) (S:Std):Std:=nxO xs S (qs xs)
noncomputable def saO (xs:List Tab) (S:Std) (os:List Ev):List (List Say):=(plO xs S os).map (·.y.1)
noncomputable def saQ (xs:List Tab) (S:Std):List (List Say):=saO xs S (qs xs)
theorem bd1 {xs:List Tab}{S:Std}{os:List Ev}{i:Nat}{x:Tab}{s:Nat×List Ev}{o:Ev}(h1:xs[i]?=some x) (h2:S[i]?=some s) (h3:os[i]?=some o):(saO xs S os)[i]?=some (rowO x s o).1:=by
 unfold saO
 rw [gM,ah6 h1 h2 h3]
 rfl
theorem ah7 {xs:List Tab}{S:Std}{os:List Ev}(h1:S.length=xs.length) (h2:os.length=xs.length):(saO xs S os).length=xs.length:=by
 unfold saO
 rw [gL,ah5 h1 h2]
def ovQ (xs:List Tab) (S:Std):List Bool:=List.zipWith (fun x s=>(x.rs.getD s.1 (false,[])).1) xs S
theorem bm8 {xs:List Tab}{S:Std}{i:Nat}{x:Tab}{s:Nat×List Ev}(h1:xs[i]?=some x) (h2:S[i]?=some s):(ovQ xs S)[i]?=some (x.rs.getD s.1 (false,[])).1:=by
 unfold ovQ
 rw [List.getElem?_zipWith,h1,h2]
theorem bd2 {xs:List Tab}{S:Std}(h:S.length=xs.length):(ovQ xs S).length=xs.length:=by
 unfold ovQ
 simp [h]
noncomputable def itQ (xs:List Tab) (S:Std):Nat→Std
 | 0=>S
 | n+1=>nxQ xs (itQ xs S n)
theorem bd3 {xs:List Tab}{S:Std}(hok:∀ x∈xs,TOk x) (hS:StOk xs S):∀ n,StOk xs (itQ xs S n)
 | 0=>hS
 | n+1=>bm7 hok (bd3 hok hS n) (au3 xs)
noncomputable def ldQ (xs:List Tab) (S:Std) (i:Nat):Bool:=(ovQ xs S).getD i false || decide (0<((saQ xs S).getD i []).length)
noncomputable def hdI (xs:List Tab) (S:Std) (i:Nat):Nat→Bool
 | 0=>false
 | n+1=>hdI xs S i n || ldQ xs (itQ xs S n) i
noncomputable def kpQ (xs:List Tab) (S:Std) (n:Nat):List Nat:=(List.range xs.length).filter fun i=>!hdI xs S i n
theorem bj9 (xs:List Tab) (S:Std):kpQ xs S 0=List.range xs.length:=by
 unfold kpQ
 rw [List.filter_eq_self]
 intro i _
 rfl
theorem bk0 (xs:List Tab) (S:Std) (n:Nat):kpQ xs S (n+1)=(kpQ xs S n).filter fun i=>!ldQ xs (itQ xs S n) i:=by
 unfold kpQ
 rw [List.filter_filter]
 congr 1
 funext i
 show (!(hdI xs S i n || ldQ xs (itQ xs S n) i))=_
 rw [Bool.not_or,Bool.and_comm]
theorem c46 {xs:List Tab}{S:Std}{n i:Nat}(h:i∈kpQ xs S n):i<xs.length:=by
 unfold kpQ at h
 exact List.mem_range.mp (List.mem_filter.mp h).1
theorem bt6 (xs:List Tab) (S:Std) (n:Nat):(kpQ xs S n).length≤xs.length:=by
 unfold kpQ
 have:=List.length_filter_le (fun i=>!hdI xs S i n) (List.range xs.length)
 simpa using this
def Frs (xs:List Tab) (S:Std) (N:Nat):Prop:=∀ k,k<N→∀ m,m<k→itQ xs S m≠itQ xs S k
structure Fst (xs:List Tab) (S:Std) (N A:Nat):Prop where
 lt:A<N
 eq:itQ xs S A=itQ xs S N
 no:Frs xs S N
theorem Fst.one {xs:List Tab}{S:Std}{N A M B:Nat}(h:Fst xs S N A) (g:Fst xs S M B):N=M∧A=B:=by
 have e:N=M:=by
  rcases Nat.lt_trichotomy N M with z | z | z
  · exact absurd h.eq (g.no N z A h.lt)
  · exact z
  · exact absurd g.eq (h.no M z B g.lt)
 subst e
 refine ⟨rfl,?_⟩
 rcases Nat.lt_trichotomy A B with z | z | z
 · exact absurd (h.eq.trans g.eq.symm) (h.no B g.lt A z)
 · exact z
 · exact absurd (g.eq.trans h.eq.symm) (h.no A h.lt B z)
def Due (xs:List Tab) (S:Std) (o:Option (List Nat×Nat×Nat)):Prop :=
 (∃ N A,N≤2000∧Fst xs S N A∧o=some (kpQ xs S N,A,N - A))∨(Frs xs S 2001∧o=none)
theorem Due.one {xs:List Tab}{S:Std}{o o':Option (List Nat×Nat×Nat)}(h:Due xs S o) (g:Due xs S o'):o=o':=by
 rcases h with ⟨N,A,h1,h2,rfl⟩ | ⟨h1,rfl⟩
 · rcases g with ⟨M,B,g1,g2,rfl⟩ | ⟨g1,rfl⟩
   · obtain ⟨rfl,rfl⟩:=h2.one g2
     rfl
   · exact absurd h2.eq (g1 N (by omega) A h2.lt)
 · rcases g with ⟨M,B,g1,g2,rfl⟩ | ⟨g1,rfl⟩
   · exact absurd g2.eq (h1 M (by omega) B g2.lt)
   · rfl
def stTr (S:Std):Tr:=.tup (S.map fun s=>.tup [.int (s.1:Nat),.tup (s.2.map Ev.tr)])
theorem ax7 {α β:Type}{f:α→β}(hf:∀ a b,f a=f b→a=b):∀ {l r:List α},l.map f=r.map f→l=r
 | [],[],_=>rfl
 | [],_::_,h=>by simp at h
 | _::_,[],h=>by simp at h
 | a::l,b::r,h=>by
   simp only [List.map_cons,List.cons.injEq] at h
   rw [hf a b h.1,ax7 hf h.2]
theorem aj1 {S R:Std}(h:stTr S=stTr R):S=R:=by
 unfold stTr at h
 injection h with h
 refine ax7 (fun a b e=>?_) h
 injection e with e
 simp only [List.cons.injEq,and_true] at e
 obtain ⟨e1,e2⟩:=e
 injection e1 with e1
 injection e2 with e2
 obtain ⟨a1,a2⟩:=a
 obtain ⟨b1,b2⟩:=b
 have h1:a1=b1:=Int.ofNat.inj e1
 have h2:a2=b2:=ax7 (fun x y e=>Ev.tr_inj e) e2
 rw [h1,h2]
theorem bm9 (es:List Ev):Tr.hs (es.map Ev.tr)≤1:=by
 induction es with
 | nil=>simp [Tr.hs]
 | cons e es ih =>
   have:=e.tr_h
   simp only [List.map_cons,Tr.hs]
   omega
theorem c47 (S:Std):(stTr S).h≤8:=by
 have:∀ S:Std,Tr.hs (S.map fun s=>Tr.tup [.int (s.1:Nat),.tup (s.2.map Ev.tr)])≤4:=by
  intro S
  induction S with
  | nil=>simp [Tr.hs]
  | cons s S ih =>
    have:=bm9 s.2
    simp only [List.map_cons,Tr.hs,Tr.h]
    omega
 have:=this S
 unfold stTr
 simp only [Tr.h]
 omega
theorem bd4 {H:Hp}:∀ {S:Std}{stv:List V},Each (StdAt H) stv S→Tr.Ats H (S.map fun s=>Tr.tup [.int (s.1:Nat),.tup (s.2.map Ev.tr)]) stv []
 | [],[],h=>by simp [Tr.Ats]
 | [],v::stv,h=>by have:=h.1; simp at this
 | s::S,[],h=>by have:=h.1; simp at this
 | s::S,v::stv,h=>by
   obtain ⟨h1,h2⟩:=al4 h
   have h2:=bd4 h2
   obtain ⟨k,rv,rfl,e1,a,us,rfl,e2,e3⟩:=h1
   refine ats_cons0.mpr ⟨_,_,rfl,?_,h2⟩
   simp only [Tr.At]
   exact ⟨k,_,rfl,e1,ats_cons0.mpr ⟨_,_,rfl,by simp [Tr.At],ats_cons0.mpr ⟨_,_,rfl,by simp only [Tr.At]; exact ⟨a,us,rfl,e2,e3⟩,by simp [Tr.Ats]⟩⟩⟩
theorem au4 {H:Hp}{S:Std}{st:Addr}{stv:List V}(h:H st=some (.tup stv)) (hS:Each (StdAt H) stv S):TK H (stTr S) (.ref st):=⟨by
 unfold stTr
 simp only [Tr.At]
 exact ⟨st,stv,rfl,h,bd4 hS⟩,c47 _⟩
noncomputable def kvQ (xs:List Tab) (S:Std) (n:Nat):List (Tr×V):=(List.range n).map fun m=>(stTr (itQ xs S m),V.int (m:Nat))
theorem b06 (xs:List Tab) (S:Std) (n:Nat):kvQ xs S (n+1)=kvQ xs S n++[(stTr (itQ xs S n),V.int (n:Nat))]:=by
 unfold kvQ
 rw [List.range_succ,List.map_append]
 rfl
theorem aq0 {xs:List Tab}{S:Std}{n:Nat}{R:Std}(h:∀ m,m<n→itQ xs S m≠R):valV (kvQ xs S n) (stTr R)=none:=by
 unfold valV
 rw [List.find?_eq_none.mpr]
 · rfl
 · intro x hx
   obtain ⟨m,hm,rfl⟩:=List.mem_map.mp hx
   simpa using fun z=>h m (List.mem_range.mp hm) (aj1 z)
theorem aq1 (xs:List Tab) (S:Std) (n:Nat):(kvQ xs S n).length=n:=by simp [kvQ]
theorem bn0 {xs:List Tab}{S:Std}{A:Nat}:∀ {n:Nat},Frs xs S n→A<n→valV (kvQ xs S n) (stTr (itQ xs S A))=some (.int (A:Nat))
 | 0,_,h0=>by omega
 | n+1,hn,h0=>by
   rw [b06,af1 _ _ _ _ (aq0 fun m hm=>hn n (by omega) m hm)]
   by_cases e:A=n
   · rw [if_pos (by rw [e]),e]
   · rw [if_neg (fun z=>hn n (by omega) A (by omega) (aj1 z))]
     exact bn0 (fun k hk=>hn k (by omega)) (by omega)
theorem b07 {H:Hp}{d:Addr}{φ:Heap→Prop} {o:HO}(h:H d=some (.ext φ)):Tups H (upd H d o):=fun b ys e=>by
 rw [a09 (ae0 e h (fun z=>nomatch z))]
 exact e
def wm (ms:List Addr) (pl:List Ln):List Ln:=List.zipWith (fun m l=>{ l with m:=m }) ms pl
theorem ao1 {β:Type}{f:Ln→β}(hf:∀ (l:Ln) (m:Addr),f { l with m:=m }=f l):∀ {ms:List Addr}{pl:List Ln},ms.length=pl.length→(wm ms pl).map f=pl.map f
 | [],[],_=>rfl
 | m::ms,l::pl,h=>by
   have:=ao1 hf (ms:=ms) (pl:=pl) (by simpa using h)
   unfold wm at this ⊢
   simp only [List.zipWith_cons_cons,List.map_cons,this,hf]
 | [],l::pl,h=>by simp at h
 | m::ms,[],h=>by simp at h
theorem wm_m:∀ {ms:List Addr}{pl:List Ln},ms.length=pl.length→(wm ms pl).map (·.m)=ms
 | [],[],_=>rfl
 | m::ms,l::pl,h=>by
   have:=wm_m (ms:=ms) (pl:=pl) (by simpa using h)
   unfold wm at this ⊢
   simp only [List.zipWith_cons_cons,List.map_cons,this]
 | [],l::pl,h=>by simp at h
 | m::ms,[],h=>by simp at h
theorem bd5 {l:Ln}:∀ {ms:List Addr}{pl:List Ln},l∈wm ms pl→∃ (i:Nat) (m:Addr) (l0:Ln),ms[i]?=some m∧pl[i]?=some l0∧l={ l0 with m:=m }
 | [],_,h=>by simp [wm] at h
 | m::ms,[],h=>by simp [wm] at h
 | m::ms,l0::pl,h=>by
   unfold wm at h
   rw [List.zipWith_cons_cons] at h
   rcases List.mem_cons.mp h with rfl | h
   · exact ⟨0,m,l0,rfl,rfl,rfl⟩
   · obtain ⟨i,m',l',h1,h2,h3⟩:=bd5 (ms:=ms) (pl:=pl) h
     exact ⟨i+1,m',l',h1,h2,h3⟩
theorem au5 {K:W.Frag}{P:Params}{C Ct hp st ou:Addr}{H:Hp}{ms:List Addr}{xs:List Tab}{S:Std}{os:List Ev}{stv ovs:List V}{Q:VK}{E:XK}(hH:HallAt C H hp ms) (hM:Each (MS P Ct H) ms xs) (hn:xs.length≤100) (hok:∀ x∈xs,TOk x) (hSo:StOk xs S) (hst:H st=some (.tup stv)) (hS:Each (StdAt H) stv S)
 (hou:H ou=some (.lst ovs)) (hO:Each (fun v (e:Ev)=>e.tr.AtK K H v∧(e≠.quiet→e.tr.At H v [])) ovs os) (hol:os.length=xs.length)
 (q:∀ f fs fst ls H',Same H H'→FoundAt H' f fs fst ls (saO xs S os) (nxO xs S os)→Q (.ref f) H'):b01 K P C Ct [.ref hp,.ref st,.ref ou] H Q E:=by
 have pll:=ah5 hSo.1 hol
 have mx:=hM.len
 have ml:ms.length=(plO xs S os).length:=by omega
 have em:=wm_m ml
 refine ⟨hp,st,ou,wm ms (plO xs S os),stv,ovs,rfl,⟨by rw [em]; exact hH,fun l hl=>?_,?_,hst,?_,hou,?_,fun l hl=>?_⟩,fun v H' ts s hT hts hN=>?_⟩
 · obtain ⟨i,m,l0,h1,h2,rfl⟩:=bd5 hl
   obtain ⟨x,hx⟩:∃ x,xs[i]?=some x:=⟨_,gE (by have:=(gS h2).1; omega)⟩
   obtain ⟨s,hs⟩:∃ s,S[i]?=some s:=⟨_,gE (by have:=(gS h2).1; have:=hSo.1; omega)⟩
   obtain ⟨o,ho⟩:∃ o,os[i]?=some o:=⟨_,gE (by have:=(gS h2).1; omega)⟩
   rw [ah6 hx hs ho] at h2
   cases h2
   exact hM.2 i m x h1 hx
 · have:=congrArg List.length em
   rw [gL] at this
   omega
 · rw [ao1 (f:=Ln.std) (fun _ _=>rfl) ml,ah4 (f:=Ln.std) (g:=fun _ s _=>s) (fun _ _ _=>rfl) hSo.1 hol hSo.1 (fun i x s o _ h _=>h)]
   exact hS
 · rw [ao1 (f:=fun l:Ln=>l.o) (fun _ _=>rfl) ml,ah4 (f:=fun l:Ln=>l.o) (g:=fun _ _ o=>o) (fun _ _ _=>rfl) hSo.1 hol hol (fun i x s o _ _ h=>h)]
   exact hO
 · obtain ⟨i,m,l0,h1,h2,rfl⟩:=bd5 hl
   obtain ⟨k,x,s,o,k1,k2,k3,rfl⟩:=ap9 hSo.1 hol (gI h2)
   obtain ⟨g1,g2⟩:=hSo.2 k x s k1 k2
   have:=(b05 (o:=o) (hok x (gI k1)) g1 g2).1
   exact ⟨this.at_,this.le,this.says⟩
 · obtain ⟨f,fs,fst,rfl,hF,hB⟩:=hT.found hts
   refine q f fs fst (ts.map (·.1)) H' s ?_
   rw [ao1 (f:=Ln.row) (fun _ _=>rfl) ml,ao1 (f:=fun l:Ln=>l.y.1) (fun _ _=>rfl) ml,ao1 (f:=fun l:Ln=>l.y) (fun _ _=>rfl) ml,List.map_map,List.map_map] at hF
   exact hF
theorem bk1 {K:W.Frag}{P:Params}{C Ct hp:Addr}{H:Hp}{ms:List Addr}{xs:List Tab}{Q:VK}{E:XK}(hH:HallAt C H hp ms) (hM:Each (MS P Ct H) ms xs) (hn:xs.length≤100) (hok:∀ x∈xs,TOk x)
 (q:∀ f fs fst ls H',Same H H'→FoundAt H' f fs fst ls (xs.map (·.sy)) (begS xs)→Q (.ref f) H'):at9 K P C Ct [.ref hp] H Q E:=by
 have ml:=hM.len
 refine ⟨hp,ms,xs,rfl,hH,hM,by omega,fun x hx=>(hok x hx).sy,fun v H' ts s hT hts hN=>?_⟩
 obtain ⟨f,fs,fst,rfl,hF,hB⟩:=hT.found hts
 rw [begs.1,begs.2,ml] at hF
 exact q f fs fst _ H' s hF
structure StillPre (P:Params) (C Ct:Addr) (H:Hp) (p st:Addr) (ms:List Addr) (xs:List Tab) (S:Std) (stv:List V):Prop where
 hh:HallAt C H p ms
 hM:Each (MS P Ct H) ms xs
 hn:xs.length≤100
 hok:∀ x∈xs,TOk x
 hSo:StOk xs S
 hst:H st=some (.tup stv)
 hS:Each (StdAt H) stv S
def bk2 (K:W.Frag) (P:Params) (C Ct Cx:Addr):Sp:=fun vs H Q E=>∃ (p st:Addr) (ms:List Addr) (xs:List Tab) (S:Std) (stv:List V),vs=[.ref p,.ref st]∧StillPre P C Ct H p st ms xs S stv ∧
 (∀ ks A R,Due xs S (some (ks,A,R))→∀ r l H',Same H H'→H l=none→H' r=some (.tup [.ref l,.int (A:Nat),.int (R:Nat)])→H' l=some (.lst (natsV ks))→Q (.ref r) H') ∧
 (Due xs S none→∀ H',Same H H'→E (.ref Cx) none H')
noncomputable def hdL (xs:List Tab) (S:Std) (n:Nat):List Bool:=(List.range xs.length).map fun i=>hdI xs S i n
theorem ax8 (xs:List Tab) (S:Std) (n:Nat):(hdL xs S n).length=xs.length:=by simp [hdL]
theorem bd6 {xs:List Tab}{S:Std}{n i:Nat}(h:i<xs.length):(hdL xs S n)[i]?=some (hdI xs S i n):=by simp [hdL,h]
theorem bk3 {xs:List Tab}{S:Std}{n i:Nat}:(List.range (i+1)).filter (fun i=>!hdI xs S i n)=(List.range i).filter (fun i=>!hdI xs S i n)++(if hdI xs S i n=true then [] else [i]):=by
 rw [List.range_succ,List.filter_append]
 cases h:hdI xs S i n <;> simp [h]
theorem al9 (T:Txt K mg t):FnOk P w K mg base (CXE P w t.c_TooMany) 4 t.a_still_lines t.fd_still_lines ["hall","standing"] (bk2 K w.params t.c_Hall t.c_TableMachine t.c_TooMany):=by
 have G_Hall_ended_lines:=ae6 (P:=P) (w:=w) (base:=base) T
 have G_Hall_step:=ah9 (P:=P) (w:=w) (base:=base) T
 refine T.F_still_lines.okE sc_still_lines (fun vs H Q E h=>?_) (fun cdv A outer s H vs Q E hr h=>?_)
 · obtain ⟨p,st,ms,xs,S,stv,rfl,_⟩:=h
   rfl
 · obtain ⟨p,st,ms,xs,S,stv,rfl,⟨hh,hM,hn,hok,hSo,hst,hS⟩,q,qe⟩:=h
   refine ⟨_,(@a03 _ _ _ _ _ (ag9 (i:=2) (Nt:=["line"]) (Nf:=[]) (caps:=[]) rfl (a50 (sc:=defScope a47) rfl rfl (by decide +kernel) (by decide +kernel) (by decide +kernel) rfl (by decide +kernel)) (b90 K (pv 1)) (fun _ _ _ _ _=>(a08 (i:=0) (show (["line"]:List Str).Nodup by decide +kernel) rfl (by walk_at "o"))) (fun _ _ _ _ _=>(@a59 _)) (fun _ _ _ _ _=>(aj4 (by rfl) T.m_QUIET (by exact T.r_QUIET))) sc_still_lines.nd rfl (by walk_at "o") rfl)
    (@a03 _ _ _ _ _ (@a36 _ _ 3 _ _ _ _ sc_still_lines.nd rfl (by walk_at "o") (aw6 w.params) (by rfl) (by walk_at "o"))
    (@a03 _ _ _ _ _ (ag9 (i:=4) (Nt:=["line"]) (Nf:=[]) (caps:=[]) rfl (a50 (sc:=defScope a47) rfl rfl (by decide +kernel) (by decide +kernel) (by decide +kernel) rfl (by decide +kernel)) (b90 K (pv 1)) (fun _ _ _ _ _=>(a08 (i:=0) (show (["line"]:List Str).Nodup by decide +kernel) rfl (by walk_at "o"))) (fun _ _ _ _ _=>(@a59 _)) (fun _ _ _ _ _=>(@aj2 _ _ _ _)) sc_still_lines.nd rfl (by walk_at "o") rfl)
    (@a03 _ _ _ _ _ (@ao4 _ _ _ _ _ _ PassesOwn.leaving (b65 (as6 (P:=w.params) rfl (by exact hr.units) (pv 1) (pv 3))) (@a03 _ _ _ _ _ (@ab1 _ _ _ _ _ _ _ _ (@a53 _ _ _ _ _ _ _ _ ai0 (@a45 _ _ _ _ _ _ _ _ _ (ap2 (P:=w.params) rfl) (by rfl) T.z_len a87 (@a00 _ _ _ _ _ (pv 3) (@a01 _) (by rfl)) (by decide) (by decide) (by rfl) (by rfl)) (aj4 (by rfl) T.m_MOST_STANDINGS (by exact T.r_MOST_STANDINGS)) (nomark _)) (@a07 _ _ _ (bi5 PySem.F.excBase_ValueError (by decide +kernel) PySem.F.excBase_ValueError T.xe_TooMany T.m_TooMany rfl (@a00 _ _ _ _ _ (@a51 _ _ _ _) (@a01 _) (by rfl)))) (@a68 _))
     (@a03 _ _ _ _ _ (ap1 (P:=w.params) rfl (by exact hr.units) (pv 3) (pv 1) (@a45 _ _ _ _ _ _ _ _ _ (ap2 (P:=w.params) rfl) (by rfl) T.z_len a87 (@a00 _ _ _ _ _ (pv 3) (@a01 _) (by rfl)) (by decide) (by decide) (by rfl) (by rfl)) rfl)
     (@a03 _ _ _ _ _ (@a36 _ _ 5 _ _ _ _ sc_still_lines.nd rfl (by walk_at "o") (aj7 (pv 0) T.cl_Hall T.M_Hall_ended_lines G_Hall_ended_lines (hr.mono (by omega)) T.b_Hall_ended_lines .nil a61 (@a00 _ _ _ _ _ (pv 1) (@a01 _) (by rfl))) (by rfl) (by walk_at "o"))
     (@a03 _ _ _ _ _ (@a36 _ _ 6 _ _ _ _ sc_still_lines.nd rfl (by walk_at "o") (aj7 (pv 0) T.cl_Hall T.M_Hall_step G_Hall_step (hr.mono (by omega)) T.b_Hall_step .nil a61 (@a00 _ _ _ _ _ (pv 1) (@a00 _ _ _ _ _ (pv 2) (@a01 _) (by rfl)) (by rfl))) (by rfl) (by walk_at "o"))
     (@a03 _ _ _ _ _ (ag9 (i:=4) (Nt:=["known","over","said"]) (Nf:=[]) (caps:=[]) rfl (a50 (sc:=defScope a47) rfl rfl (by decide +kernel) (by decide +kernel) (by decide +kernel) rfl (by decide +kernel)) (bq7 K rfl T.z_zip (@a00 _ _ _ _ _ (pv 4) (@a00 _ _ _ _ _ (pv 5) (@a00 _ _ _ _ _ (@a40 _ _ _ _ _ _ _ (a38 K) (pv 6) (@a04 _ _ _ _) (fun _ _=>rfl)) (@a01 _) (by rfl)) (by rfl)) (by rfl))) (fun _ _ _ _ _=>(aa6 K (n:=3) rfl (a41 (a08 (i:=0) (show (["known","over","said"]:List Str).Nodup by decide +kernel) rfl (by walk_at "o")) (a41 (a08 (i:=1) (show (["known","over","said"]:List Str).Nodup by decide +kernel) rfl (by walk_at "o")) (a41 (a08 (i:=2) (show (["known","over","said"]:List Str).Nodup by decide +kernel) rfl (by walk_at "o")) (@a99 _)))))) (fun _ _ _ _ _=>(@a59 _)) (fun _ _ _ _ _=>(@bv0 _ _ _ _ _ _ _ (pv 0) (@bv0 _ _ _ _ _ _ _ (pv 1) (@bl1 _ _ _ _ _ (@ac4 _ _ _ _ _ _ _ _ bo1 (@a45 _ _ _ _ _ _ _ _ _ (a83 K) (by rfl) T.z_len a87 (@a00 _ _ _ _ _ (pv 2) (@a01 _) (by rfl)) (by decide) (by decide) (by rfl) (by rfl)) (@a04 _ _ _ _) (nomark _)))))) sc_still_lines.nd rfl (by walk_at "o") rfl)
     (@a07 _ _ _ (@a36 _ _ 1 _ _ _ _ sc_still_lines.nd rfl (by walk_at "o") (@a40 _ _ _ _ _ _ _ (a38 K) (pv 6) (@a04 _ _ _ _) (fun _ _=>rfl)) (by rfl) (by walk_at "o")))))))))
    (@a03 _ _ _ _ _ (@a36 _ _ 7 _ _ _ _ sc_still_lines.nd rfl (by walk_at "o") (bq2 (P:=w.params) rfl (by exact hr.units) (pv 3) (pv 1) (fun _ _=>rfl)) (by rfl) (by walk_at "o"))
    (@a03 _ _ _ _ _ (ag9 (i:=8) (Nt:=["line","known"]) (Nf:=[]) (caps:=[]) rfl (a50 (sc:=defScope a47) rfl rfl (by decide +kernel) (by decide +kernel) (by decide +kernel) rfl (by decide +kernel)) (aw1 K rfl T.z_enumerate (@a00 _ _ _ _ _ (pv 4) (@a01 _) (by rfl))) (fun _ _ _ _ _=>(aa6 K (n:=2) rfl (a41 (a08 (i:=0) (show (["line","known"]:List Str).Nodup by decide +kernel) rfl (by walk_at "o")) (a41 (a08 (i:=1) (show (["line","known"]:List Str).Nodup by decide +kernel) rfl (by walk_at "o")) (@a99 _))))) (fun _ _ _ _ _=>(@av7 _ _ _ (@b67 _ _ _ _ (ae4 K (pv 1) (fun _=>rfl))))) (fun _ _ _ _ _=>(pv 0)) sc_still_lines.nd rfl (by walk_at "o") rfl)
    (@a07 _ _ _ (@a52 _ _ _ _ (@a34 _ _ _ _ _ (@a00 _ _ _ _ _ (pv 8) (@a00 _ _ _ _ _ (pv 7) (@a00 _ _ _ _ _ (@a69 _ _ _ _ _ _ _ _ b70 (@a45 _ _ _ _ _ _ _ _ _ (ap2 (P:=w.params) rfl) (by rfl) T.z_len a87 (@a00 _ _ _ _ _ (pv 3) (@a01 _) (by rfl)) (by decide) (by decide) (by rfl) (by rfl)) (pv 7)) (@a01 _) (by rfl)) (by rfl)) (by rfl))))))))))),?_⟩
   have sl:(1000000:Nat)≤sizeLine:=le_line (Nat.le_refl _)
   have stl:=hS.len
   have sol:=hSo.1
   have ml:=hM.len
   have sll:stv.length=xs.length:=by omega
   walk_at "go"
   refine ⟨⟨_,SqT.of hst⟩,bl3 (K:=K) (a:=st) (xs:=stv) (le_line (by omega)) (fun i acc H'=>i≤stv.length∧Same H H'∧acc=List.replicate i (V.ref t.ad_QUIET)) ⟨Nat.zero_le _,Same.refl _,rfl⟩ (fun i acc H' ⟨_,s',e⟩=>⟨by rw [e]; simp,SqT.of (s' _ _ hst)⟩) ?_ ?_⟩
   · rintro i v acc H2 hv ⟨hi,s2,rfl⟩
     have hi':=(gS hv).1
     walk_at "r"
     exact ⟨hi',s2,by rw [List.replicate_succ']⟩
   rintro acc H1 ⟨_,s1,rfl⟩ pq H2 f2 s2 e2
   rw [sll] at e2
   walk_at "r"
   intro d o f3 hd3
   have s3:Same H2 (upd H2 d o):=Same.new f3
   generalize upd H2 d o=H3 at hd3 s3
   walk_at "r"
   have s03:=(s1.trans s2).trans s3
   refine ⟨⟨_,SqT.of (s03 _ _ hst)⟩,bl3 (K:=K) (a:=st) (xs:=stv) (le_line (by omega)) (fun i acc H'=>i≤stv.length∧Same H3 H'∧acc=List.replicate i (V.bl false)) ⟨Nat.zero_le _,Same.refl _,rfl⟩ (fun i acc H' ⟨_,s',e⟩=>⟨by rw [e]; simp,SqT.of (s' _ _ (s03 _ _ hst))⟩) ?_ ?_⟩
   · rintro i v acc H4 hv ⟨hi,s4,rfl⟩
     have hi':=(gS hv).1
     walk_at "r"
     exact ⟨hi',s4,by rw [List.replicate_succ']⟩
   rintro acc H4 ⟨_,s4,rfl⟩ ph H5 f5 s5 e5
   rw [sll] at e5
   have s35:=s4.trans s5
   walk_at "r"
   have er:List.replicate xs.length (V.bl false)=(hdL xs S 0).map V.bl:=by
    unfold hdL
    rw [List.map_map,show (V.bl∘fun i=>hdI xs S i 0)=fun _=>V.bl false from rfl,List.map_const',List.length_range]
   rw [er] at e5
   obtain ⟨W,hW⟩:∃ W:Nat→St→Hp→Prop,W=(fun m σ H'=>∃ n:Nat,m=2001 - n∧n≤2000∧Frs xs S n∧Same H2 H'∧DtAt w.params H' d (kvQ xs S n)∧∃ (st' ph':Addr) (stv':List V) (y5 y6:Option V),H' st'=some (.tup stv')∧Each (StdAt H') stv' (itQ xs S n)∧H' ph'=some (.lst ((hdL xs S n).map V.bl))∧σ=[some (.ref p),some (.ref st'),some (.ref pq),some (.ref d),some (.ref ph'),y5,y6,none,none]):=⟨_,rfl⟩
   have s25:=s3.trans s35
   refine aw2 W 2001 ?_ ?_
   · rw [hW]
     exact ⟨0,rfl,Nat.zero_le _,fun k hk=>absurd hk (Nat.not_lt_zero _),s25,ab2 hd3 s35,st,ph,stv,_,_,(s03.trans s35) _ _ hst,hS.mono fun v x h=>h.tups (s03.trans s35).tups,e5,rfl⟩
   intro m σ H' hI
   rw [hW] at hI
   obtain ⟨n,rfl,hn2,hfr,s',hd',st',ph',stv',y5,y6,hst',hS',hph',rfl⟩:=hI
   have hSn:=bd3 hok hSo n
   walk_at "r"
   refine ⟨d,_,stTr (itQ xs S n),rfl,hd',au4 hst' hS',?_⟩
   by_cases hlt:∀ m,m<n→itQ xs S m≠itQ xs S n
   · rw [aq0 hlt]
     refine ⟨true,rfl,?_⟩
     rw [if_pos rfl]
     refine ⟨fun σ' H''=>W (2001 - (n+1)) σ' H'',fun σ' H'' h=>⟨_,by omega,h⟩,?_⟩
     have hfr1:Frs xs S (n+1):=fun k hk=>by
      by_cases e:k=n
      · rw [e]; exact hlt
      · exact hfr k (by omega)
     have s0':=(s1.trans s2).trans s'
     walk_at "r"
     refine ⟨d,_,rfl,hd',?_⟩
     rw [aq1]
     walk_at "r"
     by_cases h2:n=2000
     · subst h2
       rw [if_pos (by simp)]
       walk_at "r"
       exact qe (.inr ⟨hfr1,rfl⟩) _ s0'
     rw [if_neg (by simp; omega)]
     walk_at "r"
     refine ⟨d,_,rfl,hd',?_⟩
     rw [aq1]
     walk_at "r"
     refine ⟨d,_,stTr (itQ xs S n),rfl,hd',au4 hst' hS',by rw [aq1]; omega,fun o6 hd6=>?_⟩
     rw [ay6 _ (aq0 hlt),←b06] at hd6
     obtain ⟨φ,eφ⟩:=hd'.ext
     have t6:=b07 (o:=o6) eφ
     have s6:Same H2 (upd H' d o6):=s'.updNew f3
     have hst6:=t6 _ _ hst'
     have hS6:=hS'.mono fun v x h=>h.tups t6
     have hph6:upd H' d o6 ph'=some (.lst ((hdL xs S n).map V.bl)):=by rw [a09 (ae0 hph' eφ (fun z=>nomatch z))]; exact hph'
     generalize upd H' d o6=H6 at hd6 s6 hst6 hS6 hph6
     have s06:=(s1.trans s2).trans s6
     walk_at "r"
     obtain ⟨dx,l1,l2,g1,_⟩:=(hh.same s06).ex
     refine ⟨p,dx,_,rfl,g1,bj3 _ _ (by decide +kernel) (by decide +kernel),?_⟩
     walk_at "r"
     refine ⟨p,st',ms,xs,stv',itQ xs S n,ovQ xs (itQ xs S n),rfl,hh.same s06,hM.mono fun m x h=>h.same s06,by omega,hst6,hS6,by rw [hSn.1]; omega,by rw [bd2 hSn.1]; omega,fun i x sx b hx hs hb=>?_,fun le H7 f7 s7 e7=>?_⟩
     · rw [bm8 hx hs] at hb
       obtain ⟨g1,g2⟩:=hSn.2 i x sx hx hs
       refine ⟨x.rs[sx.1],gE g1,?_⟩
       have:=Option.some.inj hb
       rw [← this]
       simp [g1]
     walk_at "r"
     have s07:=s06.trans s7
     obtain ⟨dx,l1,l2,g1,_⟩:=(hh.same s07).ex
     refine ⟨p,dx,_,rfl,g1,bj3 _ _ (by decide +kernel) (by decide +kernel),?_⟩
     walk_at "r"
     refine au5 (os:=qs xs) (hh.same s07) (hM.mono fun m x h=>h.same s07) hn hok hSn (s7 _ _ hst6) (hS6.mono fun v x h=>h.tups s7.tups) ((s6.trans s7) _ _ e2) ⟨by simp [qs],fun i v e h1 h2=>?_⟩ (au3 xs) fun f8 sa st8 las H8 s8 hF8=>?_
     · rw [List.eq_of_mem_replicate (gI h1)]
       unfold qs at h2
       rw [List.map_const'] at h2
       rw [List.eq_of_mem_replicate (gI h2)]
       exact ⟨quietK T.d_QUIET,fun z=>absurd rfl z⟩
     obtain ⟨stv8,e8,e8',hla,hst8,hS8⟩:=hF8.ex
     walk_at "r"
     refine a72 (SqT.of e8) (a05 (j:=0) rfl) ?_
     walk_at "r"
     have s78:=s7.trans s8
     have lal:las.length=xs.length:=by have:=hla.len; rw [ah7 hSn.1 (au3 xs)] at this; exact this
     have ovl:=bd2 hSn.1
     have hdl:=ax8 xs S n
     have hdl1:=ax8 xs S (n+1)
     refine ⟨ph',le,sa,rfl,⟨_,SqL.of (s78 _ _ hph6)⟩,⟨_,SqL.of (s8 _ _ e7)⟩,⟨_,SqL.of e8'⟩,br8 (K:=K) (xs:=(hdL xs S n).map V.bl) (ys:=(ovQ xs (itQ xs S n)).map V.bl) (us:=las.map V.ref) (by simp; omega) (by simp; omega) (le_line (by simp; omega)) (fun i acc H'=>i≤xs.length∧Same H8 H'∧acc=((hdL xs S (n+1)).take i).map V.bl) ⟨Nat.zero_le _,Same.refl _,rfl⟩ (fun i acc H' ⟨_,s',e⟩=>⟨by rw [e]; simp; omega,SqL.of ((s78.trans s') _ _ hph6),SqL.of ((s8.trans s') _ _ e7),SqL.of (s' _ _ e8')⟩) ?_ ?_⟩
     · rintro i x z u acc H9 H10 hx hz hu ⟨hi,s9,rfl⟩ s10
       rw [gM] at hx hz hu
       obtain ⟨b1,hb1,rfl⟩:=gO hx
       obtain ⟨b2,hb2,rfl⟩:=gO hz
       obtain ⟨la,hla',rfl⟩:=gO hu
       have hi':i<xs.length:=by rw [← lal]; exact (gS hla').1
       obtain ⟨sy,hsy⟩:∃ sy,(saO xs (itQ xs S n) (qs xs))[i]?=some sy:=⟨_,gE (by rw [ah7 hSn.1 (au3 xs)]; exact hi')⟩
       have s810:=s9.trans s10
       have hlv:=s810 _ _ (hla.2 i la sy hla' hsy)
       have eh:hdI xs S i (n+1)=(b1 || (b2 || decide (0<sy.length))):=by
        rw [bd6 hi'] at hb1
        rw [show hdI xs S i (n+1)=(hdI xs S i n || ldQ xs (itQ xs S n) i) from rfl,Option.some.inj hb1]
        unfold ldQ saQ
        rw [List.getD_eq_getElem?_getD,List.getD_eq_getElem?_getD,hb2,hsy]
        rfl
       have htk:((hdL xs S (n+1)).take (i+1)).map V.bl=((hdL xs S (n+1)).take i).map V.bl++[V.bl (hdI xs S i (n+1))]:=by rw [List.take_add_one,bd6 hi',List.map_append]; rfl
       rw [htk,eh]
       walk_at "r"
       cases b1
       · rw [if_neg (by simp)]
         walk_at "r"
         cases b2
         · rw [if_neg (by simp)]
           walk_at "r"
           refine aa4 (SqL.of hlv) ?_
           walk_at "r"
           refine ⟨hi',s810,?_⟩
           simp [strsV]
         · rw [if_pos rfl]
           exact ⟨hi',s810,by simp⟩
       · rw [if_pos rfl]
         exact ⟨hi',s810,by simp⟩
     rintro acc H9 ⟨_,s9,rfl⟩ ph10 H10 f10 s10 e10
     rw [gL,List.take_of_length_le (by omega)] at e10
     walk_at "r"
     have s810:=s9.trans s10
     refine a72 (SqT.of (s810 _ _ e8)) (a05 (j:=1) rfl) ?_
     walk_at "r"
     rw [hW]
     exact ⟨n+1,rfl,by omega,hfr1,s6.trans (s78.trans s810),ab2 hd6 (s78.trans s810),st8,ph10,stv8,_,_,s810 _ _ hst8,hS8.mono fun v x h=>h.tups s810.tups,e10,rfl⟩
   · obtain ⟨A,hA1,hA2⟩:∃ A,A<n∧itQ xs S A=itQ xs S n:=by
      apply Classical.byContradiction
      intro hc
      exact hlt fun m hm z=>hc ⟨m,hm,z⟩
     have hF:Fst xs S n A:=⟨hA1,hA2,hfr⟩
     have hv:valV (kvQ xs S n) (stTr (itQ xs S n))=some (.int (A:Nat)):=by rw [← hA2]; exact bn0 hfr hA1
     rw [hv]
     refine ⟨false,rfl,?_⟩
     rw [if_neg (by simp)]
     walk_at "r"
     refine ⟨d,_,stTr (itQ xs S n),_,rfl,hd',au4 hst' hS',hv,?_⟩
     walk_at "r"
     have s0':=(s1.trans s2).trans s'
     have hdl:=ax8 xs S n
     refine ⟨⟨_,SqL.of hph'⟩,bp6 (K:=K) (xs:=(hdL xs S n).map V.bl) (le_line (by simp; omega)) (fun i acc H''=>i≤xs.length∧Same H' H''∧acc=natsV ((List.range i).filter fun i=>!hdI xs S i n)) ⟨Nat.zero_le _,Same.refl _,rfl⟩ (fun i acc H'' ⟨_,s'',e⟩=>⟨by rw [e]; have:=List.length_filter_le (fun i=>!hdI xs S i n) (List.range i); simpa [natsV] using this,SqL.of (s'' _ _ hph')⟩) ?_ ?_⟩
     · rintro i x acc H6 H7 hx ⟨hi,s6,rfl⟩ s7
       rw [gM] at hx
       obtain ⟨b,hb,rfl⟩:=gO hx
       have hi':i<xs.length:=by rw [← hdl]; exact (gS hb).1
       rw [bd6 hi'] at hb
       obtain rfl:=Option.some.inj hb
       walk_at "r"
       rw [bk3]
       cases hq:hdI xs S i n
       · rw [if_pos (show (!false)=true from rfl)]
         walk_at "r"
         exact ⟨hi',s6.trans s7,by simp [natsV]⟩
       · rw [if_neg (by simp)]
         exact ⟨hi',s6.trans s7,by simp⟩
     rintro acc H6 ⟨_,s6,rfl⟩ l H7 f7 s7 e7
     rw [gL,hdl] at e7
     walk_at "r"
     have s67:=s6.trans s7
     refine ⟨d,_,rfl,ab2 hd' s67,?_⟩
     rw [aq1]
     walk_at "r"
     intro r H8 f8 s8 e8
     rw [show ((n:Nat):Int) - (A:Nat)=((n - A:Nat):Int) by omega] at e8
     exact q _ A (n - A) (.inl ⟨n,A,hn2,hF,rfl⟩) r l H8 (s0'.trans (s67.trans s8)) ((s0'.trans s6).free f7) e8 (s8 _ _ e7)
noncomputable def stT (xs:List Tab) (Os:List (List Ev)):Nat→Std
 | 0=>begS xs
 | n+1=>nxO xs (stT xs Os n) (Os.getD n [])
abbrev Res:=Option (Option (Nat×Nat))
def Qt (xs:List Tab) (S:Std):Prop:=∃ A R,Due xs S (some ([],A,R))
def Fall (xs:List Tab) (Os:List (List Ev)) (r:Res):Prop:=∃ g,g≤Os.length∧(∀ t,t<g→Qt xs (stT xs Os t)) ∧
 ((Due xs (stT xs Os g) none∧r=none)∨(∃ l ls A R,Due xs (stT xs Os g) (some (l::ls,A,R))∧r=some (some (g,l)))∨(g=Os.length∧Qt xs (stT xs Os g)∧r=some none))
theorem Fall.lt {xs:List Tab}{Os:List (List Ev)}{r r':Res}{g g':Nat}(h:(Due xs (stT xs Os g) none∧r=none)∨(∃ l ls A R,Due xs (stT xs Os g) (some (l::ls,A,R))∧r=some (some (g,l)))∨(g=Os.length∧Qt xs (stT xs Os g)∧r=some none)) (hg:g<g') (hl:g'≤Os.length) (k:∀ t,t<g'→Qt xs (stT xs Os t)):False:=by
 obtain ⟨A,R,q⟩:=k g hg
 rcases h with ⟨h,_⟩ | ⟨l,ls,A',R',h,_⟩ | ⟨h,_⟩
 · have:=h.one q
   cases this
 · have:=h.one q
   cases this
 · omega
theorem Fall.one {xs:List Tab}{Os:List (List Ev)}{r r':Res}(h:Fall xs Os r) (h':Fall xs Os r'):r=r':=by
 obtain ⟨g,g1,g2,g3⟩:=h
 obtain ⟨f,f1,f2,f3⟩:=h'
 have e:g=f:=by
  rcases Nat.lt_trichotomy g f with z | z | z
  · exact (Fall.lt (r':=r') g3 z f1 f2).elim
  · exact z
  · exact (Fall.lt (r':=r) f3 z g1 g2).elim
 subst e
 rcases g3 with ⟨h,rfl⟩ | ⟨l,ls,A,R,h,rfl⟩ | ⟨_,⟨A,R,h⟩,rfl⟩
 · rcases f3 with ⟨k,rfl⟩ | ⟨l',ls',A',R',k,rfl⟩ | ⟨_,⟨A',R',k⟩,rfl⟩
   · rfl
   · cases h.one k
   · cases h.one k
 · rcases f3 with ⟨k,rfl⟩ | ⟨l',ls',A',R',k,rfl⟩ | ⟨_,⟨A',R',k⟩,rfl⟩
   · cases h.one k
   · cases h.one k
     rfl
   · cases h.one k
 · rcases f3 with ⟨k,rfl⟩ | ⟨l',ls',A',R',k,rfl⟩ | ⟨_,⟨A',R',k⟩,rfl⟩
   · cases h.one k
   · cases h.one k
   · rfl
def ResAt (H:Hp) (v:V) (r:Res):Prop:=(r=none∧v=.str "many")∨(r=some none∧v=.non)∨∃ g l a,r=some (some (g,l))∧v=.ref a∧H a=some (.tup [.int (g:Nat),.int (l:Nat)])
theorem ResAt.same {H H':Hp}{v:V}{r:Res}(h:ResAt H v r) (s:Tups H H'):ResAt H' v r:=by
 rcases h with h | h | ⟨g,l,a,e1,e2,e3⟩
 · exact .inl h
 · exact .inr (.inl h)
 · exact .inr (.inr ⟨g,l,a,e1,e2,s _ _ e3⟩)
theorem ResAt.ne {H:Hp}{v u:V}{r:Res}(h1:ResAt H v r) (h2:ResAt H u r) {Q:VK}(q:Q (.bl false) H):rNeX v u H Q:=by
 rcases h1 with ⟨rfl,rfl⟩ | ⟨rfl,rfl⟩ | ⟨g,l,a,rfl,rfl,e⟩
 · rcases h2 with ⟨_,rfl⟩ | ⟨z,_⟩ | ⟨g',l',a',z,_⟩
   · exact .inl ⟨rfl,by rw [decide_eq_true rfl]; exact q⟩
   · cases z
   · cases z
 · rcases h2 with ⟨z,_⟩ | ⟨_,rfl⟩ | ⟨g',l',a',z,_⟩
   · cases z
   · exact .inl ⟨rfl,by rw [decide_eq_true rfl]; exact q⟩
   · cases z
 · rcases h2 with ⟨z,_⟩ | ⟨z,_⟩ | ⟨g',l',a',z,rfl,e'⟩
   · cases z
   · cases z
   · cases z
     refine .inr ⟨[.sc (.int (g:Nat)),.sc (.int (l:Nat))],[],[],?_,?_,by simp [Tw.hs,Tw.h],q⟩
     · simp only [Tw.At,Tw.Ats]
       exact ⟨a,_,rfl,e,_,_,[],[],rfl,rfl,by simp [Scal],_,_,[],[],rfl,rfl,by simp [Scal],rfl,rfl⟩
     · simp only [Tw.At,Tw.Ats]
       exact ⟨a',_,rfl,e',_,_,[],[],rfl,rfl,by simp [Scal],_,_,[],[],rfl,rfl,by simp [Scal],rfl,rfl⟩
theorem ResAt.eq {H:Hp}{v u:V}{r:Res}(h1:ResAt H v r) (h2:ResAt H u r) {Q:VK}(q:Q (.bl true) H):rEqX v u H Q:=by
 rcases h1 with ⟨rfl,rfl⟩ | ⟨rfl,rfl⟩ | ⟨g,l,a,rfl,rfl,e⟩
 · rcases h2 with ⟨_,rfl⟩ | ⟨z,_⟩ | ⟨g',l',a',z,_⟩
   · exact .inl ⟨rfl,by rw [decide_eq_true rfl]; exact q⟩
   · cases z
   · cases z
 · rcases h2 with ⟨z,_⟩ | ⟨_,rfl⟩ | ⟨g',l',a',z,_⟩
   · cases z
   · exact .inl ⟨rfl,by rw [decide_eq_true rfl]; exact q⟩
   · cases z
 · rcases h2 with ⟨z,_⟩ | ⟨z,_⟩ | ⟨g',l',a',z,rfl,e'⟩
   · cases z
   · cases z
   · cases z
     refine .inr ⟨[.sc (.int (g:Nat)),.sc (.int (l:Nat))],[],[],?_,?_,by simp [Tw.hs,Tw.h],q⟩
     · simp only [Tw.At,Tw.Ats]
       exact ⟨a,_,rfl,e,_,_,[],[],rfl,rfl,by simp [Scal],_,_,[],[],rfl,rfl,by simp [Scal],rfl,rfl⟩
     · simp only [Tw.At,Tw.Ats]
       exact ⟨a',_,rfl,e',_,_,[],[],rfl,rfl,by simp [Scal],_,_,[],[],rfl,rfl,by simp [Scal],rfl,rfl⟩
def OtAt (H:Hp) (v:V) (os:List Ev):Prop:=∃ ou ovs,v=.ref ou∧H ou=some (.lst ovs)∧Each (fun v (e:Ev)=>e.tr.At H v []) ovs os
theorem OtAt.same {H H':Hp}{v:V}{os:List Ev}(h:OtAt H v os) (s:Same H H'):OtAt H' v os:=by
 obtain ⟨ou,ovs,e1,e2,e3⟩:=h
 exact ⟨ou,ovs,e1,s _ _ e2,e3.mono fun v x h=>a78 h s.tups⟩
structure FallPre (P:Params) (C Ct:Addr) (H:Hp) (p tu:Addr) (ms:List Addr) (xs:List Tab) (Os:List (List Ev)) (uvs:List V):Prop where
 hh:HallAt C H p ms
 hM:Each (MS P Ct H) ms xs
 hn:xs.length≤100
 hok:∀ x∈xs,TOk x
 htu:H tu=some (.lst uvs)
 hO:Each (OtAt H) uvs Os
 hl:Os.length≤1000
 hol:∀ os∈Os,os.length=xs.length
theorem b08 {xs:List Tab}{Os:List (List Ev)}(hok:∀ x∈xs,TOk x) (hol:∀ os∈Os,os.length=xs.length):∀ {n:Nat},n≤Os.length→StOk xs (stT xs Os n)
 | 0,_=>bd0 hok
 | n+1,h=>bm7 hok (b08 hok hol (by omega)) (hol _ (by rw [List.getD_eq_getElem?_getD,gE (by omega)]; exact List.getElem_mem _))
def bt7 (K:W.Frag) (P:Params) (C Ct Cx:Addr):Sp:=fun vs H Q E=>∃ (p tu:Addr) (ms:List Addr) (xs:List Tab) (Os:List (List Ev)) (uvs:List V),vs=[.ref p,.ref tu]∧FallPre P C Ct H p tu ms xs Os uvs ∧
 (∀ r v H',Same H H'→Fall xs Os (some r)→ResAt H' v (some r)→Q v H') ∧
 (Fall xs Os none→∀ H',Same H H'→E (.ref Cx) none H')
theorem aq2 (T:Txt K mg t):FnOk P w K mg base (CXE P w t.c_TooMany) 5 t.a_first_fall t.fd_first_fall ["hall","turns"] (bt7 K w.params t.c_Hall t.c_TableMachine t.c_TooMany):=by
 have G_Hall_begin:=ap8 (P:=P) (w:=w) (base:=base) T
 have G_Hall_step:=ah9 (P:=P) (w:=w) (base:=base) T
 have G_still_lines:=al9 (P:=P) (w:=w) (base:=base) T
 refine T.F_first_fall.okE sc_first_fall (fun vs H Q E h=>?_) (fun cdv A outer s H vs Q E hr h=>?_)
 · obtain ⟨p,tu,ms,xs,Os,uvs,rfl,_⟩:=h
   rfl
 · obtain ⟨p,tu,ms,xs,Os,uvs,rfl,⟨hh,hM,hn,hok,htu,hO,hl,hol⟩,q,qe⟩:=h
   refine ⟨_,(@a03 _ _ _ _ _ (@a36 _ _ 2 _ _ _ _ sc_first_fall.nd rfl (by walk_at "o") (@a40 _ _ _ _ _ _ _ (a38 K) (ay2 (pv 0) T.cl_Hall T.M_Hall_begin G_Hall_begin (hr.mono (by omega)) T.b_Hall_begin .nil a61) (@a04 _ _ _ _) (fun _ _=>rfl)) (by rfl) (by walk_at "o"))
    (@a03 _ _ _ _ _ (@a36 _ _ 3 _ _ _ _ sc_first_fall.nd rfl (by walk_at "o") (@a40 _ _ _ _ _ _ _ (a38 K) (@a32 _ _ _ _ _ _ _ _ _ _ _ _ _ _ _ _ G_still_lines (hr.mono (by omega)) rfl T.m_still_lines T.F_still_lines.kp T.b_still_lines .nil bb5 (@a00 _ _ _ _ _ (pv 0) (@a00 _ _ _ _ _ (pv 2) (@a01 _) (by rfl)) (by rfl)) (by decide) (by rfl) (by rfl)) (@a04 _ _ _ _) (fun _ _=>rfl)) (by rfl) (by walk_at "o"))
    (@a03 _ _ _ _ _ (@a36 _ _ 4 _ _ _ _ sc_first_fall.nd rfl (by walk_at "o") (@a04 _ _ _ _) (by rfl) (by walk_at "o"))
    (@a03 _ _ _ _ _ (@ao4 _ _ _ _ _ _ PassesOwn.leaving (@PW.pt _ _ _ (@aj5 _ _ _ _ _ _ _ (@a53 _ _ _ _ _ _ _ _ ai0 (@a45 _ _ _ _ _ _ _ _ _ (a83 K) (by rfl) T.z_len a87 (@a00 _ _ _ _ _ (pv 3) (@a01 _) (by rfl)) (by decide) (by decide) (by rfl) (by rfl)) (@a04 _ _ _ _) (nomark _)) (@ag8 _ _ _ _ (@a53 _ _ _ _ _ _ _ _ aq9 (pv 4) (@a45 _ _ _ _ _ _ _ _ _ (a83 K) (by rfl) T.z_len a87 (@a00 _ _ _ _ _ (pv 1) (@a01 _) (by rfl)) (by decide) (by decide) (by rfl) (by rfl)) (nomark _))))) (@a03 _ _ _ _ _ (@a36 _ _ 2 _ _ _ _ sc_first_fall.nd rfl (by walk_at "o") (@a40 _ _ _ _ _ _ _ (a38 K) (aj7 (pv 0) T.cl_Hall T.M_Hall_step G_Hall_step (hr.mono (by omega)) T.b_Hall_step .nil a61 (@a00 _ _ _ _ _ (pv 2) (@a00 _ _ _ _ _ (@a40 _ _ _ _ _ _ _ (a35 K) (pv 1) (pv 4) (fun _ _=>rfl)) (@a01 _) (by rfl)) (by rfl))) (@a04 _ _ _ _) (fun _ _=>rfl)) (by rfl) (by walk_at "o"))
     (@a03 _ _ _ _ _ (@a36 _ _ 3 _ _ _ _ sc_first_fall.nd rfl (by walk_at "o") (@a40 _ _ _ _ _ _ _ (a38 K) (@a32 _ _ _ _ _ _ _ _ _ _ _ _ _ _ _ _ G_still_lines (hr.mono (by omega)) rfl T.m_still_lines T.F_still_lines.kp T.b_still_lines .nil bb5 (@a00 _ _ _ _ _ (pv 0) (@a00 _ _ _ _ _ (pv 2) (@a01 _) (by rfl)) (by rfl)) (by decide) (by rfl) (by rfl)) (@a04 _ _ _ _) (fun _ _=>rfl)) (by rfl) (by walk_at "o"))
     (@a07 _ _ _ (@bv2 _ _ 4 _ _ _ _ _ _ sc_first_fall.nd rfl (by walk_at "o") (@a04 _ _ _ _) bv3 (by walk_at "o"))))))
    (@a07 _ _ _ (@a52 _ _ _ _ (@ao3 _ _ _ _ _ _ _ _ (@a53 _ _ _ _ _ _ _ _ bo1 (@a45 _ _ _ _ _ _ _ _ _ (a83 K) (by rfl) T.z_len a87 (@a00 _ _ _ _ _ (pv 3) (@a01 _) (by rfl)) (by decide) (by decide) (by rfl) (by rfl)) (@a04 _ _ _ _) (nomark _)) (@a34 _ _ _ _ _ (@a00 _ _ _ _ _ (pv 4) (@a00 _ _ _ _ _ (@a40 _ _ _ _ _ _ _ (a35 K) (pv 3) (@a04 _ _ _ _) (fun _ _=>rfl)) (@a01 _) (by rfl)) (by rfl))) (@ay1 _ _ _)))))))),?_⟩
   have sl:(1000000:Nat)≤sizeLine:=le_line (Nat.le_refl _)
   have ul:=hO.len
   walk_at "go"
   obtain ⟨dx,l1,l2,g1,_⟩:=hh.ex
   refine ⟨p,dx,_,rfl,g1,bj3 _ _ (by decide +kernel) (by decide +kernel),?_⟩
   walk_at "r"
   refine bk1 hh hM hn hok fun f1 fs1 st1 ls1 H1 s1 hF1=>?_
   obtain ⟨stv1,g1,_,_,hst1,hS1⟩:=hF1.ex
   walk_at "r"
   refine a72 (SqT.of g1) (a05 (j:=1) rfl) ?_
   walk_at "r"
   refine ⟨p,st1,ms,xs,begS xs,stv1,rfl,⟨hh.same s1,hM.mono fun m x h=>h.same s1,hn,hok,bd0 hok,hst1,hS1⟩,fun ks A' R hd r l H2 s2 fl e1 e2=>?_,fun hd H2 s2=>qe ⟨0,Nat.zero_le _,fun t ht=>absurd ht (Nat.not_lt_zero _),.inl ⟨hd,rfl⟩⟩ H2 (s1.trans s2)⟩
   walk_at "r"
   refine a72 (SqT.of e1) (a05 (j:=0) rfl) ?_
   walk_at "r"
   have s02:=s1.trans s2
   obtain ⟨W,hW⟩:∃ W:Nat→St→Hp→Prop,W=(fun m σ H'=>∃ n:Nat,m=Os.length - n∧n≤Os.length∧Same H H'∧(∀ t,t<n→Qt xs (stT xs Os t))∧∃ (st l:Addr) (stv:List V) (ks:List Nat) (A R:Nat),Due xs (stT xs Os n) (some (ks,A,R))∧H' st=some (.tup stv)∧Each (StdAt H') stv (stT xs Os n)∧H' l=some (.lst (natsV ks))∧σ=[some (.ref p),some (.ref tu),some (.ref st),some (.ref l),some (.int (n:Nat))]):=⟨_,rfl⟩
   refine aw2 W Os.length ?_ ?_
   · rw [hW]
     exact ⟨0,rfl,Nat.zero_le _,s02,fun t ht=>absurd ht (Nat.not_lt_zero _),st1,l,stv1,ks,A',R,hd,s2 _ _ hst1,hS1.mono fun v x h=>h.tups s2.tups,e2,rfl⟩
   intro m σ H' hI
   rw [hW] at hI
   obtain ⟨n,rfl,hn1,s',hq,st,l,stv,ks,A2,R2,hd2,hst,hSt,hls,rfl⟩:=hI
   walk_at "r"
   refine aa4 (SqL.of hls) ?_
   rw [a46]
   walk_at "r"
   cases ks with
   | cons k0 kr =>
     rw [if_neg (by simp; omega)]
     walk_at "r"
     refine aa4 (SqL.of hls) ?_
     rw [a46]
     walk_at "r"
     rw [if_pos (decide_eq_true (by simp <;> omega))]
     walk_at "r"
     refine a86 (SqL.of hls) (a05 (j:=0) (v:=.int (k0:Nat)) rfl) ?_
     walk_at "r"
     intro r9 H9 f9 s9 e9
     exact q (some (n,k0)) _ H9 (s'.trans s9) ⟨n,hn1,hq,.inr (.inl ⟨k0,kr,A2,R2,hd2,rfl⟩)⟩ (.inr (.inr ⟨n,k0,r9,rfl,rfl,e9⟩))
   | nil =>
     rw [if_pos (by simp)]
     walk_at "r"
     refine aa4 (SqL.of (s' _ _ htu)) ?_
     rw [ul]
     walk_at "r"
     by_cases hlt:n<Os.length
     · rw [if_pos (decide_eq_true (by omega))]
       refine ⟨fun σ' H''=>W (Os.length - (n+1)) σ' H'',fun σ' H'' h=>⟨_,by omega,h⟩,?_⟩
       obtain ⟨os,hos⟩:∃ os,Os[n]?=some os:=⟨_,gE hlt⟩
       obtain ⟨uv,huv,ou,ovs,rfl,hou,hov⟩:=Each.get (hO.mono fun v x h=>h.same s') hos
       have hosl:=hol os (gI hos)
       have hSo:=b08 hok hol (n:=n) (by omega)
       have eN:stT xs Os (n+1)=nxO xs (stT xs Os n) os:=by
        show nxO _ _ (Os.getD n [])=_
        rw [List.getD_eq_getElem?_getD,hos]
        rfl
       walk_at "r"
       obtain ⟨dx,l1,l2,g1,_⟩:=(hh.same s').ex
       refine ⟨p,dx,_,rfl,g1,bj3 _ _ (by decide +kernel) (by decide +kernel),?_⟩
       walk_at "r"
       refine a86 (SqL.of (s' _ _ htu)) (a05 (j:=n) huv) ?_
       walk_at "r"
       refine au5 (os:=os) (hh.same s') (hM.mono fun m x h=>h.same s') hn hok hSo hst hSt hou (hov.mono fun v x h=>⟨h.toK K,fun _=>h⟩) hosl fun f3 fs3 st3 ls3 H3 s3 hF3=>?_
       obtain ⟨stv3,g1,_,_,hst3,hS3⟩:=hF3.ex
       rw [← eN] at hS3
       walk_at "r"
       refine a72 (SqT.of g1) (a05 (j:=1) rfl) ?_
       walk_at "r"
       have s03:=s'.trans s3
       have hq1:∀ t,t<n+1→Qt xs (stT xs Os t):=fun t ht=>by
        by_cases e:t=n
        · rw [e]; exact ⟨A2,R2,hd2⟩
        · exact hq t (by omega)
       refine ⟨p,st3,ms,xs,stT xs Os (n+1),stv3,rfl,⟨hh.same s03,hM.mono fun m x h=>h.same s03,hn,hok,b08 hok hol hlt,hst3,hS3⟩,fun ks A' R hd r l H4 s4 fl e1 e2=>?_,fun hd H4 s4=>qe ⟨n+1,hlt,hq1,.inl ⟨hd,rfl⟩⟩ H4 (s03.trans s4)⟩
       walk_at "r"
       refine a72 (SqT.of e1) (a05 (j:=0) rfl) ?_
       walk_at "r"
       refine c00 rfl ?_
       rw [hW]
       exact ⟨n+1,rfl,hlt,s03.trans s4,hq1,st3,l,stv3,ks,A',R,hd,s4 _ _ hst3,hS3.mono fun v x h=>h.tups s4.tups,e2,rfl⟩
     · have en:n=Os.length:=by omega
       rw [if_neg (by simp; omega)]
       walk_at "r"
       refine aa4 (SqL.of hls) ?_
       rw [a46]
       walk_at "r"
       rw [if_neg (by simp)]
       walk_at "r"
       exact q none _ H' s' ⟨n,hn1,hq,.inr (.inr ⟨en,⟨A2,R2,hd2⟩,rfl⟩)⟩ (.inr (.inl ⟨rfl,rfl⟩))
structure HandPre (H:Hp) (ra sa:Addr) (las ls:List Addr) (F:List (List Ev)) (xs:List (List Say)):Prop where
 hra:H ra=some (.lst (las.map V.ref))
 hL:LsAt H las F
 hsa:H sa=some (.lst (ls.map V.ref))
 hX:SaysAt H ls xs
 nra:ra∉las
 nsa:sa∉las
 nls:∀ l∈ls,l∉las
 hn:las.length≤100
 hF3:R3 F
 hok:∀ x∈xs,SaysOk x
structure StgPre (H:Hp) (oa ra sa:Addr) (gs:List Nat) (las ls:List Addr) (F:List (List Ev)) (xs:List (List Say)):Prop where
 hoa:H oa=some (.lst (natsV gs))
 hand:HandPre H ra sa las ls F xs
 noa:oa∉las
 hgl:gs.length=las.length
def c48 (K:W.Frag):Sp:=fun vs H Q _=>∃ (oa ra sa:Addr) (gs:List Nat) (las ls:List Addr) (F:List (List Ev)) (xs:List (List Say)),vs=[.ref oa,.ref ra,.ref sa]∧StgPre H oa ra sa gs las ls F xs∧∀ st stv H',OthA las H H'→H' st=some (.tup stv)→Each (StdAt H') stv (gs.zip (stlA F xs))→Q (.ref st) H'
theorem ad0 (T:Txt K mg t):FnOk P w K mg base CX0 1 t.a__law_standing t.fd__law_standing ["rooms","rows","talks"] (c48 K):=by
 refine T.F__law_standing.ok sc_law_standing (fun vs H Q E h=>?_) (fun cdv A outer s H vs Q E hr h=>?_)
 · obtain ⟨oa,ra,sa,gs,las,ls,F,xs,rfl,_⟩:=h
   rfl
 · obtain ⟨oa,ra,sa,gs,las,ls,F,xs,rfl,⟨hoa,⟨hra,hL,hsa,hX,nra,nsa,nls,hn,hF3,hok⟩,noa,hgl⟩,q⟩:=h
   refine ⟨_,(@a03 _ _ _ _ _ (@aa9 _ _ _ _ _ _ _ _ PassesOwn.never rfl (a48 K (pv 2)) (a08 (i:=3) sc_law_standing.nd rfl (by walk_at "o")) (@a07 _ _ _ (@aa9 _ _ _ _ _ _ _ _ PassesOwn.never rfl (a48 K (pv 3)) (a08 (i:=4) sc_law_standing.nd rfl (by walk_at "o")) (@a07 _ _ _ (@ab1 _ _ _ _ _ _ _ _ (@PW.pt _ _ _ (@aj5 _ _ _ _ _ _ _ (@a53 _ _ _ _ _ _ _ _ bx6 (@a51 _ _ _ _) (pv 4) (by with_unfolding_all rfl)) (@aj5 _ _ _ _ _ _ _ (@a53 _ _ _ _ _ _ _ _ aq9 (@a37 _ _ _ _ _ _ _ _ _ ak7 (by rfl) T.z_int af4 (@a00 _ _ _ _ _ (@a40 _ _ _ _ _ _ _ (av9 K) (pv 4) (@a04 _ _ _ _) (fun _ _=>rfl)) (@a01 _) (by rfl)) (by decide) (by decide) (by rfl) (by rfl)) (@a45 _ _ _ _ _ _ _ _ _ (a83 K) (by rfl) T.z_len a87 (@a00 _ _ _ _ _ (pv 1) (@a01 _) (by rfl)) (by decide) (by decide) (by rfl) (by rfl)) (nomark _)) (@ag8 _ _ _ _ (@a53 _ _ _ _ _ _ _ _ aq9 (@a45 _ _ _ _ _ _ _ _ _ (a83 K) (by rfl) T.z_len a87 (@a00 _ _ _ _ _ (@a40 _ _ _ _ _ _ _ (a35 K) (pv 1) (@a37 _ _ _ _ _ _ _ _ _ ak7 (by rfl) T.z_int af4 (@a00 _ _ _ _ _ (@a40 _ _ _ _ _ _ _ (av9 K) (pv 4) (@a04 _ _ _ _) (fun _ _=>rfl)) (@a01 _) (by rfl)) (by decide) (by decide) (by rfl) (by rfl)) (fun _ _=>rfl)) (@a01 _) (by rfl)) (by decide) (by decide) (by rfl) (by rfl)) (@a04 _ _ _ _) (nomark _)))))) (@a07 _ _ _ (@aa5 _ _ _ _ (@ab0 _ K _ _ _ _ _ _ _ _ _ _ _ PySem.F.plainAttrs_list PySem.F.slot_list_append PySem.F.type_list_append a84 (@a40 _ _ _ _ _ _ _ (a35 K) (pv 1) (@a37 _ _ _ _ _ _ _ _ _ ak7 (by rfl) T.z_int af4 (@a00 _ _ _ _ _ (@a40 _ _ _ _ _ _ _ (av9 K) (pv 4) (@a04 _ _ _ _) (fun _ _=>rfl)) (@a01 _) (by rfl)) (by decide) (by decide) (by rfl) (by rfl)) (fun _ _=>rfl)) (@a00 _ _ _ _ _ (@a34 _ _ _ _ _ (@a00 _ _ _ _ _ (@a51 _ _ _ _) (@a00 _ _ _ _ _ (@ab5 _ _ _ _ _ _ _ _ _ _ br4 (pv 4) (@ae2 _ _ _ (@a04 _ _ _ _)) (@ae1 _)) (@a01 _) (by rfl)) (by rfl))) (@a01 _) (by rfl)) (by rfl) (by rfl) (by rfl) (by rfl) (by rfl) (by rfl)) (by rfl))) (@a68 _))) (by intro _; rfl))) (by intro _; rfl))
    (@a07 _ _ _ (@a52 _ _ _ _ (@a37 _ _ _ _ _ _ _ _ _ (ak0 K) (by rfl) T.z_tuple af5 (@a00 _ _ _ _ _ (ab6 (Nt:=["room","row"]) (Nf:=[]) (caps:=[]) rfl (a50 (sc:=defScope a55) rfl rfl (by decide +kernel) (by decide +kernel) (by decide +kernel) rfl (by decide +kernel)) (bl9 K rfl T.z_zip (@a00 _ _ _ _ _ (pv 0) (@a00 _ _ _ _ _ (pv 1) (@a01 _) (by rfl)) (by rfl))) (fun _ _ _ _ _=>(aa6 K (n:=2) rfl (a41 (a08 (i:=0) (show (["room","row"]:List Str).Nodup by decide +kernel) rfl (by walk_at "o")) (a41 (a08 (i:=1) (show (["room","row"]:List Str).Nodup by decide +kernel) rfl (by walk_at "o")) (@a99 _))))) (fun _ _ _ _ _=>(@a59 _)) (fun _ _ _ _ _=>(@a34 _ _ _ _ _ (@a00 _ _ _ _ _ (pv 0) (@a00 _ _ _ _ _ (@a37 _ _ _ _ _ _ _ _ _ (ak0 K) (by rfl) T.z_tuple af5 (@a00 _ _ _ _ _ (pv 1) (@a01 _) (by rfl)) (by decide) (by decide) (by rfl) (by rfl)) (@a01 _) (by rfl)) (by rfl))))) (@a01 _) (by rfl)) (by decide) (by decide) (by rfl) (by rfl))))),?_⟩
   have sl:(1000000:Nat)≤sizeLine:=le_line (Nat.le_refl _)
   have xl:=hX.len
   have fl:=hL.at_.len
   walk_at "go"
   obtain ⟨Pv,hPv⟩:∃ Pv:Nat→St→Hp→Prop,Pv=(fun i σ H'=>i≤ls.length∧OthA las H H'∧LsAt H' las (stlA F (xs.take i))∧∃ y1 y2,σ=[some (.ref oa),some (.ref ra),some (.ref sa),y1,y2]):=⟨_,rfl⟩
   refine ⟨⟨_,SqL.of hsa⟩,ae8 (K:=K) (a:=sa) (xs:=ls.map V.ref) Pv (by rw [hPv]; exact ⟨Nat.zero_le _,OthA.refl,hL,_,_,rfl⟩) (fun i σ H' _ h=>by rw [hPv] at h; exact SqL.of (h.2.1 _ _ nsa hsa)) ?_ ?_⟩
   · intro i v σ H3 hv hI
     rw [hPv] at hI
     obtain ⟨hi,o3,hL3,y1,y2,rfl⟩:=hI
     rw [gM] at hv
     obtain ⟨lx,hlx,rfl⟩:=gO hv
     have hi':i<ls.length:=(gS hlx).1
     have hxi:xs[i]?=some (xs[i]'(by omega)):=gE (by omega)
     have hlist:=hX.2 i lx _ hlx hxi
     have nlx:=nls lx (gI hlx)
     obtain ⟨ok1,ok2⟩:=hok _ (gI hxi)
     have htk:xs.take (i+1)=xs.take i++[xs[i]'(by omega)]:=by rw [List.take_add_one,hxi]; rfl
     have htk':stlA F (xs.take (i+1))=stlS (stlA F (xs.take i)) (xs[i]'(by omega)):=by rw [htk,at8]
     clear htk
     have h3A:R3 (stlA F (xs.take i)):=al1 _ hF3
     have lA:(stlA F (xs.take i)).length=las.length:=by rw [ac0,fl]
     generalize stlA F (xs.take i)=F1 at hL3 lA h3A htk'
     generalize xs[i]'(by omega)=x at hlist ok1 ok2 htk'
     walk_at "r"
     obtain ⟨Pw,hPw⟩:∃ Pw:Nat→St→Hp→Prop,Pw=(fun j σ H'=>j≤x.length∧OthA las H H'∧LsAt H' las (stlS F1 (x.take j))∧∃ y2,σ=[some (.ref oa),some (.ref ra),some (.ref sa),some (.ref lx),y2]):=⟨_,rfl⟩
     refine ⟨⟨_,SqL.of (o3 _ _ nlx hlist)⟩,ae8 (K:=K) (a:=lx) (xs:=strsV (x.map sayT)) Pw (by rw [hPw]; exact ⟨Nat.zero_le _,o3,hL3,_,rfl⟩) (fun j σ H' _ h=>by rw [hPw] at h; exact SqL.of (h.2.1 _ _ nlx hlist)) ?_ ?_⟩
     · intro j v σ H4 hv hI
       rw [hPw] at hI
       obtain ⟨hj,o4,hL4,z2,rfl⟩:=hI
       obtain ⟨tx,htx,rfl⟩:=al3 hv
       rw [gM] at htx
       obtain ⟨y,hy,rfl⟩:=gO htx
       have hj':j<x.length:=(gS hy).1
       obtain ⟨ow,ol⟩:=ok2 y (gI hy)
       have htk2:x.take (j+1)=x.take j++[y]:=by rw [List.take_add_one,hy]; rfl
       have h3B:R3 (stlS F1 (x.take j)):=ap7 _ h3A
       have lB:(stlS F1 (x.take j)).length=las.length:=by rw [ai9,lA]
       have htk3:stlS F1 (x.take (j+1))=stl (stlS F1 (x.take j)) y:=by rw [htk2,at7]
       generalize stlS F1 (x.take j)=F2 at hL4 lB h3B htk3
       have hra4:=o4 _ _ nra hra
       obtain ⟨yl,yw⟩:=y
       walk_at "r"
       cases yl with
       | none =>
         rw [show sayT (none,yw)=yw from rfl,c93 yw ow]
         refine bg3 ?_
         walk_at "r"
         rw [hPw]
         show _∧_
         rw [htk3]
         exact ⟨hj',o4,hL4,_,rfl⟩
       | some l =>
         have hl7:=ol l rfl
         have hlen:=bm5 l hl7 yw ow
         obtain ⟨ch,hch,hint⟩:=c94 l hl7 yw ow
         have hsayT:sayT (some l,yw)=figS l++Str.ofString ":"++yw:=rfl
         rw [hsayT,c92 l hl7 yw ow]
         refine bg2 ?_
         walk_at "r"
         refine bp3 (by omega) (a05 (j:=0) hch) ?_
         walk_at "r"
         refine ⟨_,(l:Int),rfl,hint,by show (1:Nat)≤_; omega,?_⟩
         walk_at "r"
         refine aa4 (SqL.of hra4) ?_
         walk_at "r"
         rw [gL]
         by_cases hc:l<las.length
         · refine as0 (by omega) ?_
           walk_at "r"
           refine bp3 (by omega) (a05 (j:=0) hch) ?_
           walk_at "r"
           refine ⟨_,(l:Int),rfl,hint,by show (1:Nat)≤_; omega,?_⟩
           walk_at "r"
           obtain ⟨la,us,hla,hlm,hu1,hu2,hul⟩:=hL4.get (l:=l) (by omega)
           refine a86 (SqL.of hra4) (a05 (j:=l) (by rw [gM,hla]; rfl)) ?_
           walk_at "r"
           refine aa4 (SqL.of hu1) ?_
           walk_at "r"
           rw [hul]
           have hset:stl F2 (some l,yw)=F2.set l (pb (F2.getD l []) (.word yw)):=by
            unfold stl
            exact if_pos (by omega)
           by_cases h3:(F2.getD l []).length<3
           · refine as0 (by omega) ?_
             walk_at "r"
             refine bp3 (by omega) (a05 (j:=0) hch) ?_
             walk_at "r"
             refine ⟨_,(l:Int),rfl,hint,by show (1:Nat)≤_; omega,?_⟩
             walk_at "r"
             refine a86 (SqL.of hra4) (a05 (j:=l) (by rw [gM,hla]; rfl)) ?_
             walk_at "r"
             refine af7 (SqL.of hu1) ?_
             walk_at "r"
             refine c90 (by omega) ?_
             rw [c95 l hl7 yw ow]
             walk_at "r"
             intro pt H6 f6 s6 e6
             walk_at "r"
             refine a96 (s6 _ _ hu1) (by omega) ?_
             rw [hPw]
             show _∧_
             rw [htk3]
             refine ⟨hj',o4.trans ((au2 s6).trans (bt5 hlm)),?_,_,rfl⟩
             rw [hset]
             unfold pb
             rw [if_pos h3]
             refine (hL4.same s6).set hla (s6 _ _ hu1) ?_
             rw [List.map_append]
             exact (a62 hu2 s6.tups).snoc (w_at e6)
           · refine as1 (by omega) ?_
             walk_at "r"
             rw [hPw]
             show _∧_
             rw [htk3]
             refine ⟨hj',o4,?_,_,rfl⟩
             rw [hset]
             unfold pb
             rw [if_neg h3]
             have:F2.set l (F2.getD l [])=F2:=by
              apply List.ext_getElem?
              intro k
              rw [List.getElem?_set]
              split
              · next e=>subst e; split <;> simp_all
              · rfl
             rw [this]
             exact hL4
         · refine as1 (by omega) ?_
           walk_at "r"
           rw [hPw]
           show _∧_
           rw [htk3]
           refine ⟨hj',o4,?_,_,rfl⟩
           rw [show stl F2 (some l,yw)=F2 by unfold stl; exact if_neg (by omega)]
           exact hL4
     · intro σ H4 hI
       rw [hPw] at hI
       obtain ⟨_,o4,hL4,z2,rfl⟩:=hI
       rw [show (strsV (x.map sayT)).length=x.length by simp [strsV],List.take_length] at hL4
       walk_at "r"
       rw [hPv]
       show _∧_
       rw [htk']
       exact ⟨hi',o4,hL4,_,_,rfl⟩
   · intro σ H3 hI
     rw [hPv] at hI
     obtain ⟨_,o3,hL3,y1,y2,rfl⟩:=hI
     rw [gL,xl,List.take_length] at hL3
     walk_at "r"
     have hoa3:=o3 _ _ noa hoa
     have hra3:=o3 _ _ nra hra
     have lF:(stlA F xs).length=las.length:=by rw [ac0,fl]
     generalize stlA F xs=F9 at hL3 lF q
     refine ⟨oa,ra,rfl,⟨_,SqL.of hoa3⟩,⟨_,SqL.of hra3⟩,bm1 (xs:=natsV gs) (ys:=las.map V.ref) (by rw [a46,gL]; omega) (le_line (by rw [a46]; omega)) (fun i acc H'=>i≤gs.length∧Same H3 H'∧Each (StdAt H') acc ((gs.zip F9).take i)) ⟨Nat.zero_le _,Same.refl _,.nil⟩ (fun i acc H' ⟨hi,s',he⟩=>⟨by rw [he.len,List.length_take]; omega,SqL.of (s' _ _ hoa3),SqL.of (s' _ _ hra3)⟩) ?_ ?_⟩
     · rintro i v rv acc H4 H5 hv hrv ⟨hi,s4,he⟩ s45
       obtain ⟨g,hg,rfl⟩:=ag6 hv
       rw [gM] at hrv
       obtain ⟨la,hla,rfl⟩:=gO hrv
       have hi':i<gs.length:=(gS hg).1
       obtain ⟨fr,hf⟩:∃ fr,F9[i]?=some fr:=⟨_,gE (by omega)⟩
       have s05:=s4.trans s45
       obtain ⟨us,hu1,hu2⟩:=(hL3.same s05).at_.2 i la _ hla hf
       walk_at "r"
       refine ap0 (SqL.of hu1) ?_
       intro p6 H6 f6 s6 e6
       walk_at "r"
       intro p7 H7 f7 s7 e7
       have s67:=s6.trans s7
       refine ⟨hi',s05.trans s67,?_⟩
       have hz:(gs.zip F9)[i]?=some (g,fr):=by rw [List.getElem?_zip_eq_some]; exact ⟨hg,hf⟩
       rw [List.take_add_one,hz]
       exact (he.mono fun v x h=>h.tups (s45.trans s67).tups).snoc ⟨p7,.ref p6,rfl,e7,p6,us,rfl,s7 _ _ e6,a62 hu2 s67.tups⟩
     rintro acc H4 ⟨_,s4,he⟩ p5 H5 f5 s5 e5
     rw [a46,List.take_of_length_le (by simp; omega)] at he
     walk_at "r"
     refine ap0 (SqL.of e5) ?_
     intro p6 H6 f6 s6 e6
     have s36:=s4.trans (s5.trans s6)
     exact q p6 acc H6 (o3.trans (au2 s36)) e6 (he.mono fun v x h=>h.tups (s5.trans s6).tups)
theorem andH {c:Bool}{tb:TE}{σ:St} {H1:Hp}{C:VK}(Ok:V→Hp→Prop) (h:∀ v H,Ok v H→C v H) (h1:c=true→∀ C':VK,(∀ v H,Ok v H→C' v H)→tb σ H1 C') (h2:c=false→Ok (.bl false) H1):if c=true then tb σ H1 C else C (.bl false) H1:=by
 cases c
 · rw [if_neg (by simp)]
   exact h _ _ (h2 rfl)
 · rw [if_pos rfl]
   exact h1 rfl C h
theorem LsAt.upd {H:Hp}{las:List Addr}{F:List (List Ev)}{p:Addr}{xs ys:List V}(h:LsAt H las F) (hp:H p=some (.lst xs)) (hn:p∉las):LsAt (upd H p (.lst ys)) las F:=⟨h.nd,h.at_.1,fun j la ws h1 h2=>by
 obtain ⟨us,a,b⟩:=h.at_.2 j la ws h1 h2
 exact ⟨us,by rw [a09 (c44 hn (gI h1)).symm]; exact a,a62 b (Tups.upd hp)⟩⟩
theorem LsAt.snoc {H0 H:Hp}{las:List Addr}{F:List (List Ev)}{la:Addr}{us:List V}{ws:List Ev}(h:LsAt H0 las F) (s:Same H0 H) (f:H0 la=none) (e:H la=some (.lst us)) (hu:Tr.Ats H (ws.map Ev.tr) us []):LsAt H (las++[la]) (F++[ws]):=by
 refine ⟨List.nodup_append.mpr ⟨h.nd,by simp,fun a ha b hb z=>?_⟩,Each.snoc (h.same s).at_ ⟨us,e,hu⟩⟩
 rw [gG hb] at z
 subst z
 obtain ⟨j,hj,rfl⟩:=List.mem_iff_getElem.mp ha
 have hl:=h.at_.1
 obtain ⟨us',h1,_⟩:=h.at_.2 j _ (F[j]'(by omega)) (gE hj) (gE (by omega))
 rw [h1] at f
 cases f
def Ev.trs:Ev→List Tr
 | .quiet=>[.str "quiet"]
 | .key k=>[.str "key",.int (k:Nat)]
 | .word w=>[.str "word",.str w]
theorem Ev.tr_trs (e:Ev):e.tr=.tup e.trs:=by cases e <;> rfl
theorem b09 {r:List Ev}{o:Ev}(h:o≠.quiet):inRow r o=pb r o:=by
 cases o with
 | quiet=>exact absurd rfl h
 | key k=>rfl
 | word w=>rfl
structure TrnPre (H:Hp) (ta st ou:Addr) (tvs stv ovs:List V) (xs:List Tab) (S:Std) (os:List Ev):Prop where
 hta:H ta=some (.lst tvs)
 hT:Each (TabW H) tvs xs
 hok:∀ x∈xs,TOk x
 hSo:StOk xs S
 hst:H st=some (.tup stv)
 hS:Each (StdAt H) stv S
 hn:xs.length≤100
 hou:H ou=some (.lst ovs)
 hO:Each (fun v (e:Ev)=>e.tr.At H v []) ovs os
 hol:os.length=xs.length
def bt8 (K:W.Frag):Sp:=fun vs H Q _=>∃ (ta st ou:Addr) (tvs stv ovs:List V) (xs:List Tab) (S:Std) (os:List Ev),vs=[.ref ta,.ref st,.ref ou]∧TrnPre H ta st ou tvs stv ovs xs S os ∧
 ∀ r tk st' ls stv' H',Same H H'→H' r=some (.lst [.ref tk,.ref st'])→H' tk=some (.lst (List.map V.ref ls))→SaysAt H' ls (saO xs S os)→H' st'=some (.tup stv')→Each (StdAt H') stv' (nxO xs S os)→Q (.ref r) H'
theorem al5 (T:Txt K mg t):FnOk P w K mg base CX0 2 t.a__law_turn t.fd__law_turn ["tables","standing","outer"] (bt8 K):=by
 have G__law_place:=au1 (P:=P) (w:=w) (base:=base) T
 have G__law_standing:=ad0 (P:=P) (w:=w) (base:=base) T
 refine T.F__law_turn.ok sc_law_turn (fun vs H Q E h=>?_) (fun cdv A outer s H vs Q E hr h=>?_)
 · obtain ⟨ta,st,ou,tvs,stv,ovs,xs,S,os,rfl,_⟩:=h
   rfl
 · obtain ⟨ta,st,ou,tvs,stv,ovs,xs,S,os,rfl,⟨hta,hT,hok,hSo,hst,hS,hn,hou,hO,hol⟩,q⟩:=h
   refine ⟨_,(@a03 _ _ _ _ _ (@a36 _ _ 3 _ _ _ _ sc_law_turn.nd rfl (by walk_at "o") (@a30 _ _ _ _ (@a01 _)) (by rfl) (by walk_at "o"))
    (@a03 _ _ _ _ _ (@a36 _ _ 4 _ _ _ _ sc_law_turn.nd rfl (by walk_at "o") (@a30 _ _ _ _ (@a01 _)) (by rfl) (by walk_at "o"))
    (@a03 _ _ _ _ _ (@a36 _ _ 5 _ _ _ _ sc_law_turn.nd rfl (by walk_at "o") (@a30 _ _ _ _ (@a01 _)) (by rfl) (by walk_at "o"))
    (@a03 _ _ _ _ _ (@aa9 _ _ _ _ _ _ _ _ PassesOwn.never rfl (az5 K rfl T.z_zip (@a00 _ _ _ _ _ (pv 0) (@a00 _ _ _ _ _ (pv 1) (@a00 _ _ _ _ _ (pv 2) (@a01 _) (by rfl)) (by rfl)) (by rfl))) (aa6 K (n:=3) rfl (a41 (a08 (i:=6) sc_law_turn.nd rfl (by walk_at "o")) (a41 (aa6 K (n:=2) rfl (a41 (a08 (i:=7) sc_law_turn.nd rfl (by walk_at "o")) (a41 (a08 (i:=8) sc_law_turn.nd rfl (by walk_at "o")) (@a99 _)))) (a41 (a08 (i:=9) sc_law_turn.nd rfl (by walk_at "o")) (@a99 _))))) (@a03 _ _ _ _ _ (@a36 _ _ 8 _ _ _ _ sc_law_turn.nd rfl (by walk_at "o") (@a69 _ _ _ _ _ _ _ _ a76 (@a37 _ _ _ _ _ _ _ _ _ (a94 K) (by rfl) T.z_list a98 (@a00 _ _ _ _ _ (pv 8) (@a01 _) (by rfl)) (by decide) (by decide) (by rfl) (by rfl)) (@a69 _ _ _ _ _ _ _ _ bg6 (@a30 _ _ _ _ (@a00 _ _ _ _ _ (pv 9) (@a01 _) (by rfl))) (@a37 _ _ _ _ _ _ _ _ _ ay7 (by rfl) T.z_int af4 (@a00 _ _ _ _ _ (@bu9 _ _ _ _ _ _ _ (@ac4 _ _ _ _ _ _ _ _ (az6 K (by exact hr.units)) (pv 9) (@a34 _ _ _ _ _ (@a00 _ _ _ _ _ (@a51 _ _ _ _) (@a01 _) (by rfl))) (nomark _)) (@bl1 _ _ _ _ _ (@ac4 _ _ _ _ _ _ _ _ aq9 (@a45 _ _ _ _ _ _ _ _ _ (a83 K) (by rfl) T.z_len a87 (@a00 _ _ _ _ _ (pv 8) (@a01 _) (by rfl)) (by decide) (by decide) (by rfl) (by rfl)) (@a04 _ _ _ _) (nomark _)))) (@a01 _) (by rfl)) (by decide) (by decide) (by rfl) (by rfl)))) (by rfl) (by walk_at "o"))
     (@a03 _ _ _ _ _ (@ah8 _ _ _ _ _ _ (@a40 _ _ _ _ _ _ _ (a35 K) (@a40 _ _ _ _ _ _ _ (a38 K) (@a40 _ _ _ _ _ _ _ (a35 K) (@a40 _ _ _ _ _ _ _ (a38 K) (pv 6) (@a04 _ _ _ _) (fun _ _=>rfl)) (pv 7) (fun _ _=>rfl)) (@a04 _ _ _ _) (fun _ _=>rfl)) (@a32 _ _ _ _ _ _ _ _ _ _ _ _ _ _ _ _ G__law_place (hr.mono (by omega)) rfl T.m__law_place T.F__law_place.kp T.b__law_place .nil a61 (@a00 _ _ _ _ _ (@a40 _ _ _ _ _ _ _ (a38 K) (pv 6) (@a04 _ _ _ _) (fun _ _=>rfl)) (@a00 _ _ _ _ _ (@a40 _ _ _ _ _ _ _ (a35 K) (@a69 _ _ _ _ _ _ _ _ a76 (pv 8) (@a30 _ _ _ _ (@a00 _ _ _ _ _ (@a34 _ _ _ _ _ (@a00 _ _ _ _ _ (@a51 _ _ _ _) (@a01 _) (by rfl))) (@a01 _) (by rfl)))) (@a04 _ _ _ _) (fun _ _=>rfl)) (@a01 _) (by rfl)) (by rfl)) (by decide) (by rfl) (by rfl)) (fun _ _=>rfl)) (aa6 K (n:=2) rfl (a41 (a08 (i:=10) sc_law_turn.nd rfl (by walk_at "o")) (a41 (a08 (i:=11) sc_law_turn.nd rfl (by walk_at "o")) (@a99 _)))) (by rfl) (by rfl) (by rfl))
     (@a03 _ _ _ _ _ (@aa5 _ _ _ _ (@ab0 _ K _ _ _ _ _ _ _ _ _ _ _ PySem.F.plainAttrs_list PySem.F.slot_list_append PySem.F.type_list_append a84 (pv 3) (@a00 _ _ _ _ _ (@ab5 _ _ _ _ _ _ _ _ _ _ (af3 K) (pv 8) (@ae2 _ _ _ (@a04 _ _ _ _)) (@ae1 _)) (@a01 _) (by rfl)) (by rfl) (by rfl) (by rfl) (by rfl) (by rfl) (by rfl)) (by rfl))
     (@a03 _ _ _ _ _ (@aa5 _ _ _ _ (@ab0 _ K _ _ _ _ _ _ _ _ _ _ _ PySem.F.plainAttrs_list PySem.F.slot_list_append PySem.F.type_list_append a84 (pv 4) (@a00 _ _ _ _ _ (pv 11) (@a01 _) (by rfl)) (by rfl) (by rfl) (by rfl) (by rfl) (by rfl) (by rfl)) (by rfl))
     (@a07 _ _ _ (@aa5 _ _ _ _ (@ab0 _ K _ _ _ _ _ _ _ _ _ _ _ PySem.F.plainAttrs_list PySem.F.slot_list_append PySem.F.type_list_append a84 (pv 5) (@a00 _ _ _ _ _ (pv 10) (@a01 _) (by rfl)) (by rfl) (by rfl) (by rfl) (by rfl) (by rfl) (by rfl)) (by rfl))))))) (by intro _; rfl))
    (@a07 _ _ _ (@a52 _ _ _ _ (@a30 _ _ _ _ (@a00 _ _ _ _ _ (pv 5) (@a00 _ _ _ _ _ (@a32 _ _ _ _ _ _ _ _ _ _ _ _ _ _ _ _ G__law_standing (hr.mono (by omega)) rfl T.m__law_standing T.F__law_standing.kp T.b__law_standing .nil a61 (@a00 _ _ _ _ _ (pv 4) (@a00 _ _ _ _ _ (pv 3) (@a00 _ _ _ _ _ (pv 5) (@a01 _) (by rfl)) (by rfl)) (by rfl)) (by decide) (by rfl) (by rfl)) (@a01 _) (by rfl)) (by rfl))))))))),?_⟩
   have sl:(1000000:Nat)≤sizeLine:=le_line (Nat.le_refl _)
   have stvl:=hS.len
   have sol:=hSo.1
   have tl:=hT.len
   have ovl:=hO.len
   have pll:=ah5 hSo.1 hol
   walk_at "go"
   intro ra H1 f1 s1 e1
   walk_at "r"
   intro oa H2 f2 s2 e2
   walk_at "r"
   intro pk H3 f3 s3 e3
   walk_at "r"
   have s02:=s1.trans s2
   have s03:=s02.trans s3
   have nro:ra≠oa:=a06 e1 f2
   have nrk:ra≠pk:=a06 (s2 _ _ e1) f3
   have nok:oa≠pk:=a06 e2 f3
   have foa:H oa=none:=s1.free f2
   have fpk:H pk=none:=s02.free f3
   obtain ⟨Pv,hPv⟩:∃ Pv:Nat→St→Hp→Prop,Pv=(fun i σ H'=>i≤xs.length∧Same H H'∧(∃ las:List Addr,H' ra=some (.lst (las.map V.ref))∧LsAt H' las (((plO xs S os).map Ln.row).take i)∧(∀ la∈las,H la=none∧la≠ra∧la≠oa∧la≠pk))∧H' oa=some (.lst (natsV (((plO xs S os).map (·.y.2)).take i)))∧(∃ ls:List Addr,H' pk=some (.lst (ls.map V.ref))∧SaysAt H ls ((saO xs S os).take i))∧∃ y1 y2 y3 y4 y5 y6,σ=[some (.ref ta),some (.ref st),some (.ref ou),some (.ref ra),some (.ref oa),some (.ref pk),y1,y2,y3,y4,y5,y6]):=⟨_,rfl⟩
   refine ⟨ta,st,ou,rfl,⟨_,SqL.of (s03 _ _ hta)⟩,⟨_,SqT.of (s03 _ _ hst)⟩,⟨_,SqL.of (s03 _ _ hou)⟩,at1 (K:=K) (a:=ta) (b:=st) (c:=ou) (xs:=tvs) (ys:=stv) (us:=ovs) (by omega) (by omega) Pv (by rw [hPv]; exact ⟨Nat.zero_le _,s03,⟨[],(s2.trans s3) _ _ e1,⟨by simp,.nil⟩,by simp⟩,s3 _ _ e2,⟨[],e3,.nil⟩,_,_,_,_,_,_,rfl⟩) (fun i σ H' _ h=>by rw [hPv] at h; exact ⟨SqL.of (h.2.1 _ _ hta),SqT.of (h.2.1 _ _ hst),SqL.of (h.2.1 _ _ hou)⟩) ?_ ?_⟩
   · intro i tv sv ov σ H5 qt H6 htv hsv hov hI s56 hqt
     rw [hPv] at hI
     obtain ⟨hi,s05,⟨las,hra5,hL5,hla5⟩,hoa5,⟨ls,hpk5,hls5⟩,y1,y2,y3,y4,y5,y6,rfl⟩:=hI
     have hi':i<xs.length:=by rw [← tl]; exact (gS htv).1
     obtain ⟨x,hx⟩:∃ x,xs[i]?=some x:=⟨_,gE hi'⟩
     obtain ⟨s,hs⟩:∃ s,S[i]?=some s:=⟨_,gE (by omega)⟩
     obtain ⟨o,ho⟩:∃ o,os[i]?=some o:=⟨_,gE (by omega)⟩
     have htok:=hok x (gI hx)
     obtain ⟨hg1,hg2⟩:=hSo.2 i x s hx hs
     have hpl:=ah6 hx hs ho
     obtain ⟨_,_,hgo⟩:=b05 (o:=o) htok hg1 hg2
     have s06:=s05.trans s56
     obtain ⟨k,rv,rfl,hk,a,us,rfl,ha,hus⟩:=(hS.2 i sv s hsv hs).tups s06.tups
     have hoA:=a78 (hO.2 i ov o hov ho) s06.tups
     have usl:us.length=s.2.length:=by rw [hus.len,gL]
     have lsl:ls.length=i:=by rw [hls5.len,List.length_take,ah7 sol hol]; omega
     refine am7 (SqT.of hqt) rfl ?_
     walk_at "r"
     refine am7 (SqT.of hk) rfl ?_
     walk_at "r"
     refine ⟨a,us,rfl,.inr (SqT.of ha),?_⟩
     intro p7 H7 f7 s7 e7
     walk_at "r"
     intro p8 H8 f8 s8 e8
     walk_at "r"
     intro p9 H9 f9 s9 e9
     have s69:=s7.trans (s8.trans s9)
     have hoA9:=a78 hoA s69.tups
     have hq9:Ev.quiet.tr.At H9 (.ref p9) []:=at_tup0.mpr ⟨p9,_,rfl,e9,ats_cons0.mpr ⟨_,_,rfl,str_at0,ats_nil0.mpr rfl⟩⟩
     have oh:=o.tr_h
     have qh:=Ev.quiet.tr_h
     rw [Ev.tr_trs] at hoA9 hq9 oh qh
     refine bm2 (hoA9.toK K) (hq9.toK K) (by omega) (by omega) ?_
     refine ⟨_,rfl,andH (fun v H'=>H9=H'∧v=.bl (decide (o≠.quiet∧s.2.length<3))) ?_ (fun hc C' z=>?_) fun hc=>⟨rfl,?_⟩⟩
     rotate_left
     · walk_at "r"
       refine b92 (SqT.of (s69 _ _ ha)) ?_
       walk_at "r"
       rw [usl]
       have ho':o≠.quiet:=fun y=>by rw [y] at hc; simp at hc
       have z':=z (.bl (decide (o≠.quiet∧s.2.length<3))) H9 ⟨rfl,rfl⟩
       rw [show decide (((s.2.length:Nat):Int)<3)=decide (o≠.quiet∧s.2.length<3) from ?_]
       · exact z'
       rw [Bool.eq_iff_iff,decide_eq_true_iff,decide_eq_true_iff]
       exact ⟨fun y=>⟨ho',by omega⟩,fun y=>by omega⟩
     · have ho':o=.quiet:=Ev.tr_inj (by
        rw [Ev.tr_trs,Ev.tr_trs]
        simp only [Bool.not_eq_false',decide_eq_true_iff] at hc
        exact hc)
       rw [decide_eq_false fun y=>y.1 ho']
     rintro v _ ⟨rfl,rfl⟩
     walk_at "r"
     obtain ⟨ev,kk,hkk,hk1,hin⟩:∃ (ev:List V) (kk:Nat),(if decide (o≠.quiet∧s.2.length<3)=true then (1:Int) else 0)=(kk:Nat)∧(List.replicate kk [ov]).flatten=ev∧kk≤1∧Tr.Ats H9 ((inRow s.2 o).map Ev.tr) (us++ev) []:=by
      by_cases hc:o≠.quiet∧s.2.length<3
      · refine ⟨[ov],1,by rw [decide_eq_true hc]; rfl,rfl,Nat.le_refl _,?_⟩
        rw [b09 hc.1]
        unfold pb
        rw [if_pos hc.2,List.map_append]
        exact (a62 hus s69.tups).snoc (a78 hoA s69.tups)
      · refine ⟨[],0,by rw [decide_eq_false hc]; rfl,rfl,Nat.zero_le _,?_⟩
        rw [List.append_nil]
        have:inRow s.2 o=s.2:=by
         by_cases h1:o=.quiet
         · rw [h1]; rfl
         · rw [b09 h1]
           unfold pb
           rw [if_neg (fun y=>hc ⟨h1,y⟩)]
        rw [this]
        exact a62 hus s69.tups
     rw [hkk]
     refine ⟨p8,kk,[ov],rfl,rfl,s9 _ _ e8,by omega,by omega,by simp; omega,?_⟩
     rw [Int.toNat_natCast,hk1]
     intro p10 H10 f10 s10 e10
     have evl:(us++ev).length=(inRow s.2 o).length:=by rw [hin.2.len,gL]
     have inl:=ag5 (o:=o) hg2
     rw [List.length_append] at evl
     refine ah0 ((s8.trans (s9.trans s10)) _ _ e7) e10 (by omega) ?_
     intro p11 H11 f11 s11 e11
     walk_at "r"
     have s911:=s10.trans s11
     have hin11:=a62 hin.2 s911.tups
     have s611:=s69.trans s911
     have s011:=s06.trans s611
     have s511:=s56.trans s611
     generalize us++ev=vs at e11 hin11 hin
     obtain ⟨a1,b1,c1,gsx,htab⟩:=(hT.2 i tv x htv hx)
     obtain ⟨tt,us1,rvs0,rfl,t1,t2,t3,t4,t5,t6⟩:=htab.ex
     obtain ⟨rm,hg3⟩:∃ rm,x.rs[s.1]?=some rm:=⟨_,gE hg1⟩
     obtain ⟨rvs,q1,gl,ps,u1,u2,u3,u4,u5⟩:=b03 htab hg3
     refine a72 (SqT.of (s011 _ _ t1)) (a05 (j:=2) rfl) ?_
     walk_at "r"
     refine a86 (SqL.of (s011 _ _ u1)) (a05 (j:=s.1) u2) ?_
     walk_at "r"
     refine a72 (SqT.of (s011 _ _ u3)) (a05 (j:=1) rfl) ?_
     walk_at "r"
     refine a72 (SqT.of (s011 _ _ t1)) (a05 (j:=0) rfl) ?_
     walk_at "r"
     intro p12 H12 f12 s12 e12
     walk_at "r"
     intro p13 H13 f13 s13 e13
     have s1113:=s12.trans s13
     have vsl:vs.length≤3:=by rw [hin.2.len,gL]; exact inl
     refine ah0 (s1113 _ _ e11) e13 (by simp; omega) ?_
     intro p14 H14 f14 s14 e14
     walk_at "r"
     have s1114:=s1113.trans s14
     have s014:=s011.trans s1114
     obtain ⟨v0,hv0,hv1⟩:∃ v0,(vs++[V.ref p12])[0]?=some v0∧(evOf (inRow s.2 o)).tr.At H14 v0 []:=by
      have h14:=a62 hin11 s1114.tups
      cases hr2:inRow s.2 o with
      | nil =>
        rw [hr2] at h14
        simp only [List.map_nil,Tr.Ats] at h14
        rw [h14.1]
        exact ⟨.ref p12,rfl,at_tup0.mpr ⟨p12,_,rfl,(s13.trans s14) _ _ e12,ats_cons0.mpr ⟨_,_,rfl,str_at0,ats_nil0.mpr rfl⟩⟩⟩
      | cons e0 r0 =>
        rw [hr2] at h14
        obtain ⟨v0,us0,rfl,hv0,_⟩:=ats_cons0.mp h14
        exact ⟨v0,rfl,hv0⟩
     refine a86 (SqL.of e14) (a05 (j:=0) hv0) ?_
     walk_at "r"
     refine ⟨a1,us1,v0,x.es,evOf (inRow s.2 o),rfl,s014 _ _ t2,a62 t3 s014.tups,hv1,htok.nd,htok.ne2,htok.ne,fun j H15 hj hjl s15=>?_⟩
     obtain ⟨hrl,hrk⟩:=htok.ok _ (gI hg3)
     obtain ⟨y,hy⟩:∃ y,rm.2[j]?=some y:=⟨_,gE (by omega)⟩
     obtain ⟨k0,sl0,v1,v2,v3⟩:=u5 j _ hy
     have hGy:Goes x s.1 s.2 o y:=⟨j,_,ax4 htok.nd hj,hg3,hy⟩
     have ey:=bj8 hgo hGy
     have s015:=s014.trans s15
     have s1115:=s1114.trans s15
     have s515:=s511.trans s1115
     refine a86 (SqL.of (s015 _ _ u4)) (a05 (j:=j) v1) ?_
     walk_at "r"
     refine am7 (SqT.of (s015 _ _ v2)) rfl ?_
     walk_at "r"
     have hra15:=s515 _ _ hra5
     have lal:las.length=i:=by rw [hL5.at_.len,List.length_take,gL]; omega
     refine af7 (SqL.of hra15) ?_
     walk_at "r"
     refine b91 (SqL.of (s1115 _ _ e11)) ?_
     rw [cut1]
     intro la H16 f16 s16 e16
     walk_at "r"
     have s516:=s515.trans s16
     have s016:=s05.trans s516
     have hra16:=s16 _ _ hra15
     refine a96 hra16 (by simp; omega) ?_
     have fla:H la=none:=s015.free f16
     have nla1:la≠ra:=(a06 hra15 f16).symm
     have nla2:la≠oa:=(a06 (s515 _ _ hoa5) f16).symm
     have nla3:la≠pk:=(a06 (s515 _ _ hpk5) f16).symm
     have hLn:LsAt H16 (las++[la]) (((plO xs S os).map Ln.row).take i++[(inRow s.2 o).tail]):=LsAt.snoc (hL5.same s515) s16 f16 e16 (b00 (a62 hin11 (s1115.trans s16).tups))
     have hlaN:∀ l∈las++[la],H l=none∧l≠ra∧l≠oa∧l≠pk:=fun l hl=>by
      rcases gA hl with h | h
      · exact hla5 l h
      · rw [gG h]
        exact ⟨fla,nla1,nla2,nla3⟩
     have fra:H ra=none:=f1
     have sA:Same H (upd H16 ra (.lst (las.map V.ref++[.ref la]))):=s016.updNew fra
     have eA:upd H16 ra (.lst (las.map V.ref++[.ref la])) ra=some (.lst (las.map V.ref++[.ref la])):=a33
     have hLA:LsAt (upd H16 ra (.lst (las.map V.ref++[.ref la]))) (las++[la]) (((plO xs S os).map Ln.row).take i++[(inRow s.2 o).tail]):=hLn.upd hra16 fun z=>(hlaN ra z).2.1 rfl
     have hoaA:upd H16 ra (.lst (las.map V.ref++[.ref la])) oa=some (.lst (natsV (((plO xs S os).map (·.y.2)).take i))):=by rw [a09 nro.symm]; exact s516 _ _ hoa5
     have hpkA:upd H16 ra (.lst (las.map V.ref++[.ref la])) pk=some (.lst (ls.map V.ref)):=by rw [a09 nrk.symm]; exact s516 _ _ hpk5
     generalize upd H16 ra (.lst (las.map V.ref++[.ref la]))=HA at sA eA hLA hoaA hpkA
     walk_at "r"
     refine af7 (SqL.of hoaA) ?_
     walk_at "r"
     refine a96 hoaA (by rw [a46,List.length_take,gL]; omega) ?_
     have sB:Same H (upd HA oa (.lst (natsV (((plO xs S os).map (·.y.2)).take i)++[.int (y.2:Nat)]))):=sA.updNew foa
     have eB:upd HA oa (.lst (natsV (((plO xs S os).map (·.y.2)).take i)++[.int (y.2:Nat)])) oa=some (.lst (natsV (((plO xs S os).map (·.y.2)).take i)++[.int (y.2:Nat)])):=a33
     have hLB:=hLA.upd (ys:=natsV (((plO xs S os).map (·.y.2)).take i)++[.int (y.2:Nat)]) hoaA fun z=>(hlaN oa z).2.2.1 rfl
     have hraB:upd HA oa (.lst (natsV (((plO xs S os).map (·.y.2)).take i)++[.int (y.2:Nat)])) ra=some (.lst (las.map V.ref++[.ref la])):=by rw [a09 nro]; exact eA
     have hpkB:upd HA oa (.lst (natsV (((plO xs S os).map (·.y.2)).take i)++[.int (y.2:Nat)])) pk=some (.lst (ls.map V.ref)):=by rw [a09 nok.symm]; exact hpkA
     generalize upd HA oa (.lst (natsV (((plO xs S os).map (·.y.2)).take i)++[.int (y.2:Nat)]))=HB at sB eB hLB hraB hpkB
     walk_at "r"
     refine af7 (SqL.of hpkB) ?_
     walk_at "r"
     refine a96 hpkB (by simp; omega) ?_
     have eR:((plO xs S os).map Ln.row).take (i+1)=((plO xs S os).map Ln.row).take i++[(inRow s.2 o).tail]:=by
      rw [List.take_add_one,gM,hpl]
      rfl
     have ert:((plO xs S os).map (·.y.2)).take (i+1)=((plO xs S os).map (·.y.2)).take i++[y.2]:=by
      rw [List.take_add_one,gM,hpl]
      show _++[(rowO x s o).2]=_
      rw [ey]
     have est:(saO xs S os).take (i+1)=(saO xs S os).take i++[y.1]:=by
      rw [List.take_add_one,bd1 hx hs ho,ey]
      rfl
     rw [hPv]
     refine ⟨hi',sB.updNew fpk,⟨las++[la],?_,?_,hlaN⟩,?_,⟨ls++[sl0],?_,?_⟩,_,_,_,_,_,_,rfl⟩
     · rw [a09 nrk,hraB,List.map_append]
       rfl
     · rw [eR]
       exact hLB.upd hpkB fun z=>(hlaN pk z).2.2.2 rfl
     · rw [a09 nok,eB,ert]
       simp [natsV]
     · rw [a33,List.map_append]
       rfl
     · rw [est]
       exact Each.snoc hls5 v3
   intro σ H5 hI
   rw [hPv] at hI
   obtain ⟨_,s05,⟨las,hra5,hL5,hla5⟩,hoa5,⟨ls,hpk5,hls5⟩,y1,y2,y3,y4,y5,y6,rfl⟩:=hI
   rw [tl,List.take_of_length_le (by rw [gL]; omega)] at hoa5 hL5
   rw [tl,List.take_of_length_le (by rw [ah7 sol hol]; exact Nat.le_refl _)] at hls5
   clear hPv Pv
   have lal:las.length=xs.length:=by rw [hL5.at_.len,gL]; omega
   have hX5:SaysAt H5 ls (saO xs S os):=hls5.mono fun l x h=>s05 _ _ h
   have lsl:ls.length=xs.length:=by rw [hls5.len,ah7 sol hol]
   walk_at "r"
   refine ⟨oa,ra,pk,(plO xs S os).map (·.y.2),las,ls,(plO xs S os).map Ln.row,saO xs S os,rfl,⟨hoa5,⟨hra5,hL5,hpk5,hX5,fun z=>(hla5 ra z).2.1 rfl,fun z=>(hla5 pk z).2.2.2 rfl,fun l hl z=>?_,by omega,fun r hr=>?_,fun y hy=>?_⟩,fun z=>(hla5 oa z).2.2.1 rfl,by rw [gL]; omega⟩,fun st6 stv6 H6 o6 e6 hS6=>?_⟩
   · obtain ⟨j,hj,rfl⟩:=List.mem_iff_getElem.mp hl
     have:H ls[j]=_:=hls5.2 j _ ((saO xs S os)[j]'(by rw [ah7 sol hol]; omega)) (gE hj) (gE _)
     rw [(hla5 _ z).1] at this
     cases this
   · obtain ⟨l,hl,rfl⟩:=List.mem_map.mp hr
     obtain ⟨k,x,s,o,k1,k2,k3,rfl⟩:=ap9 sol hol hl
     have:=ag5 (o:=o) (hSo.2 k x s k1 k2).2
     show ((inRow s.2 o).tail).length≤3
     simp
     omega
   · unfold saO at hy
     obtain ⟨l,hl,rfl⟩:=List.mem_map.mp hy
     obtain ⟨k,x,s,o,k1,k2,k3,rfl⟩:=ap9 sol hol hl
     obtain ⟨g1,g2⟩:=hSo.2 k x s k1 k2
     exact (b05 (o:=o) (hok x (gI k1)) g1 g2).1.says
   walk_at "r"
   intro p7 H7 f7 s7 e7
   have s06:Same H H6:=fun y ob e=>o6 y ob (fun z=>by rw [(hla5 y z).1] at e; cases e) (s05 _ _ e)
   have s07:=s06.trans s7
   refine q p7 pk st6 ls stv6 H7 s07 e7 (s7 _ _ (o6 _ _ (fun z=>(hla5 pk z).2.2.2 rfl) hpk5)) (hls5.mono fun l x h=>s07 _ _ h) (s7 _ _ e6) (hS6.mono fun v x h=>h.tups s7.tups)
theorem StdAt.get {H:Hp}{stv:List V}{S:Std}(h:Each (StdAt H) stv S) {i:Nat}{s:Nat×List Ev}(hs:S[i]?=some s):∃ k rv,stv[i]?=some (.ref k)∧H k=some (.tup [.int (s.1:Nat),rv]):=by
 obtain ⟨v,hv,k,rv,rfl,h1,_⟩:=Each.get h hs
 exact ⟨k,rv,hv,h1⟩
theorem bn1 {xs:List Tab}{S:Std}{i:Nat}{x:Tab}{s:Nat×List Ev}(h1:xs[i]?=some x) (h2:S[i]?=some s):ldQ xs S i=((x.rs.getD s.1 (false,[])).1 || decide (0<(rowO x s .quiet).1.length)):=by
 unfold ldQ saQ
 rw [List.getD_eq_getElem?_getD,List.getD_eq_getElem?_getD,bm8 h1 h2,bd1 h1 h2 (c45 h1)]
 rfl
noncomputable def kvB (xs:List Tab) (S:Std) (n:Nat):List (Tr×V):=(List.range n).map fun m=>(stTr (itQ xs S m),V.bl true)
theorem b30 (xs:List Tab) (S:Std) (n:Nat):kvB xs S (n+1)=kvB xs S n++[(stTr (itQ xs S n),V.bl true)]:=by
 unfold kvB
 rw [List.range_succ,List.map_append]
 rfl
theorem aq3 {xs:List Tab}{S:Std}{n:Nat}{R:Std}(h:∀ m,m<n→itQ xs S m≠R):valV (kvB xs S n) (stTr R)=none:=by
 unfold valV
 rw [List.find?_eq_none.mpr]
 · rfl
 · intro x hx
   obtain ⟨m,hm,rfl⟩:=List.mem_map.mp hx
   simpa using fun z=>h m (List.mem_range.mp hm) (aj1 z)
theorem bd7 (xs:List Tab) (S:Std) (n:Nat):(kvB xs S n).length=n:=by simp [kvB]
theorem bn2 {xs:List Tab}{S:Std}{A:Nat}:∀ {n:Nat},Frs xs S n→A<n→valV (kvB xs S n) (stTr (itQ xs S A))=some (.bl true)
 | 0,_,h0=>by omega
 | n+1,hn,h0=>by
   rw [b30,af1 _ _ _ _ (aq3 fun m hm=>hn n (by omega) m hm)]
   by_cases e:A=n
   · rw [if_pos (by rw [e])]
   · rw [if_neg (fun z=>hn n (by omega) A (by omega) (aj1 z))]
     exact bn2 (fun k hk=>hn k (by omega)) (by omega)
structure QuietPre (H:Hp) (ta st:Addr) (tvs stv:List V) (xs:List Tab) (S:Std):Prop where
 hta:H ta=some (.lst tvs)
 hT:Each (TabW H) tvs xs
 hok:∀ x∈xs,TOk x
 hSo:StOk xs S
 hst:H st=some (.tup stv)
 hS:Each (StdAt H) stv S
 hn:xs.length≤100
def bd8 (K:W.Frag):Sp:=fun vs H Q _=>∃ (ta st:Addr) (tvs stv:List V) (xs:List Tab) (S:Std),vs=[.ref ta,.ref st]∧QuietPre H ta st tvs stv xs S ∧
 (∀ ks A R,Due xs S (some (ks,A,R))→∀ l H',Same H H'→H' l=some (.lst (natsV ks))→Q (.ref l) H')∧(Due xs S none→∀ H',Same H H'→Q (.str "many") H')
theorem au6 (T:Txt K mg t):FnOk P w K mg base CX0 3 t.a__law_still t.fd__law_still ["tables","standing"] (bd8 K):=by
 have G__law_turn:=al5 (P:=P) (w:=w) (base:=base) T
 refine T.F__law_still.ok sc_law_still (fun vs H Q E h=>?_) (fun cdv A outer s H vs Q E hr h=>?_)
 · obtain ⟨ta,st,tvs,stv,xs,S,rfl,_⟩:=h
   rfl
 · obtain ⟨ta,st,tvs,stv,xs,S,rfl,⟨hta,hT,hok,hSo,hst,hS,hn⟩,q,qe⟩:=h
   refine ⟨_,(@a03 _ _ _ _ _ (@a36 _ _ 2 _ _ _ _ sc_law_still.nd rfl (by walk_at "o") (aw6 w.params) (by rfl) (by walk_at "o"))
    (@a03 _ _ _ _ _ (@a36 _ _ 3 _ _ _ _ sc_law_still.nd rfl (by walk_at "o") (@a37 _ _ _ _ _ _ _ _ _ (az2 rfl) (by rfl) T.z_list a98 (@a00 _ _ _ _ _ (@a37 _ _ _ _ _ _ _ _ _ as9 (by rfl) T.z_range ay8 (@a00 _ _ _ _ _ (@a45 _ _ _ _ _ _ _ _ _ (a83 K) (by rfl) T.z_len a87 (@a00 _ _ _ _ _ (pv 0) (@a01 _) (by rfl)) (by decide) (by decide) (by rfl) (by rfl)) (@a01 _) (by rfl)) (by decide) (by decide) (by rfl) (by rfl)) (@a01 _) (by rfl)) (by decide) (by decide) (by rfl) (by rfl)) (by rfl) (by walk_at "o"))
    (@a03 _ _ _ _ _ (@ao4 _ _ _ _ _ _ PassesOwn.never (b65 (as6 (P:=w.params) rfl (by exact hr.units) (pv 1) (pv 2))) (@a03 _ _ _ _ _ (@ab1 _ _ _ _ _ _ _ _ (@a53 _ _ _ _ _ _ _ _ ai0 (@a45 _ _ _ _ _ _ _ _ _ (ap2 (P:=w.params) rfl) (by rfl) T.z_len a87 (@a00 _ _ _ _ _ (pv 2) (@a01 _) (by rfl)) (by decide) (by decide) (by rfl) (by rfl)) (@a04 _ _ _ _) (nomark _)) (@a07 _ _ _ (@a52 _ _ _ _ (@a51 _ _ _ _))) (@a68 _))
     (@a03 _ _ _ _ _ (ap1 (P:=w.params) rfl (by exact hr.units) (pv 2) (pv 1) (@aj2 _ _ _ _) rfl)
     (@a03 _ _ _ _ _ (@ah8 _ _ _ _ _ _ (@a32 _ _ _ _ _ _ _ _ _ _ _ _ _ _ _ _ G__law_turn (hr.mono (by omega)) rfl T.m__law_turn T.F__law_turn.kp T.b__law_turn .nil a61 (@a00 _ _ _ _ _ (pv 0) (@a00 _ _ _ _ _ (pv 1) (@a00 _ _ _ _ _ (ab6 (Nt:=["table"]) (Nf:=[]) (caps:=[]) rfl (a50 (sc:=defScope a66) rfl rfl (by decide +kernel) (by decide +kernel) (by decide +kernel) rfl (by decide +kernel)) (a48 K (pv 0)) (fun _ _ _ _ _=>(a08 (i:=0) (show (["table"]:List Str).Nodup by decide +kernel) rfl (by walk_at "o"))) (fun _ _ _ _ _=>(@a59 _)) (fun _ _ _ _ _=>(@a34 _ _ _ _ _ (@a00 _ _ _ _ _ (@a51 _ _ _ _) (@a01 _) (by rfl))))) (@a01 _) (by rfl)) (by rfl)) (by rfl)) (by decide) (by rfl) (by rfl)) (b93 K (n:=2) rfl (a41 (a08 (i:=4) sc_law_still.nd rfl (by walk_at "o")) (a41 (a08 (i:=5) sc_law_still.nd rfl (by walk_at "o")) (@a99 _)))) (by rfl) (by rfl) (by rfl))
     (@a03 _ _ _ _ _ (ag9 (i:=3) (Nt:=["k"]) (Nf:=["talks","tables","standing"]) (caps:=[4,0,1]) rfl (a50 (sc:=defScope a66) rfl rfl (by decide +kernel) (by decide +kernel) (by decide +kernel) rfl (by decide +kernel)) (a48 K (pv 3)) (fun _ _ _ _ _=>(a08 (i:=0) (show (["k","talks","tables","standing"]:List Str).Nodup by decide +kernel) rfl (by walk_at "o"))) (fun _ _ _ _ _=>(@av7 _ _ _ (@PW.pt _ _ _ (@aj5 _ _ _ _ _ _ _ (@a53 _ _ _ _ _ _ _ _ (as7 K (by exact hr.units)) (@a40 _ _ _ _ _ _ _ (a35 K) (pv 1) (pv 0) (fun _ _=>rfl)) (@a30 _ _ _ _ (@a01 _)) (nomark _)) (@ag8 _ _ _ _ (@b67 _ _ _ _ (ae4 K (@a40 _ _ _ _ _ _ _ (a38 K) (@a40 _ _ _ _ _ _ _ (a35 K) (@a40 _ _ _ _ _ _ _ (a38 K) (@a40 _ _ _ _ _ _ _ (a35 K) (pv 2) (pv 0) (fun _ _=>rfl)) (@a04 _ _ _ _) (fun _ _=>rfl)) (@a40 _ _ _ _ _ _ _ (a38 K) (@a40 _ _ _ _ _ _ _ (a38 K) (pv 3) (pv 0) (fun _ _=>rfl)) (@a04 _ _ _ _) (fun _ _=>rfl)) (fun _ _=>rfl)) (@a04 _ _ _ _) (fun _ _=>rfl)) (fun _=>rfl)))))))) (fun _ _ _ _ _=>(pv 0)) sc_law_still.nd rfl (by walk_at "o") rfl)
     (@a07 _ _ _ (@a36 _ _ 1 _ _ _ _ sc_law_still.nd rfl (by walk_at "o") (pv 5) (by rfl) (by walk_at "o"))))))))
    (@a07 _ _ _ (@a52 _ _ _ _ (pv 3)))))),?_⟩
   have sl:(1000000:Nat)≤sizeLine:=le_line (Nat.le_refl _)
   have tl:=hT.len
   walk_at "go"
   intro d o f1 hd1
   have s1:Same H (upd H d o):=Same.new f1
   generalize upd H d o=H1 at hd1 s1
   walk_at "r"
   refine aa4 (SqL.of (s1 _ _ hta)) ?_
   rw [tl]
   walk_at "r"
   refine az4 (by omega) ?_
   intro pg H2 f2 s2 e2
   walk_at "r"
   refine ba5 e2 (by omega) ?_
   intro pl H3 f3 s3 e3
   walk_at "r"
   have s23:=s2.trans s3
   have s03:=s1.trans s23
   obtain ⟨W,hW⟩:∃ W:Nat→St→Hp→Prop,W=(fun m σ H'=>∃ n:Nat,m=2001 - n∧n≤2000∧Frs xs S n∧Same H H'∧DtAt w.params H' d (kvB xs S n)∧∃ (st' pl':Addr) (stv':List V) (y5 y6:Option V),H' st'=some (.tup stv')∧Each (StdAt H') stv' (itQ xs S n)∧H' pl'=some (.lst (natsV (kpQ xs S n)))∧σ=[some (.ref ta),some (.ref st'),some (.ref d),some (.ref pl'),y5,y6]):=⟨_,rfl⟩
   refine aw2 W 2001 ?_ ?_
   · rw [hW]
     exact ⟨0,rfl,Nat.zero_le _,fun k hk=>absurd hk (Nat.not_lt_zero _),s03,ab2 hd1 s23,st,pl,stv,_,_,s03 _ _ hst,hS.mono fun v x h=>h.tups s03.tups,by rw [bj9]; exact e3,rfl⟩
   intro m σ H' hI
   rw [hW] at hI
   obtain ⟨n,rfl,hn2,hfr,s',hd',st',pl',stv',y5,y6,hst',hS',hpl',rfl⟩:=hI
   have hSn:=bd3 hok hSo n
   walk_at "r"
   refine ⟨d,_,stTr (itQ xs S n),rfl,hd',au4 hst' hS',?_⟩
   by_cases hlt:∀ m,m<n→itQ xs S m≠itQ xs S n
   · rw [aq3 hlt]
     refine ⟨true,rfl,?_⟩
     rw [if_pos rfl]
     refine ⟨fun σ' H''=>W (2001 - (n+1)) σ' H'',fun σ' H'' h=>⟨_,by omega,h⟩,?_⟩
     have hfr1:Frs xs S (n+1):=fun k hk=>by
      by_cases e:k=n
      · rw [e]; exact hlt
      · exact hfr k (by omega)
     walk_at "r"
     refine ⟨d,_,rfl,hd',?_⟩
     rw [bd7]
     walk_at "r"
     by_cases h2:n=2000
     · subst h2
       rw [if_pos (by simp)]
       walk_at "r"
       exact qe (.inr ⟨hfr1,rfl⟩) H' s'
     rw [if_neg (by simp; omega)]
     walk_at "r"
     refine ⟨d,_,stTr (itQ xs S n),rfl,hd',au4 hst' hS',by rw [bd7]; omega,fun o6 hd6=>?_⟩
     rw [ay6 _ (aq3 hlt),←b30] at hd6
     obtain ⟨φ,eφ⟩:=hd'.ext
     have t6:=b07 (o:=o6) eφ
     have s6:Same H (upd H' d o6):=s'.updNew f1
     have hst6:=t6 _ _ hst'
     have hS6:=hS'.mono fun v x h=>h.tups t6
     have hpl6:upd H' d o6 pl'=some (.lst (natsV (kpQ xs S n))):=by rw [a09 (ae0 hpl' eφ (fun z=>nomatch z))]; exact hpl'
     generalize upd H' d o6=H6 at hd6 s6 hst6 hS6 hpl6
     walk_at "r"
     refine ⟨⟨_,SqL.of (s6 _ _ hta)⟩,a77 (xs:=tvs) (by omega) (fun i acc H'=>i≤xs.length∧Same H6 H'∧Each (fun v (e:Ev)=>e.tr.At H' v []) acc (List.replicate i Ev.quiet)) ⟨Nat.zero_le _,Same.refl _,.nil⟩ (fun i acc H' ⟨_,s',he⟩=>⟨by rw [he.len]; simp,SqL.of ((s6.trans s') _ _ hta)⟩) ?_ ?_⟩
     · rintro i v acc H11 hv ⟨hi,s11,he⟩
       have hi':i<xs.length:=by rw [← tl]; exact (gS hv).1
       walk_at "r"
       intro p12 H12 f12 s12 e12
       refine ⟨hi',s11.trans s12,?_⟩
       rw [List.replicate_succ']
       exact (he.mono fun v x h=>a78 h s12.tups).snoc (at_tup0.mpr ⟨p12,_,rfl,e12,ats_cons0.mpr ⟨_,_,rfl,str_at0,ats_nil0.mpr rfl⟩⟩)
     rintro acc H11 ⟨_,s11,he⟩ po H12 f12 s12 e12
     rw [tl] at he
     walk_at "r"
     have s612:=s11.trans s12
     have s012:=s6.trans s612
     have eqs:List.replicate xs.length Ev.quiet=qs xs:=by unfold qs; rw [List.map_const']
     rw [eqs] at he
     refine ⟨ta,st',po,tvs,stv',acc,xs,itQ xs S n,qs xs,rfl,⟨s012 _ _ hta,hT.mono fun v x h=>h.same s012,hok,hSn,s612 _ _ hst6,hS6.mono fun v x h=>h.tups s612.tups,hn,e12,he.mono fun v x h=>a78 h s12.tups,au3 xs⟩,fun r tk st7 ls stv7 H7 s127 e7 etk hls hst7 hS7=>?_⟩
     walk_at "r"
     refine bl7 (SqL.of e7) rfl ?_
     walk_at "r"
     have s7:=s612.trans s127
     have s07:=s6.trans s7
     have hpl7:=s7 _ _ hpl6
     refine ⟨⟨_,SqL.of hpl7⟩,a77 (xs:=natsV (kpQ xs S n)) (le_line (by rw [a46]; have:=bt6 xs S n; omega)) (fun i acc H'=>i≤(kpQ xs S n).length∧Same H7 H'∧acc=natsV (((kpQ xs S n).take i).filter fun i=>!ldQ xs (itQ xs S n) i)) ⟨Nat.zero_le _,Same.refl _,rfl⟩ (fun i acc H' ⟨hi,s',e⟩=>⟨by rw [e,a46]; have:=List.length_filter_le (fun i=>!ldQ xs (itQ xs S n) i) ((kpQ xs S n).take i); rw [List.length_take] at this; omega,SqL.of (s' _ _ hpl7)⟩) ?_ ?_⟩
     · rintro i v acc H8 hv ⟨hi,s8,rfl⟩
       obtain ⟨k,hk,rfl⟩:=ag6 hv
       have hi':i<(kpQ xs S n).length:=(gS hk).1
       have hkx:=c46 (gI hk)
       obtain ⟨x,hx⟩:∃ x,xs[k]?=some x:=⟨_,gE hkx⟩
       obtain ⟨sk,hsk⟩:∃ sk,(itQ xs S n)[k]?=some sk:=⟨_,gE (by rw [hSn.1]; exact hkx)⟩
       have hld:=bn1 hx hsk
       obtain ⟨la,hla,hla2⟩:=Each.get hls (bd1 hx hsk (c45 hx))
       have hla8:H8 la=_:=s8 _ _ hla2
       have htk:((kpQ xs S n).take (i+1)).filter (fun i=>!ldQ xs (itQ xs S n) i)=((kpQ xs S n).take i).filter (fun i=>!ldQ xs (itQ xs S n) i)++(if ldQ xs (itQ xs S n) k=true then [] else [k]):=by
        rw [List.take_add_one,hk,List.filter_append]
        cases h:ldQ xs (itQ xs S n) k <;> simp [h]
       rw [htk,hld]
       walk_at "r"
       refine a86 (SqL.of (s8 _ _ etk)) (a05 (j:=k) (v:=.ref la) (by rw [gM,hla]; rfl)) ?_
       walk_at "r"
       intro p9 H9 f9 s9 e9
       refine ba2 (SqL.of (s9 _ _ hla8)) (SqL.of e9) ?_
       walk_at "r"
       have s79:=s8.trans s9
       have s09:=s07.trans s79
       cases hr0:(rowO x sk .quiet).1 with
       | nil =>
         rw [if_pos (show (strsV (List.map sayT [])).isEmpty=true from rfl)]
         walk_at "r"
         obtain ⟨tv,htv,a1,b1,c1,gsx,htab⟩:=Each.get (hT.mono fun v x h=>h.same s09) hx
         obtain ⟨tt,us1,rvs0,rfl,t1,t2,t3,t4,t5,t6⟩:=htab.ex
         obtain ⟨hg1,_⟩:=hSn.2 k x sk hx hsk
         have hg3:x.rs[sk.1]?=some x.rs[sk.1]:=gE hg1
         obtain ⟨rvs,q1,gl,ps,u1,u2,u3,u4,u5⟩:=b03 htab hg3
         obtain ⟨ks,rvk,hks,hks2⟩:=StdAt.get (hS6.mono fun v x h=>h.tups (s7.trans s79).tups) hsk
         refine a86 (SqL.of (s09 _ _ hta)) (a05 (j:=k) htv) ?_
         walk_at "r"
         refine a72 (SqT.of t1) (a05 (j:=2) rfl) ?_
         walk_at "r"
         refine a72 (SqT.of ((s7.trans s79) _ _ hst6)) (a05 (j:=k) hks) ?_
         walk_at "r"
         refine a72 (SqT.of hks2) (a05 (j:=0) rfl) ?_
         walk_at "r"
         refine a86 (SqL.of u1) (a05 (j:=sk.1) u2) ?_
         walk_at "r"
         refine a72 (SqT.of u3) (a05 (j:=0) rfl) ?_
         walk_at "r"
         rw [show (x.rs.getD sk.1 (false,[])).1=x.rs[sk.1].1 by simp [hg1]]
         cases hb:x.rs[sk.1].1
         · rw [if_pos (show (!false)=true from rfl)]
           walk_at "r"
           exact ⟨hi',s79,by simp [natsV]⟩
         · rw [if_neg (by simp)]
           exact ⟨hi',s79,by simp⟩
       | cons y0 yr =>
         rw [if_neg (by simp [strsV])]
         exact ⟨hi',s79,by simp⟩
     rintro acc H8 ⟨_,s8,rfl⟩ pl9 H9 f9 s9 e9
     rw [a46,List.take_length,←bk0] at e9
     walk_at "r"
     have s79:=s8.trans s9
     rw [hW]
     exact ⟨n+1,rfl,by omega,hfr1,s07.trans s79,ab2 hd6 (s7.trans s79),st7,pl9,stv7,_,_,s79 _ _ hst7,hS7.mono fun v x h=>h.tups s79.tups,e9,rfl⟩
   · obtain ⟨A,hA1,hA2⟩:∃ A,A<n∧itQ xs S A=itQ xs S n:=by
      apply Classical.byContradiction
      intro hc
      exact hlt fun m hm z=>hc ⟨m,hm,z⟩
     have hF:Fst xs S n A:=⟨hA1,hA2,hfr⟩
     have hv:valV (kvB xs S n) (stTr (itQ xs S n))=some (.bl true):=by rw [← hA2]; exact bn2 hfr hA1
     rw [hv]
     refine ⟨false,rfl,?_⟩
     rw [if_neg (by simp)]
     walk_at "r"
     exact q _ A (n - A) (.inl ⟨n,A,hn2,hF,rfl⟩) pl' H' s' hpl'
structure LduePre (H:Hp) (ta tu:Addr) (tvs uvs:List V) (xs:List Tab) (Os:List (List Ev)):Prop where
 hta:H ta=some (.lst tvs)
 hT:Each (TabW H) tvs xs
 hok:∀ x∈xs,TOk x
 hn:xs.length≤100
 htu:H tu=some (.lst uvs)
 hO:Each (OtAt H) uvs Os
 hl:Os.length≤1000
 hol:∀ os∈Os,os.length=xs.length
def bt9 (K:W.Frag):Sp:=fun vs H Q _=>∃ (ta tu:Addr) (tvs uvs:List V) (xs:List Tab) (Os:List (List Ev)),vs=[.ref ta,.ref tu]∧LduePre H ta tu tvs uvs xs Os ∧
 ∀ r v H',Same H H'→Fall xs Os r→ResAt H' v r→Q v H'
theorem b61 (T:Txt K mg t):FnOk P w K mg base CX0 4 t.a__law_due t.fd__law_due ["tables","turns"] (bt9 K):=by
 have G__law_standing:=ad0 (P:=P) (w:=w) (base:=base) T
 have G__law_still:=au6 (P:=P) (w:=w) (base:=base) T
 have G__law_turn:=al5 (P:=P) (w:=w) (base:=base) T
 refine T.F__law_due.ok sc_law_due (fun vs H Q E h=>?_) (fun cdv A outer s H vs Q E hr h=>?_)
 · obtain ⟨ta,tu,tvs,uvs,xs,Os,rfl,_⟩:=h
   rfl
 · obtain ⟨ta,tu,tvs,uvs,xs,Os,rfl,⟨hta,hT,hok,hn,htu,hO,hl,hol⟩,q⟩:=h
   refine ⟨_,(@a03 _ _ _ _ _ (@a36 _ _ 2 _ _ _ _ sc_law_due.nd rfl (by walk_at "o") (@a32 _ _ _ _ _ _ _ _ _ _ _ _ _ _ _ _ G__law_standing (hr.mono (by omega)) rfl T.m__law_standing T.F__law_standing.kp T.b__law_standing .nil a61 (@a00 _ _ _ _ _ (ab6 (Nt:=["table"]) (Nf:=[]) (caps:=[]) rfl (a50 (sc:=defScope a85) rfl rfl (by decide +kernel) (by decide +kernel) (by decide +kernel) rfl (by decide +kernel)) (a48 K (pv 0)) (fun _ _ _ _ _=>(a08 (i:=0) (show (["table"]:List Str).Nodup by decide +kernel) rfl (by walk_at "o"))) (fun _ _ _ _ _=>(@a59 _)) (fun _ _ _ _ _=>(@a04 _ _ _ _))) (@a00 _ _ _ _ _ (ab6 (Nt:=["table"]) (Nf:=[]) (caps:=[]) rfl (a50 (sc:=defScope a85) rfl rfl (by decide +kernel) (by decide +kernel) (by decide +kernel) rfl (by decide +kernel)) (a48 K (pv 0)) (fun _ _ _ _ _=>(a08 (i:=0) (show (["table"]:List Str).Nodup by decide +kernel) rfl (by walk_at "o"))) (fun _ _ _ _ _=>(@a59 _)) (fun _ _ _ _ _=>(@a30 _ _ _ _ (@a01 _)))) (@a00 _ _ _ _ _ (ab6 (Nt:=["table"]) (Nf:=[]) (caps:=[]) rfl (a50 (sc:=defScope a85) rfl rfl (by decide +kernel) (by decide +kernel) (by decide +kernel) rfl (by decide +kernel)) (a48 K (pv 0)) (fun _ _ _ _ _=>(a08 (i:=0) (show (["table"]:List Str).Nodup by decide +kernel) rfl (by walk_at "o"))) (fun _ _ _ _ _=>(@a59 _)) (fun _ _ _ _ _=>(@a40 _ _ _ _ _ _ _ (a38 K) (pv 0) (@a04 _ _ _ _) (fun _ _=>rfl)))) (@a01 _) (by rfl)) (by rfl)) (by rfl)) (by decide) (by rfl) (by rfl)) (by rfl) (by walk_at "o"))
    (@a03 _ _ _ _ _ (@aa9 _ _ _ _ _ _ _ _ PassesOwn.never rfl (a95 rfl T.z_range (@a00 _ _ _ _ _ (@a69 _ _ _ _ _ _ _ _ a76 (@a45 _ _ _ _ _ _ _ _ _ (a83 K) (by rfl) T.z_len a87 (@a00 _ _ _ _ _ (pv 1) (@a01 _) (by rfl)) (by decide) (by decide) (by rfl) (by rfl)) (@a04 _ _ _ _)) (@a01 _) (by rfl))) (a08 (i:=3) sc_law_due.nd rfl (by walk_at "o")) (@a03 _ _ _ _ _ (@a36 _ _ 4 _ _ _ _ sc_law_due.nd rfl (by walk_at "o") (@a32 _ _ _ _ _ _ _ _ _ _ _ _ _ _ _ _ G__law_still (hr.mono (by omega)) rfl T.m__law_still T.F__law_still.kp T.b__law_still .nil a61 (@a00 _ _ _ _ _ (pv 0) (@a00 _ _ _ _ _ (pv 2) (@a01 _) (by rfl)) (by rfl)) (by decide) (by rfl) (by rfl)) (by rfl) (by walk_at "o"))
     (@a03 _ _ _ _ _ (@ab1 _ _ _ _ _ _ _ _ (@a53 _ _ _ _ _ _ _ _ (bi9 (by exact hr.units)) (pv 4) (@a51 _ _ _ _) (nomark _)) (@a07 _ _ _ (@a52 _ _ _ _ (@a51 _ _ _ _))) (@a68 _))
     (@a03 _ _ _ _ _ (@ab1 _ _ _ _ _ _ _ _ (@a53 _ _ _ _ _ _ _ _ (as8 K (by exact hr.units)) (pv 4) (@a30 _ _ _ _ (@a01 _)) (nomark _)) (@a07 _ _ _ (@a52 _ _ _ _ (@a34 _ _ _ _ _ (@a00 _ _ _ _ _ (pv 3) (@a00 _ _ _ _ _ (@a40 _ _ _ _ _ _ _ (a35 K) (pv 4) (@a04 _ _ _ _) (fun _ _=>rfl)) (@a01 _) (by rfl)) (by rfl))))) (@a68 _))
     (@a07 _ _ _ (@ab1 _ _ _ _ _ _ _ _ (@a53 _ _ _ _ _ _ _ _ aq9 (pv 3) (@a45 _ _ _ _ _ _ _ _ _ (a83 K) (by rfl) T.z_len a87 (@a00 _ _ _ _ _ (pv 1) (@a01 _) (by rfl)) (by decide) (by decide) (by rfl) (by rfl)) (nomark _)) (@a07 _ _ _ (@a36 _ _ 2 _ _ _ _ sc_law_due.nd rfl (by walk_at "o") (@a40 _ _ _ _ _ _ _ (a35 K) (@a32 _ _ _ _ _ _ _ _ _ _ _ _ _ _ _ _ G__law_turn (hr.mono (by omega)) rfl T.m__law_turn T.F__law_turn.kp T.b__law_turn .nil a61 (@a00 _ _ _ _ _ (pv 0) (@a00 _ _ _ _ _ (pv 2) (@a00 _ _ _ _ _ (@a40 _ _ _ _ _ _ _ (a35 K) (pv 1) (pv 3) (fun _ _=>rfl)) (@a01 _) (by rfl)) (by rfl)) (by rfl)) (by decide) (by rfl) (by rfl)) (@a04 _ _ _ _) (fun _ _=>rfl)) (by rfl) (by walk_at "o"))) (@a68 _)))))) (by intro _; rfl))
    (@a07 _ _ _ (@a52 _ _ _ _ (@ay1 _ _ _))))),?_⟩
   have sl:(1000000:Nat)≤sizeLine:=le_line (Nat.le_refl _)
   have tl:=hT.len
   have ul:=hO.len
   walk_at "go"
   refine ⟨⟨_,SqL.of hta⟩,a77 (xs:=tvs) (by omega) (fun i acc H'=>H'=H∧acc=natsV (List.replicate i 0)) ⟨rfl,rfl⟩ (fun i acc H' ⟨e0,e⟩=>⟨by rw [e,a46]; simp,e0 ▸ SqL.of hta⟩) ?_ ?_⟩
   · rintro i v acc H' hv ⟨rfl,rfl⟩
     walk_at "r"
     refine ⟨rfl,?_⟩
     rw [List.replicate_succ']
     simp [natsV]
   rintro acc H' ⟨rfl,rfl⟩ oa H1 f1 s1 e1
   rw [tl] at e1
   walk_at "r"
   refine ⟨⟨_,SqL.of (s1 _ _ hta)⟩,a77 (xs:=tvs) (by omega) (fun i acc H2=>i≤xs.length∧Same H1 H2∧∃ las:List Addr,acc=las.map V.ref∧LsAt H2 las (List.replicate i [])∧∀ la∈las,H1 la=none) ⟨Nat.zero_le _,Same.refl _,[],rfl,⟨by simp,.nil⟩,by simp⟩ (fun i acc H2 ⟨_,s',las,e,hL,_⟩=>⟨by rw [e,gL,hL.at_.len]; simp,SqL.of ((s1.trans s') _ _ hta)⟩) ?_ ?_⟩
   · rintro i v acc H2 hv ⟨hi,s2,las,rfl,hL,hfr⟩
     have hi':i<xs.length:=by rw [← tl]; exact (gS hv).1
     walk_at "r"
     intro p3 H3 f3 s3 e3
     refine ⟨hi',s2.trans s3,las++[p3],by simp,?_,fun la hla=>?_⟩
     · rw [List.replicate_succ']
       exact LsAt.snoc hL s3 f3 e3 (by simp [Tr.Ats])
     · rcases gA hla with h | h
       · exact hfr la h
       · rw [gG h]
         exact s2.free f3
   rintro acc H2 ⟨_,s2,las,rfl,hL2,hfr2⟩ ra H3 f3 s3 e3
   rw [tl] at hL2
   have lal:las.length=xs.length:=by rw [hL2.at_.len]; simp
   have s13:=s2.trans s3
   have s03:=s1.trans s13
   walk_at "r"
   refine ⟨⟨_,SqL.of (s03 _ _ hta)⟩,a77 (xs:=tvs) (by omega) (fun i acc H'=>i≤xs.length∧H'=H3∧∃ ls:List Addr,acc=ls.map V.ref∧SaysAt H' ls ((xs.map (·.sy)).take i)∧∀ l∈ls,l∉las) ⟨Nat.zero_le _,rfl,[],rfl,.nil,by simp⟩ (fun i acc H' ⟨_,e0,ls,e,he,_⟩=>⟨by rw [e,gL,he.len,List.length_take]; omega,e0 ▸ SqL.of (s03 _ _ hta)⟩) ?_ ?_⟩
   · rintro i v acc H4 hv ⟨hi,e0,ls,rfl,he,hnl⟩
     replace e0:=e0.symm
     subst e0
     have hi':i<xs.length:=by rw [← tl]; exact (gS hv).1
     obtain ⟨x,hx⟩:∃ x,xs[i]?=some x:=⟨_,gE hi'⟩
     obtain ⟨a1,b1,c1,gsx,htab⟩:=hT.2 i v x hv hx
     obtain ⟨tt,us,rvs,rfl,t1,t2,t3,t4,t5,t6⟩:=htab.ex
     walk_at "r"
     refine a72 (SqT.of (s03 _ _ t1)) (a05 (j:=1) rfl) ?_
     refine ⟨hi',rfl,ls++[b1],by simp,?_,fun l hl z=>?_⟩
     · rw [List.take_add_one,gM,hx]
       exact Each.snoc he (s03 _ _ t4)
     · rcases gA hl with h | h
       · exact hnl l h z
       · rw [gG h] at z
         have:=hfr2 b1 z
         rw [s1 _ _ t4] at this
         cases this
   rintro acc H4 ⟨_,e0,ls,rfl,hX4,hnl⟩ pk H5 f5 s5 e5
   replace e0:=e0.symm
   subst e0
   rw [tl,List.take_of_length_le (by simp)] at hX4
   walk_at "r"
   have s35:=s3.trans s5
   have s15:=s2.trans s35
   have s05:=s1.trans s15
   have hL5:=hL2.same s35
   have nin:∀ {p:Addr}{o:HO}{Hx:Hp},Hx p=none→Same H2 Hx→p∉las:=fun {p o Hx} h s z=>by
    obtain ⟨j,hj,e⟩:=List.mem_iff_getElem.mp z
    have hl:=hL2.at_.1
    obtain ⟨us',h1,_⟩:=hL2.at_.2 j _ [] (gE hj) (by rw [gE (by omega)]; simp)
    rw [e] at h1
    rw [s _ _ h1] at h
    cases h
   refine ⟨oa,ra,pk,List.replicate xs.length 0,las,ls,List.replicate xs.length [],xs.map (fun x:Tab=>x.sy),rfl,⟨s15 _ _ e1,⟨s5 _ _ e3,hL5,e5,hX4.mono fun l x h=>s5 _ _ h,nin (o:=.tup []) f3 (Same.refl _),nin (o:=.tup []) f5 s3,hnl,by omega,bc6 _,fun y hy=>?_⟩,fun z=>?_,by simp; omega⟩,fun st stv H6 o6 e6 hS6=>?_⟩
   · obtain ⟨x,hx,rfl⟩:=List.mem_map.mp hy
     exact (hok x hx).sy
   · have:=hfr2 oa z
     rw [e1] at this
     cases this
   have s06:Same H' H6:=fun y ob e=>o6 y ob (fun z=>by have:=hfr2 y z; rw [s1 _ _ e] at this; cases this) (s05 _ _ e)
   rw [show (List.replicate xs.length 0).zip (stlA (List.replicate xs.length []) (xs.map (·.sy)))=stT xs Os 0 from rfl] at hS6
   walk_at "r"
   refine aa4 (SqL.of (s06 _ _ htu)) ?_
   rw [ul]
   walk_at "r"
   rw [show ((Os.length:Int)+1).toNat=Os.length+1 by omega]
   refine ab3 (lo:=0) (n:=Os.length+1) (fun i σ Hx=>i≤Os.length+1∧Same H' Hx∧(∀ t,t<i→Qt xs (stT xs Os t))∧∃ (st:Addr) (stv:List V) (y3 y4:Option V),Hx st=some (.tup stv)∧(i≤Os.length→Each (StdAt Hx) stv (stT xs Os i))∧σ=[some (.ref ta),some (.ref tu),some (.ref st),y3,y4]) ⟨Nat.zero_le _,s06,fun t ht=>absurd ht (Nat.not_lt_zero _),st,stv,_,_,e6,fun _=>hS6,rfl⟩ ?_ ?_
   · rintro i σ H7 hi ⟨_,s7,hq,st,stv,y3,y4,hst,hSt,rfl⟩
     rw [Int.zero_add]
     have hil:i≤Os.length:=by omega
     have hSo:=b08 hok hol hil
     have hSt':=hSt hil
     walk_at "r"
     refine ⟨ta,st,tvs,stv,xs,stT xs Os i,rfl,⟨s7 _ _ hta,hT.mono fun v x h=>h.same s7,hok,hSo,hst,hSt',hn⟩,fun ks A' R hd l H8 s8 e8=>?_,fun hd H8 s8=>?_⟩
     · walk_at "r"
       refine .inr ⟨l,_,_,rfl,e8,rfl,?_⟩
       walk_at "r"
       intro p9 H9 f9 s9 e9
       refine ba3 (SqL.of (s9 _ _ e8)) (SqL.of e9) ?_
       walk_at "r"
       have s79:=s8.trans s9
       have s09:=s7.trans s79
       cases ks with
       | cons k0 kr =>
         rw [if_pos (by simp [natsV])]
         walk_at "r"
         refine a86 (SqL.of (s9 _ _ e8)) (a05 (j:=0) (v:=.int (k0:Nat)) rfl) ?_
         walk_at "r"
         intro r10 H10 f10 s10 e10
         exact q (some (some (i,k0))) _ H10 (s09.trans s10) ⟨i,hil,hq,.inr (.inl ⟨k0,kr,A',R,hd,rfl⟩)⟩ (.inr (.inr ⟨i,k0,r10,rfl,rfl,e10⟩))
       | nil =>
         rw [if_neg (by simp [natsV])]
         walk_at "r"
         refine aa4 (SqL.of (s09 _ _ htu)) ?_
         rw [ul]
         walk_at "r"
         have hq1:∀ t,t<i+1→Qt xs (stT xs Os t):=fun t ht=>by
          by_cases e:t=i
          · rw [e]; exact ⟨A',R,hd⟩
          · exact hq t (by omega)
         by_cases hlt:i<Os.length
         · rw [if_pos (decide_eq_true (by omega))]
           obtain ⟨os,hos⟩:∃ os,Os[i]?=some os:=⟨_,gE hlt⟩
           obtain ⟨uv,huv,ou,ovs,rfl,hou,hov⟩:=Each.get (hO.mono fun v x h=>h.same s09) hos
           have hosl:=hol os (gI hos)
           have eN:stT xs Os (i+1)=nxO xs (stT xs Os i) os:=by
            show nxO _ _ (Os.getD i [])=_
            rw [List.getD_eq_getElem?_getD,hos]
            rfl
           walk_at "r"
           refine a86 (SqL.of (s09 _ _ htu)) (a05 (j:=i) huv) ?_
           walk_at "r"
           refine ⟨ta,st,ou,tvs,stv,ovs,xs,stT xs Os i,os,rfl,⟨s09 _ _ hta,hT.mono fun v x h=>h.same s09,hok,hSo,s79 _ _ hst,hSt'.mono fun v x h=>h.tups s79.tups,hn,hou,hov,hosl⟩,fun r tk st10 ls10 stv10 H10 s10 e10 _ _ hst10 hS10=>?_⟩
           walk_at "r"
           refine a86 (SqL.of e10) (a05 (j:=1) rfl) ?_
           walk_at "r"
           exact ⟨by omega,s09.trans s10,hq1,st10,stv10,_,_,hst10,fun _=>by rw [eN]; exact hS10,rfl⟩
         · rw [if_neg (by simp; omega)]
           walk_at "r"
           exact ⟨by omega,s09,hq1,st,stv,_,_,s79 _ _ hst,fun h=>absurd h (by omega),rfl⟩
     · walk_at "r"
       refine .inl ⟨rfl,?_⟩
       rw [decide_eq_true rfl]
       walk_at "r"
       exact q none _ H8 (s7.trans s8) ⟨i,hil,hq,.inl ⟨hd,rfl⟩⟩ (.inl ⟨rfl,rfl⟩)
   · rintro σ H7 ⟨_,s7,hq,st,stv,y3,y4,hst,hSt,rfl⟩
     walk_at "r"
     exact q (some none) _ H7 s7 ⟨Os.length,Nat.le_refl _,fun t ht=>hq t (by omega),.inr (.inr ⟨rfl,hq _ (by omega),rfl⟩)⟩ (.inr (.inl ⟨rfl,rfl⟩))
theorem len3 {α:Type}{xs:List α}(h:xs.length=3):∃ x y z,xs=[x,y,z]:=by
 match xs,h with
 | [x,y,z],_=>exact ⟨x,y,z,rfl⟩
def bk4 (K:W.Frag) (P:Params) (C Ct:Addr):Sp:=fun vs H Q _=>∃ (p tu:Addr) (ms:List Addr) (xs:List Tab) (Os:List (List Ev)) (uvs:List V),vs=[.ref p,.ref tu]∧FallPre P C Ct H p tu ms xs Os uvs∧∀ r v H',Same H H'→Fall xs Os r→ResAt H' v r→Q v H'
theorem au7 (T:Txt K mg t):FnOk P w K mg base CX0 6 t.a__law_found t.fd__law_found ["hall","turns"] (bk4 K w.params t.c_Hall t.c_TableMachine):=by
 have G_first_fall:=aq2 (P:=P) (w:=w) (base:=base) T
 refine T.F__law_found.ok sc_law_found (fun vs H Q E h=>?_) (fun cdv A outer s H vs Q E hr h=>?_)
 · obtain ⟨p,tu,ms,xs,Os,uvs,rfl,_⟩:=h
   rfl
 · obtain ⟨p,tu,ms,xs,Os,uvs,rfl,hpre,q⟩:=h
   refine ⟨_,(@a03 _ _ _ _ _ (@a36 _ _ 2 _ _ _ _ sc_law_found.nd rfl (by walk_at "o") (@a51 _ _ _ _) (by rfl) (by walk_at "o"))
    (@a03 _ _ _ _ _ (c38 rfl rfl (by decide +kernel) T.xe_TooMany T.m_TooMany rfl (fun E pn xe hx=>(@a07 _ _ _ (@a36 _ _ 2 _ _ _ _ sc_law_found.nd rfl (by walk_at "o") (@a32 _ _ _ _ _ _ _ _ _ _ _ _ _ _ _ _ G_first_fall (hr.mono (by omega)) rfl T.m_first_fall T.F_first_fall.kp T.b_first_fall .nil hx (@a00 _ _ _ _ _ (pv 0) (@a00 _ _ _ _ _ (pv 1) (@a01 _) (by rfl)) (by rfl)) (by decide) (by rfl) (by rfl)) (by rfl) (by walk_at "o")))) (fun _=>(@a07 _ _ _ (@a36 _ _ 2 _ _ _ _ sc_law_found.nd rfl (by walk_at "o") (@a51 _ _ _ _) (by rfl) (by walk_at "o")))))
    (@a07 _ _ _ (@a52 _ _ _ _ (pv 2))))),?_⟩
   walk_at "go"
   refine ⟨p,tu,ms,xs,Os,uvs,rfl,hpre,fun r v H' s' hf hv=>?_,fun hf H' s' σ' hσ=>?_⟩
   · walk_at "r"
     exact q _ v H' s' hf hv
   · obtain ⟨x,y,z,rfl⟩:=len3 (show List.length σ'=3 from hσ)
     walk_at "r"
     exact q none _ H' s' hf (.inl ⟨rfl,rfl⟩)
inductive Kn where
 | key (n:Nat)
 | ring (m:Nat)
def ai6:List Say:=[(none,Str.ofString "a")]
def ac3 (k:Nat):List Say:=if k=0 then [(none,Str.ofString "b")] else []
def Kn.tab:Kn→Tab
 | .key n=>⟨[.quiet,.key 1],[],(List.range n).map (fun k=>(false,[(ai6,k),([],k+1)]))++[(false,[([],n),([],n)])]⟩
 | .ring m=>⟨[.quiet,.key 1],[],(List.range m).map fun k=>(false,[(ac3 k,(k+1) % m),(ac3 k,(k+1) % m)])⟩
def Kn.nx:Kn→Nat→Bool→Nat
 | .key n,p,true=>if p<n then p+1 else n
 | .key _,p,false=>p
 | .ring m,p,_=>(p+1) % m
def Kn.sy:Kn→Nat→Bool→List Say
 | .key n,p,false=>if p<n then ai6 else []
 | .key _,_,true=>[]
 | .ring _,p,_=>ac3 p
def Kn.Ok:Kn→Prop
 | .key n=>n≤20
 | .ring m=>0<m∧m≤64
def Kn.In:Kn→Nat→Prop
 | .key n,p=>p≤n
 | .ring m,p=>p<m
theorem Kn.nx_in {k:Kn}{p:Nat}{b:Bool}(h:k.Ok) (h2:k.In p):k.In (k.nx p b):=by
 cases k with
 | key n =>
   cases b
   · exact h2
   · show (if p<n then p+1 else n)≤n
     split <;> omega
 | ring m=>exact Nat.mod_lt _ h.1
def isK:Ev→Bool
 | .quiet=>false
 | _=>true
def NoW (o:Ev):Prop:=o=.quiet∨∃ c,o=.key c
theorem plq:plN [.quiet,.key 1] .quiet=0:=bc9 (ax4 (by simp) (.inl ⟨by simp,rfl⟩))
theorem plk (c:Nat):plN [.quiet,.key 1] (.key c)=1:=bc9 (ax4 (by simp) (by
 by_cases h:c=1
 · subst h
   exact .inl ⟨by simp,rfl⟩
 · refine .inr ⟨by simp [h],.inl ⟨.key 1,rfl,rfl,fun m y h1 h2=>?_⟩⟩
   rw [List.getElem?_eq_none (by simp; omega)] at h2
   cases h2))
theorem bn3 {k:Kn}{p:Nat}{o:Ev}(h:k.Ok) (h2:k.In p) (ho:NoW o):rowO k.tab (p,[]) o=(k.sy p (isK o),k.nx p (isK o)):=by
 unfold rowO
 cases k with
 | key n =>
   have hr:(Kn.key n).tab.rs.getD p (false,[])=if p<n then (false,[(ai6,p),([],p+1)]) else (false,[([],n),([],n)]):=by
    have h3:p≤n:=h2
    show (((List.range n).map (fun k=>(false,[(ai6,k),([],k+1)]))++[(false,[([],n),([],n)])]):List SRoom).getD p (false,[])=_
    rw [List.getD_eq_getElem?_getD]
    by_cases e:p<n
    · rw [if_pos e,List.getElem?_append_left (by simp; exact e)]
      simp [e]
    · have e':p=n:=by omega
      subst e'
      rw [if_neg e,List.getElem?_append_right (by simp)]
      simp
   rw [show ((p,[]):Nat×List Ev).1=p from rfl,hr,show (Kn.key n).tab.es=[.quiet,.key 1] from rfl]
   rcases ho with rfl | ⟨c,rfl⟩
   · rw [show evOf (inRow ((p,[]):Nat×List Ev).2 .quiet)=.quiet from rfl,plq]
     show _=(if p<n then ai6 else [],p)
     by_cases e:p<n
     · rw [if_pos e,if_pos e]
       rfl
     · rw [if_neg e,if_neg e]
       have h3:p≤n:=h2
       rw [show p=n by omega]
       rfl
   · rw [show evOf (inRow ((p,[]):Nat×List Ev).2 (.key c))=.key c from rfl,plk]
     show _=([],if p<n then p+1 else n)
     by_cases e:p<n
     · rw [if_pos e,if_pos e]
       rfl
     · rw [if_neg e,if_neg e]
       rfl
 | ring m =>
   have h3:p<m:=h2
   have hr:(Kn.ring m).tab.rs.getD p (false,[])=(false,[(ac3 p,(p+1) % m),(ac3 p,(p+1) % m)]):=by
    show (((List.range m).map fun k=>(false,[(ac3 k,(k+1) % m),(ac3 k,(k+1) % m)])):List SRoom).getD p (false,[])=_
    rw [List.getD_eq_getElem?_getD]
    simp [h3]
   rw [show ((p,[]):Nat×List Ev).1=p from rfl,hr,show (Kn.ring m).tab.es=[.quiet,.key 1] from rfl]
   rcases ho with rfl | ⟨c,rfl⟩
   · rw [show evOf (inRow ((p,[]):Nat×List Ev).2 .quiet)=.quiet from rfl,plq]
     rfl
   · rw [show evOf (inRow ((p,[]):Nat×List Ev).2 (.key c))=.key c from rfl,plk]
     rfl
theorem bk5:SaysOk ai6:=⟨by simp [ai6],fun s hs=>by
 rw [gG hs]
 exact ⟨by decide +kernel,fun l hl=>nomatch hl⟩⟩
theorem b31 (k:Nat):SaysOk (ac3 k):=by
 unfold ac3
 split
 · exact ⟨by simp,fun s hs=>by
    rw [gG hs]
    exact ⟨by decide +kernel,fun l hl=>nomatch hl⟩⟩
 · exact ⟨by simp,by simp⟩
theorem au8:SaysOk []:=⟨by simp,by simp⟩
theorem c99 {k:Kn}(h:k.Ok):TOk k.tab:=by
 cases k with
 | key n =>
   have hn:n≤20:=h
   refine ⟨by show ([.quiet,.key 1]:List Ev).Nodup; simp,by show 0<2; omega,by show 2≤100; omega,au8,?_,?_,fun r hr=>?_⟩
   · show 0<(_++[_]:List SRoom).length
     simp
   · show (_++[_]:List SRoom).length≤100
     simp
     omega
   · have hl:(Kn.key n).tab.rs.length=n+1:=by show (_++[_]:List SRoom).length=_; simp
     rw [hl]
     rcases gA hr with hr | hr
     · obtain ⟨k,hk,rfl⟩:=List.mem_map.mp hr
       have:=List.mem_range.mp hk
       refine ⟨rfl,fun y hy=>?_⟩
       simp only [List.mem_cons,List.not_mem_nil,or_false] at hy
       rcases hy with rfl | rfl
       · exact ⟨by show k<n+1; omega,bk5⟩
       · exact ⟨by show k+1<n+1; omega,au8⟩
     · rw [gG hr]
       refine ⟨rfl,fun y hy=>?_⟩
       simp only [List.mem_cons,List.not_mem_nil,or_false] at hy
       rcases hy with rfl | rfl
       · exact ⟨by show n<n+1; omega,au8⟩
       · exact ⟨by show n<n+1; omega,au8⟩
 | ring m =>
   obtain ⟨h1,h2⟩:=h
   have hl:(Kn.ring m).tab.rs.length=m:=by show (List.map _ _:List SRoom).length=_; simp
   refine ⟨by show ([.quiet,.key 1]:List Ev).Nodup; simp,by show 0<2; omega,by show 2≤100; omega,au8,by omega,by omega,fun r hr=>?_⟩
   rw [hl]
   obtain ⟨k,hk,rfl⟩:=List.mem_map.mp hr
   refine ⟨rfl,fun y hy=>?_⟩
   simp only [List.mem_cons,List.not_mem_nil,or_false] at hy
   have:=Nat.mod_lt (k+1) h1
   rcases hy with rfl | rfl
   · exact ⟨this,b31 k⟩
   · exact ⟨this,b31 k⟩
theorem au9 {R:List (List Ev)}:∀ {s:List Say},(∀ x∈s,x.1=none)→stlS R s=R
 | [],_=>rfl
 | x::s,h=>by
   show stlS (stl R x) s=R
   have e:stl R x=R:=by unfold stl; rw [h x List.mem_cons_self]
   rw [e]
   exact au9 fun y hy=>h y (List.mem_cons_of_mem _ hy)
theorem al6 {R:List (List Ev)}:∀ {ss:List (List Say)},(∀ s∈ss,∀ x∈s,x.1=none)→stlA R ss=R
 | [],_=>rfl
 | s::ss,h=>by
   show stlA (stlS R s) ss=R
   rw [au9 (h s List.mem_cons_self)]
   exact al6 fun y hy=>h y (List.mem_cons_of_mem _ hy)
theorem bu0 {k:Kn}{p:Nat}{b:Bool}{x:Say}(h:x∈k.sy p b):x.1=none:=by
 have hB:∀ j,x∈ac3 j→x.1=none:=fun j hj=>by
  unfold ac3 at hj
  split at hj
  · rw [gG hj]
  · cases hj
 cases k with
 | key n =>
   cases b
   · have:x∈(if p<n then ai6 else []):=h
     split at this
     · rw [gG this]
     · cases this
   · cases h
 | ring m=>exact hB p h
abbrev KL:=List (Kn×Nat)
def xsL (L:KL):List Tab:=L.map fun a=>a.1.tab
def stK (L:KL):Std:=L.map fun a=>(a.2,[])
def KLok (L:KL):Prop:=∀ a∈L,a.1.Ok∧a.1.In a.2
def goL (L:KL) (os:List Ev):KL:=List.zipWith (fun a o=>(a.1,a.1.nx a.2 (isK o))) L os
theorem av0 {L:KL}{os:List Ev}{i:Nat}{a:Kn×Nat}{o:Ev}(h1:L[i]?=some a) (h2:os[i]?=some o):(goL L os)[i]?=some (a.1,a.1.nx a.2 (isK o)):=by
 unfold goL
 rw [List.getElem?_zipWith,h1,h2]
theorem al7 {L:KL}{os:List Ev}(h:os.length=L.length):(goL L os).length=L.length:=by
 unfold goL
 simp [h]
theorem c49 {L:KL}{os:List Ev}(h:KLok L):KLok (goL L os):=fun a ha=>by
 obtain ⟨i,hi,rfl⟩:=List.mem_iff_getElem.mp ha
 unfold goL at hi ⊢
 rw [List.getElem_zipWith]
 have:=h _ (List.getElem_mem (show i<L.length by simp at hi; omega))
 exact ⟨this.1,Kn.nx_in this.1 this.2⟩
theorem c50 {L:KL}{os:List Ev}(h:os.length=L.length):xsL (goL L os)=xsL L:=by
 apply List.ext_getElem?
 intro i
 unfold xsL
 rw [gM,gM]
 by_cases hi:i<L.length
 · rw [av0 (gE hi) (gE (show i<os.length by omega)),gE hi]
   rfl
 · rw [List.getElem?_eq_none (by rw [al7 h]; omega),List.getElem?_eq_none (by omega)]
theorem c51 {L:KL}{os:List Ev}(h:KLok L) (ho:∀ o∈os,NoW o) (hl:os.length=L.length):nxO (xsL L) (stK L) os=stK (goL L os)∧saO (xsL L) (stK L) os=List.zipWith (fun a o=>a.1.sy a.2 (isK o)) L os:=by
 have h1:(stK L).length=(xsL L).length:=by simp [stK,xsL]
 have h2:os.length=(xsL L).length:=by simp [xsL,hl]
 have lx:(xsL L).length=L.length:=by simp [xsL]
 have at_:∀ (i:Nat) x s o,(xsL L)[i]?=some x→(stK L)[i]?=some s→os[i]?=some o→∃ a,L[i]?=some a∧x=a.1.tab∧s=(a.2,[])∧rowO x s o=(a.1.sy a.2 (isK o),a.1.nx a.2 (isK o)):=fun i x s o e1 e2 e3=>by
  unfold xsL at e1
  rw [gM] at e1
  obtain ⟨a,ha,rfl⟩:=gO e1
  unfold stK at e2
  rw [gM,ha] at e2
  cases e2
  obtain ⟨k1,k2⟩:=h a (gI ha)
  exact ⟨a,ha,rfl,rfl,bn3 k1 k2 (ho o (gI e3))⟩
 have hsa:saO (xsL L) (stK L) os=List.zipWith (fun a o=>a.1.sy a.2 (isK o)) L os:=ah4 (f:=fun l:Ln=>l.y.1) (g:=fun x s o=>(rowO x s o).1) (fun _ _ _=>rfl) h1 h2 (by simp; omega) fun i x s o e1 e2 e3=>by
  obtain ⟨a,ha,rfl,rfl,hr⟩:=at_ i x s o e1 e2 e3
  rw [List.getElem?_zipWith,ha,e3,hr]
 refine ⟨?_,hsa⟩
 have hy2:(plO (xsL L) (stK L) os).map (·.y.2)=(goL L os).map (·.2):=ah4 (f:=fun l:Ln=>l.y.2) (g:=fun x s o=>(rowO x s o).2) (fun _ _ _=>rfl) h1 h2 (by rw [gL,al7 hl]; omega) fun i x s o e1 e2 e3=>by
  obtain ⟨a,ha,rfl,rfl,hr⟩:=at_ i x s o e1 e2 e3
  rw [gM,av0 ha e3,hr]
  rfl
 have hrow:(plO (xsL L) (stK L) os).map Ln.row=(goL L os).map fun _=>[]:=ah4 (f:=Ln.row) (g:=fun _ s o=>(inRow s.2 o).tail) (fun _ _ _=>rfl) h1 h2 (by rw [gL,al7 hl]; omega) fun i x s o e1 e2 e3=>by
  obtain ⟨a,ha,rfl,rfl,hr⟩:=at_ i x s o e1 e2 e3
  rw [gM,av0 ha e3]
  rcases ho o (gI e3) with rfl | ⟨c,rfl⟩
  · rfl
  · rfl
 unfold nxO outS
 rw [hy2,hrow,show (plO (xsL L) (stK L) os).map (·.y.1)=_ from hsa,al6 fun s hs x hx=>by
  obtain ⟨i,hi,rfl⟩:=List.mem_iff_getElem.mp hs
  rw [List.getElem_zipWith] at hx
  exact bu0 hx]
 unfold stK
 generalize goL L os=M
 induction M with
 | nil=>rfl
 | cons a M ih=>simp only [List.map_cons,List.zip_cons_cons,ih]
theorem c52 {L:KL}(h:∀ a∈L,a.2=0):begS (xsL L)=stK L:=by
 unfold begS
 rw [al6 fun s hs x hx=>by
  obtain ⟨t,ht,rfl⟩:=List.mem_map.mp hs
  obtain ⟨a,ha,rfl⟩:=List.mem_map.mp ht
  have e:a.1.tab.sy=[]:=by cases a.1 <;> rfl
  rw [e] at hx
  cases hx]
 unfold xsL stK
 rw [gL]
 induction L with
 | nil=>rfl
 | cons a M ih =>
   simp only [List.length_cons,List.replicate_succ,List.zip_cons_cons,List.map_cons,ih fun b hb=>h b (List.mem_cons_of_mem _ hb),h a List.mem_cons_self]
def Kn.it (k:Kn) (p:Nat):Nat→Nat
 | 0=>p
 | n+1=>k.nx (k.it p n) false
def itL (L:KL) (n:Nat):KL:=L.map fun a=>(a.1,a.1.it a.2 n)
theorem c53 {k:Kn}{p:Nat}(h:k.Ok) (h2:k.In p):∀ n,k.In (k.it p n)
 | 0=>h2
 | n+1=>Kn.nx_in h (c53 h h2 n)
theorem c54 {L:KL}(h:KLok L) (n:Nat):KLok (itL L n):=fun a ha=>by
 obtain ⟨b,hb,rfl⟩:=List.mem_map.mp ha
 exact ⟨(h b hb).1,c53 (h b hb).1 (h b hb).2 n⟩
theorem c55 (L:KL) (n:Nat):xsL (itL L n)=xsL L:=by
 unfold xsL itL
 rw [List.map_map]
 rfl
theorem bk6 (L:KL) (n:Nat):goL (itL L n) (qs (xsL L))=itL L (n+1):=by
 unfold goL itL qs xsL
 rw [List.map_map]
 induction L with
 | nil=>rfl
 | cons a L ih=>simp only [List.map_cons,List.zipWith_cons_cons,ih]; rfl
theorem bd9 {L:KL}(h:KLok L):∀ n,itQ (xsL L) (stK L) n=stK (itL L n)
 | 0=>by
   show stK L=_
   unfold stK itL
   rw [List.map_map]
   rfl
 | n+1=>by
   show nxO (xsL L) (itQ (xsL L) (stK L) n) (qs (xsL L))=_
   rw [bd9 h n]
   have:=(c51 (L:=itL L n) (os:=qs (xsL L)) (c54 h n) (fun o ho=>by unfold qs at ho; obtain ⟨_,_,rfl⟩:=List.mem_map.mp ho; exact .inl rfl) (by simp [qs,xsL,itL])).1
   rw [c55] at this
   rw [this,bk6]
theorem be0 (n p:Nat):∀ t,(Kn.key n).it p t=p
 | 0=>rfl
 | t+1=>be0 n p t
theorem be1 {m:Nat}(h:0<m):∀ t,(Kn.ring m).it 0 t=t % m
 | 0=>(Nat.zero_mod m).symm
 | t+1=>by
   show ((Kn.ring m).it 0 t+1) % m=_
   rw [be1 h t,Nat.mod_add_mod]
theorem bu1 {L:KL}(h:KLok L) {i j:Nat}(hi:L[i]?=some (.ring 64,0)) (hj:L[j]?=some (.ring 63,0)):Due (xsL L) (stK L) none:=by
 refine .inr ⟨fun k hk m hm e=>?_,rfl⟩
 rw [bd9 h,bd9 h] at e
 have at_:∀ {c r:Nat}(t:Nat),0<r→L[c]?=some (.ring r,0)→(stK (itL L t))[c]?=some (t % r,[]):=fun {c r} t hr hc=>by
  unfold stK itL
  rw [gM,gM,hc]
  show some ((Kn.ring r).it 0 t,_)=_
  rw [be1 hr]
 have e1:=at_ m (by decide) hi
 rw [e,at_ k (by decide) hi] at e1
 have e2:=at_ m (by decide) hj
 rw [e,at_ k (by decide) hj] at e2
 have d1:k % 64=m % 64:=(Prod.mk.inj (Option.some.inj e1)).1
 have d2:k % 63=m % 63:=(Prod.mk.inj (Option.some.inj e2)).1
 omega
theorem bu2 (k:Kn) (p:Nat):(k.tab.rs.getD p (false,[])).1=false:=by
 rw [List.getD_eq_getElem?_getD]
 cases h:k.tab.rs[p]? with
 | none=>rfl
 | some r =>
   have hm:=gI h
   show r.1=false
   cases k with
   | key n =>
     rcases gA hm with hm | hm
     · obtain ⟨j,_,rfl⟩:=List.mem_map.mp hm
       rfl
     · rw [gG hm]
   | ring m =>
     obtain ⟨j,_,rfl⟩:=List.mem_map.mp hm
     rfl
def dn (a:Kn×Nat):Bool:=match a.1 with
 | .key n=>decide (n≤a.2)
 | .ring _=>false
theorem bk7 {L:KL}(h:KLok L) (hk:∀ a∈L,∃ n,a.1=.key n):Due (xsL L) (stK L) (some ((List.range L.length).filter (fun i=>(L[i]?.map dn).getD false),0,1)):=by
 have hi1:itL L 1=itL L 0:=by
  unfold itL
  refine List.map_congr_left fun a ha=>?_
  obtain ⟨n,hn⟩:=hk a ha
  rw [hn,be0,be0]
 have e01:itQ (xsL L) (stK L) 0=itQ (xsL L) (stK L) 1:=by rw [bd9 h,bd9 h,hi1]
 refine .inl ⟨1,0,by decide,⟨by decide,e01,fun k hk m hm=>by omega⟩,?_⟩
 have hkp:kpQ (xsL L) (stK L) 1=(List.range L.length).filter (fun i=>(L[i]?.map dn).getD false):=by
  unfold kpQ
  rw [show (xsL L).length=L.length by simp [xsL]]
  refine List.filter_congr fun i hi=>?_
  have hi':=List.mem_range.mp hi
  have hL:L[i]?=some L[i]:=gE hi'
  show (!(false || ldQ (xsL L) (stK L) i))=_
  obtain ⟨k1,k2⟩:=h _ (List.getElem_mem hi')
  rw [bn1 (x:=L[i].1.tab) (s:=(L[i].2,[])) (by unfold xsL; rw [gM,hL]; rfl) (by unfold stK; rw [gM,hL]; rfl),bu2,bn3 k1 k2 (.inl rfl),hL]
  obtain ⟨n,hn⟩:=hk _ (List.getElem_mem hi')
  show (!(false || (false || decide (0<(L[i].1.sy L[i].2 false).length))))=dn L[i]
  unfold dn
  rw [hn]
  show (!(false || (false || decide (0<(if L[i].2<n then ai6 else []).length))))=decide (n≤L[i].2)
  by_cases e:L[i].2<n
  · rw [if_pos e,decide_eq_false (show ¬ n≤L[i].2 by omega)]
    rfl
  · rw [if_neg e,decide_eq_true (show n≤L[i].2 by omega)]
    rfl
 rw [hkp]
def hadC (Os:List (List Ev)) (i:Nat):Nat:=Os.countP fun os=>isK (os.getD i .quiet)
theorem av1 (Os:List (List Ev)) (os:List Ev) (i:Nat):hadC (Os++[os]) i=hadC Os i+(if isK (os.getD i .quiet)=true then 1 else 0):=by
 unfold hadC
 rw [List.countP_append,List.countP_singleton]
noncomputable def LT (Ks:List Kn) (Os:List (List Ev)):Nat→KL
 | 0=>Ks.map fun k=>(k,0)
 | t+1=>goL (LT Ks Os t) (Os.getD t [])
structure OsOk (Ks:List Kn) (Os:List (List Ev)):Prop where
 len:∀ os∈Os,os.length=Ks.length
 now:∀ os∈Os,∀ o∈os,NoW o
theorem ca0 {k:Kn}(h:k.Ok):k.In 0:=by
 cases k with
 | key n=>exact Nat.zero_le n
 | ring m=>exact h.1
theorem bk8 {Os:List (List Ev)}{t:Nat}(h:t<Os.length):Os.getD t []∈Os:=by
 rw [List.getD_eq_getElem?_getD,gE h]
 exact List.getElem_mem h
theorem be2 {Ks:List Kn}{Os:List (List Ev)}(hK:∀ k∈Ks,k.Ok) (hO:OsOk Ks Os):∀ {t:Nat},t≤Os.length→stT (Ks.map Kn.tab) Os t=stK (LT Ks Os t)∧xsL (LT Ks Os t)=Ks.map Kn.tab∧KLok (LT Ks Os t)∧(LT Ks Os t).length=Ks.length∧(LT Ks Os t).map (·.1)=Ks
 | 0,_=>by
   have ex:xsL (LT Ks Os 0)=Ks.map Kn.tab:=by
    unfold xsL LT
    rw [List.map_map]
    rfl
   refine ⟨?_,ex,fun a ha=>?_,by unfold LT; simp,by unfold LT; rw [List.map_map]; exact List.map_id _⟩
   · show begS _=_
     rw [← ex]
     exact c52 fun a ha=>by
      obtain ⟨k,_,rfl⟩:=List.mem_map.mp ha
      rfl
   · obtain ⟨k,hk,rfl⟩:=List.mem_map.mp ha
     exact ⟨hK k hk,ca0 (hK k hk)⟩
 | t+1,h=>by
   obtain ⟨i1,i2,i3,i4,i5⟩:=be2 hK hO (t:=t) (by omega)
   have hm:=bk8 (Os:=Os) (t:=t) (by omega)
   have hl:(Os.getD t []).length=(LT Ks Os t).length:=by rw [i4]; exact hO.len _ hm
   refine ⟨?_,by show xsL (goL _ _)=_; rw [c50 hl,i2],c49 i3,by show (goL _ _).length=_; rw [al7 hl,i4],?_⟩
   · show nxO _ (stT _ Os t) _=stK (goL _ _)
     rw [i1,←i2]
     exact (c51 i3 (hO.now _ hm) hl).1
   · refine Eq.trans ?_ i5
     show (goL _ _).map _=_
     apply List.ext_getElem?
     intro i
     rw [gM,gM]
     by_cases hi:i<(LT Ks Os t).length
     · rw [av0 (gE hi) (gE (show i<(Os.getD t []).length by omega)),gE hi]
       rfl
     · rw [List.getElem?_eq_none (by rw [al7 hl]; omega),List.getElem?_eq_none (by omega)]
theorem c56 {Ks:List Kn}{Os:List (List Ev)}(hK:∀ k∈Ks,k.Ok) (hO:OsOk Ks Os) {i n:Nat}(hi:Ks[i]?=some (.key n)):∀ {t:Nat},t≤Os.length→(LT Ks Os t)[i]?=some (.key n,min (hadC (Os.take t) i) n)
 | 0,_=>by
   unfold LT
   rw [gM,hi]
   show some (Kn.key n,0)=some (Kn.key n,min 0 n)
   rw [Nat.zero_min]
 | t+1,h=>by
   have ih:=c56 hK hO hi (t:=t) (by omega)
   have ht:Os[t]?=some Os[t]:=gE (by omega)
   have hg:Os.getD t []=Os[t]:=by rw [List.getD_eq_getElem?_getD,ht]; rfl
   have hl:=hO.len Os[t] (List.getElem_mem _)
   have hi':i<Ks.length:=(gS hi).1
   have ho:Os[t][i]?=some (Os[t][i]'(by omega)):=gE (by omega)
   show (goL _ (Os.getD t []))[i]?=_
   rw [hg,av0 ih ho,List.take_add_one,ht,show (some Os[t]).toList=[Os[t]] from rfl,av1,show Os[t].getD i .quiet=Os[t][i]'(by omega) by rw [List.getD_eq_getElem?_getD,ho]; rfl]
   congr 1
   refine Prod.ext rfl ?_
   generalize isK (Os[t][i]'(by omega))=b
   cases b
   · show min _ n=min (_+0) n
     rfl
   · show (if min (hadC (Os.take t) i) n<n then min (hadC (Os.take t) i) n+1 else n)=min (hadC (Os.take t) i+1) n
     split <;> omega
def flN (ns:List Nat) (Os:List (List Ev)):List Nat:=(List.range ns.length).filter fun i=>decide (ns.getD i 0≤hadC Os i)
theorem c57 {ns:List Nat}{Os:List (List Ev)}(hN:∀ n∈ns,n≤20) (hO:OsOk (ns.map Kn.key) Os) {t:Nat}(ht:t≤Os.length):Due ((ns.map Kn.key).map Kn.tab) (stT ((ns.map Kn.key).map Kn.tab) Os t) (some (flN ns (Os.take t),0,1)):=by
 have hK:∀ k∈ns.map Kn.key,k.Ok:=fun k hk=>by
  obtain ⟨n,hn,rfl⟩:=List.mem_map.mp hk
  exact hN n hn
 obtain ⟨i1,i2,i3,i4,i5⟩:=be2 hK hO ht
 have:=bk7 i3 fun a ha=>by
  have:a.1∈ns.map Kn.key:=by rw [← i5]; exact List.mem_map_of_mem ha
  obtain ⟨n,_,e⟩:=List.mem_map.mp this
  exact ⟨n,e.symm⟩
 rw [i1]
 rw [i2] at this
 rw [show flN ns (Os.take t)=(List.range (LT (ns.map Kn.key) Os t).length).filter (fun i=>((LT (ns.map Kn.key) Os t)[i]?.map dn).getD false) from ?_]
 · exact this
 · unfold flN
   rw [i4,gL]
   refine List.filter_congr fun i hi=>?_
   have hi':=List.mem_range.mp hi
   have e:ns[i]?=some ns[i]:=gE hi'
   rw [c56 hK hO (n:=ns[i]) (by rw [gM,e]; rfl) ht,show ns.getD i 0=ns[i] by rw [List.getD_eq_getElem?_getD,e]; rfl]
   show _=decide (ns[i]≤min _ ns[i])
   rw [Bool.eq_iff_iff,decide_eq_true_iff,decide_eq_true_iff]
   omega
def LDue (ns:List Nat) (Os:List (List Ev)) (r:Option (Nat×Nat)):Prop :=
 (r=none∧∀ t,t≤Os.length→flN ns (Os.take t)=[])∨∃ g l ls,g≤Os.length∧(∀ t,t<g→flN ns (Os.take t)=[])∧flN ns (Os.take g)=l::ls∧r=some (g,l)
theorem LDue.fall {ns:List Nat}{Os:List (List Ev)}{r:Option (Nat×Nat)}(hN:∀ n∈ns,n≤20) (hO:OsOk (ns.map Kn.key) Os) (h:LDue ns Os r):Fall ((ns.map Kn.key).map Kn.tab) Os (some r):=by
 have du:=fun {t:Nat}(ht:t≤Os.length)=>c57 hN hO ht
 rcases h with ⟨rfl,h⟩ | ⟨g,l,ls,h1,h2,h3,rfl⟩
 · have qt:∀ t,t≤Os.length→Qt ((ns.map Kn.key).map Kn.tab) (stT ((ns.map Kn.key).map Kn.tab) Os t):=fun t ht=>⟨0,1,by have:=du ht; rw [h t ht] at this; exact this⟩
   exact ⟨Os.length,Nat.le_refl _,fun t ht=>qt t (by omega),.inr (.inr ⟨rfl,qt _ (Nat.le_refl _),rfl⟩)⟩
 · exact ⟨g,h1,fun t ht=>⟨0,1,by have:=du (t:=t) (by omega); rw [h2 t ht] at this; exact this⟩,.inr (.inl ⟨l,ls,0,1,by have:=du h1; rw [h3] at this; exact this,rfl⟩)⟩
theorem ag7 {α:Type}{l:List α}{x:α}{t:Nat}(h:t≤l.length):(l++[x]).take t=l.take t:=by rw [List.take_append_of_le_length h]
theorem LDue.none_snoc {ns:List Nat}{Os:List (List Ev)}{os:List Ev}(h:LDue ns Os none) (h2:flN ns (Os++[os])=[]):LDue ns (Os++[os]) none:=by
 rcases h with ⟨_,h⟩ | ⟨g,l,ls,_,_,_,h⟩
 · refine .inl ⟨rfl,fun t ht=>?_⟩
   by_cases e:t≤Os.length
   · rw [ag7 e]
     exact h t e
   · have:t=(Os++[os]).length:=by simp at ht ⊢; omega
     rw [this,List.take_length]
     exact h2
 · cases h
theorem LDue.new_snoc {ns:List Nat}{Os:List (List Ev)}{os:List Ev}{l:Nat}{ls:List Nat}(h:LDue ns Os none) (h2:flN ns (Os++[os])=l::ls):LDue ns (Os++[os]) (some (Os.length+1,l)):=by
 rcases h with ⟨_,h⟩ | ⟨g,l,ls,_,_,_,h⟩
 · refine .inr ⟨Os.length+1,l,ls,by simp,fun t ht=>?_,?_,rfl⟩
   · rw [ag7 (by omega)]
     exact h t (by omega)
   · rw [List.take_of_length_le (by simp)]
     exact h2
 · cases h
theorem LDue.some_snoc {ns:List Nat}{Os:List (List Ev)}{os:List Ev}{r:Nat×Nat}(h:LDue ns Os (some r)):LDue ns (Os++[os]) (some r):=by
 rcases h with ⟨h,_⟩ | ⟨g,l,ls,h1,h2,h3,h4⟩
 · cases h
 · exact .inr ⟨g,l,ls,by simp; omega,fun t ht=>by rw [ag7 (by omega)]; exact h2 t ht,by rw [ag7 h1]; exact h3,h4⟩
theorem LDue.nil {ns:List Nat}(h:∀ n∈ns,0<n):LDue ns [] none:=.inl ⟨rfl,fun t ht=>by
 rw [List.take_nil]
 unfold flN
 rw [List.filter_eq_nil_iff]
 intro i hi
 have hi':=List.mem_range.mp hi
 have:=h ns[i] (List.getElem_mem hi')
 rw [List.getD_eq_getElem?_getD,gE hi']
 show ¬ decide (ns[i]≤0)=true
 rw [decide_eq_true_iff]
 omega⟩
theorem b62 {ns:List Nat}{Os:List (List Ev)}(hN:∀ n∈ns,n≤20):Fall ((ns.map Kn.key++[Kn.ring 64,Kn.ring 63]).map Kn.tab) Os none:=by
 refine ⟨0,Nat.zero_le _,fun t ht=>absurd ht (Nat.not_lt_zero _),.inl ⟨?_,rfl⟩⟩
 have hK:∀ k∈ns.map Kn.key++[Kn.ring 64,Kn.ring 63],k.Ok:=fun k hk=>by
  rcases gA hk with hk | hk
  · obtain ⟨n,hn,rfl⟩:=List.mem_map.mp hk
    exact hN n hn
  · simp only [List.mem_cons,List.not_mem_nil,or_false] at hk
    rcases hk with rfl | rfl <;> exact ⟨by decide,by decide⟩
 obtain ⟨i1,i2,i3,i4,i5⟩:=be2 (Ks:=ns.map Kn.key++[Kn.ring 64,Kn.ring 63]) (Os:=[]) hK ⟨by simp,by simp⟩ (t:=0) (Nat.zero_le _)
 have e:stT ((ns.map Kn.key++[Kn.ring 64,Kn.ring 63]).map Kn.tab) Os 0=stT ((ns.map Kn.key++[Kn.ring 64,Kn.ring 63]).map Kn.tab) [] 0:=rfl
 rw [e,i1,←i2]
 refine bu1 i3 (i:=ns.length) (j:=ns.length+1) ?_ ?_
 · show (List.map _ _)[_]?=_
   rw [gM,List.getElem?_append_right (by simp),gL,Nat.sub_self]
   rfl
 · show (List.map _ _)[_]?=_
   rw [gM,List.getElem?_append_right (by simp),gL,show ns.length+1 - ns.length=1 by omega]
   rfl
theorem bn4 {H:Hp}{p q:Addr}(h1:H p=some (.tup [.str "quiet"])) (h2:H q=some (.tup [.str "key",.int 1])):Tr.Ats H (([.quiet,.key 1]:List Ev).map Ev.tr) [.ref p,.ref q] [] :=
 ats_cons0.mpr ⟨_,_,rfl,at_tup0.mpr ⟨p,_,rfl,h1,ats_cons0.mpr ⟨_,_,rfl,str_at0,ats_nil0.mpr rfl⟩⟩,ats_cons0.mpr ⟨_,_,rfl,ak1 h2 str_at0 az0,ats_nil0.mpr rfl⟩⟩
def bk9 (K:W.Frag):Sp:=fun vs H Q _=>∃ (n:Nat),vs=[.int (n:Nat)]∧n≤20∧∀ v H',Same H H'→TabW H' v (Kn.key n).tab→Q v H'
theorem av2 (T:Txt K mg t):FnOk P w K mg base CX0 1 t.a__law_keyed t.fd__law_keyed ["need"] (bk9 K):=by
 refine T.F__law_keyed.ok sc_law_keyed (fun vs H Q E h=>?_) (fun cdv A outer s H vs Q E hr h=>?_)
 · obtain ⟨n,rfl,_⟩:=h
   rfl
 · obtain ⟨n,rfl,hn,q⟩:=h
   refine ⟨_,(@a03 _ _ _ _ _ (ag9 (i:=1) (Nt:=["k"]) (Nf:=[]) (caps:=[]) rfl (a50 (sc:=defScope a75) rfl rfl (by decide +kernel) (by decide +kernel) (by decide +kernel) rfl (by decide +kernel)) (a95 rfl T.z_range (@a00 _ _ _ _ _ (pv 0) (@a01 _) (by rfl))) (fun _ _ _ _ _=>(a08 (i:=0) (show (["k"]:List Str).Nodup by decide +kernel) rfl (by walk_at "o"))) (fun _ _ _ _ _=>(@a59 _)) (fun _ _ _ _ _=>(@a34 _ _ _ _ _ (@a00 _ _ _ _ _ (@aj2 _ _ _ _) (@a00 _ _ _ _ _ (@a30 _ _ _ _ (@a00 _ _ _ _ _ (@a34 _ _ _ _ _ (@a00 _ _ _ _ _ (@a30 _ _ _ _ (@a00 _ _ _ _ _ (@a51 _ _ _ _) (@a01 _) (by rfl))) (@a00 _ _ _ _ _ (pv 0) (@a01 _) (by rfl)) (by rfl))) (@a00 _ _ _ _ _ (@a34 _ _ _ _ _ (@a00 _ _ _ _ _ (@a30 _ _ _ _ (@a01 _)) (@a00 _ _ _ _ _ (@a69 _ _ _ _ _ _ _ _ a76 (pv 0) (@a04 _ _ _ _)) (@a01 _) (by rfl)) (by rfl))) (@a01 _) (by rfl)) (by rfl))) (@a01 _) (by rfl)) (by rfl)))) sc_law_keyed.nd rfl (by walk_at "o") rfl)
    (@a07 _ _ _ (@a52 _ _ _ _ (@a34 _ _ _ _ _ (@a00 _ _ _ _ _ (@a30 _ _ _ _ (@a00 _ _ _ _ _ (@a34 _ _ _ _ _ (@a00 _ _ _ _ _ (@a51 _ _ _ _) (@a01 _) (by rfl))) (@a00 _ _ _ _ _ (@a34 _ _ _ _ _ (@a00 _ _ _ _ _ (@a51 _ _ _ _) (@a00 _ _ _ _ _ (@a04 _ _ _ _) (@a01 _) (by rfl)) (by rfl))) (@a01 _) (by rfl)) (by rfl))) (@a00 _ _ _ _ _ (@a30 _ _ _ _ (@a01 _)) (@a00 _ _ _ _ _ (@a69 _ _ _ _ _ _ _ _ a76 (pv 1) (@a30 _ _ _ _ (@a00 _ _ _ _ _ (@a34 _ _ _ _ _ (@a00 _ _ _ _ _ (@aj2 _ _ _ _) (@a00 _ _ _ _ _ (@a30 _ _ _ _ (@a00 _ _ _ _ _ (@a34 _ _ _ _ _ (@a00 _ _ _ _ _ (@a30 _ _ _ _ (@a01 _)) (@a00 _ _ _ _ _ (pv 0) (@a01 _) (by rfl)) (by rfl))) (@a00 _ _ _ _ _ (@a34 _ _ _ _ _ (@a00 _ _ _ _ _ (@a30 _ _ _ _ (@a01 _)) (@a00 _ _ _ _ _ (pv 0) (@a01 _) (by rfl)) (by rfl))) (@a01 _) (by rfl)) (by rfl))) (@a01 _) (by rfl)) (by rfl))) (@a01 _) (by rfl)))) (@a01 _) (by rfl)) (by rfl)) (by rfl)))))),?_⟩
   have sl:(1000000:Nat)≤sizeLine:=le_line (Nat.le_refl _)
   walk_at "go"
   rw [Int.toNat_natCast]
   refine ai8 (lo:=0) (n:=n) (by omega) (fun i acc H'=>i≤n∧acc.length=i∧Same H H'∧∃ gs,Tw.Ats H' ((((List.range i).map (fun k=>((false,[(ai6,k),([],k+1)]):SRoom))).map roomS).map roomW) acc gs) ⟨Nat.zero_le _,rfl,Same.refl _,[],by simp [Tw.Ats]⟩ (fun i acc H' ⟨_,e,_⟩=>by omega) ?_ ?_
   · rintro i acc H1 hi ⟨_,hl,s1,gs,hat⟩
     rw [Int.zero_add]
     walk_at "r"
     intro p1 H2 f2 s2 e2
     walk_at "r"
     intro p2 H3 f3 s3 e3
     walk_at "r"
     intro p3 H4 f4 s4 e4
     walk_at "r"
     intro p4 H5 f5 s5 e5
     walk_at "r"
     intro p5 H6 f6 s6 e6
     walk_at "r"
     intro p6 H7 f7 s7 e7
     have s27:=s2.trans (s3.trans (s4.trans (s5.trans (s6.trans s7))))
     refine ⟨hi,by simp [hl],s1.trans s27,gs++(p5::[p1,p3]),?_⟩
     rw [List.range_succ,List.map_append,List.map_append,List.map_append]
     refine Tw.Ats.snoc (hat.same s27) (room_w.mpr ⟨p6,p5,[.ref p2,.ref p4],[p1,p3],rfl,e7,s7 _ _ e6,?_,rfl⟩)
     show Tw.Ats H7 [rowW (rowS (ai6,i)),rowW (rowS ([],i+1))] [.ref p2,.ref p4] [p1,p3]
     simp only [Tw.Ats]
     exact ⟨_,_,[p1],[p3],rfl,rfl,row_w.mpr ⟨p2,p1,rfl,(s4.trans (s5.trans (s6.trans s7))) _ _ e3,(s3.trans (s4.trans (s5.trans (s6.trans s7)))) _ _ e2,rfl⟩,_,_,[p3],[],rfl,rfl,row_w.mpr ⟨p4,p3,rfl,(s6.trans s7) _ _ e5,(s5.trans (s6.trans s7)) _ _ e4,rfl⟩,rfl,rfl⟩
   rintro acc H1 ⟨_,hl,s1,gs,hat⟩ pr H2 f2 s2 e2
   walk_at "r"
   intro p1 H3 f3 s3 e3
   walk_at "r"
   intro p2 H4 f4 s4 e4
   walk_at "r"
   intro p3 H5 f5 s5 e5
   walk_at "r"
   intro p4 H6 f6 s6 e6
   walk_at "r"
   intro p5 H7 f7 s7 e7
   walk_at "r"
   intro p6 H8 f8 s8 e8
   walk_at "r"
   intro p7 H9 f9 s9 e9
   walk_at "r"
   intro p8 H10 f10 s10 e10
   walk_at "r"
   intro p9 H11 f11 s11 e11
   walk_at "r"
   intro p10 H12 f12 s12 e12
   walk_at "r"
   intro p11 H13 f13 s13 e13
   have s1113:=s12.trans s13
   have s1013:=s11.trans s1113
   have s913:=s10.trans s1013
   have s813:=s9.trans s913
   have s713:=s8.trans s813
   have s613:=s7.trans s713
   have s513:=s6.trans s613
   have s413:=s5.trans s513
   have s313:=s4.trans s413
   have s213:=s3.trans s313
   refine ah0 (s213 _ _ e2) e13 (by simp; omega) ?_
   intro p12 H14 f14 s14 e14
   walk_at "r"
   intro p13 H15 f15 s15 e15
   have s1315:=s14.trans s15
   refine q _ H15 (s1.trans (s2.trans (s213.trans s1315))) ⟨p3,p4,p12,gs++(p9::[p5,p7]),⟨p13,[.ref p1,.ref p2],_,rfl,e15,(s513.trans s1315) _ _ e5,bn4 ((s313.trans s1315) _ _ e3) ((s413.trans s1315) _ _ e4),(s613.trans s1315) _ _ e6,s15 _ _ e14,?_⟩⟩
   show Tw.Ats H15 (((((List.range n).map (fun k=>((false,[(ai6,k),([],k+1)]):SRoom)))++[(false,[([],n),([],n)])]).map roomS).map roomW) _ _
   rw [List.map_append,List.map_append]
   refine Tw.Ats.snoc (hat.same (s2.trans (s213.trans s1315))) (room_w.mpr ⟨p10,p9,[.ref p6,.ref p8],[p5,p7],rfl,(s13.trans s1315) _ _ e12,(s1113.trans s1315) _ _ e11,?_,rfl⟩)
   show Tw.Ats H15 [rowW (rowS ([],n)),rowW (rowS ([],n))] [.ref p6,.ref p8] [p5,p7]
   simp only [Tw.Ats]
   exact ⟨_,_,[p5],[p7],rfl,rfl,row_w.mpr ⟨p6,p5,rfl,(s813.trans s1315) _ _ e8,(s713.trans s1315) _ _ e7,rfl⟩,_,_,[p7],[],rfl,rfl,row_w.mpr ⟨p8,p7,rfl,(s1013.trans s1315) _ _ e10,(s913.trans s1315) _ _ e9,rfl⟩,rfl,rfl⟩
def bu3 (K:W.Frag):Sp:=fun vs H Q _=>∃ (m:Nat),vs=[.int (m:Nat)]∧0<m∧m≤64∧∀ v H',Same H H'→TabW H' v (Kn.ring m).tab→Q v H'
theorem ax9 (T:Txt K mg t):FnOk P w K mg base CX0 1 t.a__law_ring t.fd__law_ring ["many"] (bu3 K):=by
 refine T.F__law_ring.ok sc_law_ring (fun vs H Q E h=>?_) (fun cdv A outer s H vs Q E hr h=>?_)
 · obtain ⟨m,rfl,_⟩:=h
   rfl
 · obtain ⟨m,rfl,hm0,hm,q⟩:=h
   refine ⟨_,(@a03 _ _ _ _ _ (@a36 _ _ 1 _ _ _ _ sc_law_ring.nd rfl (by walk_at "o") (@a30 _ _ _ _ (@a01 _)) (by rfl) (by walk_at "o"))
    (@a03 _ _ _ _ _ (@aa9 _ _ _ _ _ _ _ _ PassesOwn.never rfl (a95 rfl T.z_range (@a00 _ _ _ _ _ (pv 0) (@a01 _) (by rfl))) (a08 (i:=2) sc_law_ring.nd rfl (by walk_at "o")) (@a03 _ _ _ _ _ (@a36 _ _ 3 _ _ _ _ sc_law_ring.nd rfl (by walk_at "o") (@a40 _ _ _ _ _ _ _ (a35 K) (@a30 _ _ _ _ (@a00 _ _ _ _ _ (@a30 _ _ _ _ (@a01 _)) (@a00 _ _ _ _ _ (@a30 _ _ _ _ (@a00 _ _ _ _ _ (@a51 _ _ _ _) (@a01 _) (by rfl))) (@a01 _) (by rfl)) (by rfl))) (@a37 _ _ _ _ _ _ _ _ _ ay7 (by rfl) T.z_int af4 (@a00 _ _ _ _ _ (@ac4 _ _ _ _ _ _ _ _ ai0 (pv 2) (@a04 _ _ _ _) (nomark _)) (@a01 _) (by rfl)) (by decide) (by decide) (by rfl) (by rfl)) (fun _ _=>rfl)) (by rfl) (by walk_at "o"))
     (@a07 _ _ _ (@aa5 _ _ _ _ (@ab0 _ K _ _ _ _ _ _ _ _ _ _ _ PySem.F.plainAttrs_list PySem.F.slot_list_append PySem.F.type_list_append a84 (pv 1) (@a00 _ _ _ _ _ (@a34 _ _ _ _ _ (@a00 _ _ _ _ _ (@aj2 _ _ _ _) (@a00 _ _ _ _ _ (@a30 _ _ _ _ (@a00 _ _ _ _ _ (@a34 _ _ _ _ _ (@a00 _ _ _ _ _ (@a37 _ _ _ _ _ _ _ _ _ (a94 K) (by rfl) T.z_list a98 (@a00 _ _ _ _ _ (pv 3) (@a01 _) (by rfl)) (by decide) (by decide) (by rfl) (by rfl)) (@a00 _ _ _ _ _ (@a69 _ _ _ _ _ _ _ _ ad8 (@a69 _ _ _ _ _ _ _ _ a76 (pv 2) (@a04 _ _ _ _)) (pv 0)) (@a01 _) (by rfl)) (by rfl))) (@a00 _ _ _ _ _ (@a34 _ _ _ _ _ (@a00 _ _ _ _ _ (@a37 _ _ _ _ _ _ _ _ _ (a94 K) (by rfl) T.z_list a98 (@a00 _ _ _ _ _ (pv 3) (@a01 _) (by rfl)) (by decide) (by decide) (by rfl) (by rfl)) (@a00 _ _ _ _ _ (@a69 _ _ _ _ _ _ _ _ ad8 (@a69 _ _ _ _ _ _ _ _ a76 (pv 2) (@a04 _ _ _ _)) (pv 0)) (@a01 _) (by rfl)) (by rfl))) (@a01 _) (by rfl)) (by rfl))) (@a01 _) (by rfl)) (by rfl))) (@a01 _) (by rfl)) (by rfl) (by rfl) (by rfl) (by rfl) (by rfl) (by rfl)) (by rfl)))) (by intro _; rfl))
    (@a07 _ _ _ (@a52 _ _ _ _ (@a34 _ _ _ _ _ (@a00 _ _ _ _ _ (@a30 _ _ _ _ (@a00 _ _ _ _ _ (@a34 _ _ _ _ _ (@a00 _ _ _ _ _ (@a51 _ _ _ _) (@a01 _) (by rfl))) (@a00 _ _ _ _ _ (@a34 _ _ _ _ _ (@a00 _ _ _ _ _ (@a51 _ _ _ _) (@a00 _ _ _ _ _ (@a04 _ _ _ _) (@a01 _) (by rfl)) (by rfl))) (@a01 _) (by rfl)) (by rfl))) (@a00 _ _ _ _ _ (@a30 _ _ _ _ (@a01 _)) (@a00 _ _ _ _ _ (pv 1) (@a01 _) (by rfl)) (by rfl)) (by rfl))))))),?_⟩
   have sl:(1000000:Nat)≤sizeLine:=le_line (Nat.le_refl _)
   walk_at "go"
   intro pr H1 f1 s1 e1
   walk_at "r"
   rw [Int.toNat_natCast]
   refine ab3 (lo:=0) (n:=m) (fun i σ H'=>i≤m∧Same H H'∧(∃ acc gs,H' pr=some (.lst acc)∧acc.length=i∧Tw.Ats H' ((((List.range i).map (fun k=>((false,[(ac3 k,(k+1) % m),(ac3 k,(k+1) % m)]):SRoom))).map roomS).map roomW) acc gs∧∀ a∈gs,a≠pr)∧∃ y2 y3,σ=[some (.int (m:Nat)),some (.ref pr),y2,y3]) ⟨Nat.zero_le _,s1,⟨[],[],e1,rfl,by simp [Tw.Ats],by simp⟩,_,_,rfl⟩ ?_ ?_
   · rintro i σ H2 hi ⟨_,s2,⟨acc,gs,e2,hl,hat,hgs⟩,y2,y3,rfl⟩
     rw [Int.zero_add]
     walk_at "r"
     intro p1 H3 f3 s3 e3
     walk_at "r"
     intro p2 H4 f4 s4 e4
     walk_at "r"
     intro p3 H5 f5 s5 e5
     walk_at "r"
     have s25:=s3.trans (s4.trans s5)
     obtain ⟨ps,hps,hp5⟩:∃ ps:Addr,atI [V.ref p1,V.ref p2] (if decide ((i:Int)=0)=true then 1 else 0)=some (.ref ps)∧H5 ps=some (.lst (strsV ((ac3 i).map sayT))):=by
      by_cases e:i=0
      · refine ⟨p2,by rw [decide_eq_true (by omega)]; exact a05 (j:=1) rfl,?_⟩
        unfold ac3
        rw [if_pos e]
        exact s5 _ _ e4
      · refine ⟨p1,by rw [decide_eq_false (by omega)]; exact a05 (j:=0) rfl,?_⟩
        unfold ac3
        rw [if_neg e]
        exact (s4.trans s5) _ _ e3
     refine a86 (SqL.of e5) hps ?_
     walk_at "r"
     have e25:=s25 _ _ e2
     refine af7 (SqL.of e25) ?_
     walk_at "r"
     refine aa7 (SqL.of hp5) ?_
     intro p6 H6 f6 s6 e6
     walk_at "r"
     rw [show ((i:Int)+1) % (m:Nat)=(((i+1) % m:Nat):Int) from rfl]
     intro p7 H7 f7 s7 e7
     walk_at "r"
     refine aa7 (SqL.of ((s6.trans s7) _ _ hp5)) ?_
     intro p8 H8 f8 s8 e8
     walk_at "r"
     rw [show ((i:Int)+1) % (m:Nat)=(((i+1) % m:Nat):Int) from rfl]
     intro p9 H9 f9 s9 e9
     walk_at "r"
     intro p10 H10 f10 s10 e10
     walk_at "r"
     intro p11 H11 f11 s11 e11
     walk_at "r"
     have s911:=s10.trans s11
     have s811:=s9.trans s911
     have s711:=s8.trans s811
     have s611:=s7.trans s711
     have s511:=s6.trans s611
     have e211:=s511 _ _ e25
     refine a96 e211 (by omega) ?_
     have hgn:∀ a∈gs++(p10::[p6,p8]),a≠pr:=fun a ha=>by
      rcases gA ha with h | h
      · exact hgs a h
      · simp only [List.mem_cons,List.not_mem_nil,or_false] at h
        rcases h with rfl | rfl | rfl
        · exact (a06 ((s6.trans (s7.trans (s8.trans s9))) _ _ e25) f10).symm
        · exact (a06 e25 f6).symm
        · exact (a06 ((s6.trans s7) _ _ e25) f8).symm
     have tu:Tups H11 (upd H11 pr (.lst (acc++[.ref p11]))):=Tups.upd e211
     refine ⟨hi,(s2.trans (s25.trans s511)).updNew f1,⟨acc++[.ref p11],gs++(p10::[p6,p8]),a33,by simp [hl],?_,hgn⟩,_,_,rfl⟩
     rw [List.range_succ,List.map_append,List.map_append,List.map_append]
     refine Tw.Ats.mono (Tw.Ats.snoc (hat.same (s25.trans s511)) (room_w.mpr ⟨p11,p10,[.ref p7,.ref p9],[p6,p8],rfl,e11,s11 _ _ e10,?_,rfl⟩)) ⟨tu,fun a ha xs e=>by rw [a09 (hgn a ha)]; exact e⟩
     show Tw.Ats H11 [rowW (rowS (ac3 i,(i+1) % m)),rowW (rowS (ac3 i,(i+1) % m))] [.ref p7,.ref p9] [p6,p8]
     simp only [Tw.Ats]
     exact ⟨_,_,[p6],[p8],rfl,rfl,row_w.mpr ⟨p7,p6,rfl,s711 _ _ e7,s611 _ _ e6,rfl⟩,_,_,[p8],[],rfl,rfl,row_w.mpr ⟨p9,p8,rfl,s911 _ _ e9,s811 _ _ e8,rfl⟩,rfl,rfl⟩
   · rintro σ H2 ⟨_,s2,⟨acc,gs,e2,hl,hat,hgs⟩,y2,y3,rfl⟩
     walk_at "r"
     intro p1 H3 f3 s3 e3
     walk_at "r"
     intro p2 H4 f4 s4 e4
     walk_at "r"
     intro p3 H5 f5 s5 e5
     walk_at "r"
     intro p4 H6 f6 s6 e6
     walk_at "r"
     intro p5 H7 f7 s7 e7
     have s57:=s6.trans s7
     have s47:=s5.trans s57
     have s37:=s4.trans s47
     have s27:=s3.trans s37
     exact q _ H7 (s2.trans s27) ⟨p3,p4,pr,gs,⟨p5,[.ref p1,.ref p2],acc,rfl,e7,s57 _ _ e5,bn4 (s37 _ _ e3) (s47 _ _ e4),s7 _ _ e6,s27 _ _ e2,hat.same s27⟩⟩
theorem StA.lst_ne {H:Hp}{s:Addr}{z:Int}(k:StA H s z) {p:Addr}{xs:List V}(h:H p=some (.lst xs)) (hx:∀ v∈xs,∀ i,v≠.int i):p≠s:=by
 obtain ⟨x,e⟩:=k
 rintro rfl
 rw [e] at h
 have h1:=Option.some.inj h
 injection h1 with h1
 subst h1
 exact hx (.int x) (by simp) x rfl
theorem StA.oth_ne {H:Hp}{s:Addr}{z:Int}(k:StA H s z) {p:Addr}{o:HO}(h:H p=some o) (hx:∀ xs,o≠.lst xs):p≠s:=by
 obtain ⟨x,e⟩:=k
 rintro rfl
 rw [e] at h
 exact hx _ (Option.some.inj h).symm
theorem be3 {H:Hp}:∀ {rows:List Row}{ps:List V}{gs:List Addr},Tw.Ats H (rows.map rowW) ps gs→(∀ v∈ps,∃ q,v=.ref q)∧∀ a∈gs,∃ xs,H a=some (.lst xs)∧∀ v∈xs,∀ i,v≠.int i
 | [],ps,gs,h=>by
   simp only [List.map_nil,Tw.Ats] at h
   obtain ⟨rfl,rfl⟩:=h
   simp
 | r::rows,ps,gs,h=>by
   simp only [List.map_cons,Tw.Ats] at h
   obtain ⟨v,ws,f,g,rfl,rfl,h1,h2⟩:=h
   obtain ⟨k,sl,rfl,_,e2,rfl⟩:=row_w.mp h1
   obtain ⟨i1,i2⟩:=be3 h2
   refine ⟨fun v hv=>?_,fun a ha=>?_⟩
   · rcases List.mem_cons.mp hv with rfl | hv
     · exact ⟨_,rfl⟩
     · exact i1 v hv
   · rcases gA ha with ha | ha
     · rw [gG ha]
       refine ⟨_,e2,fun v hv i=>?_⟩
       obtain ⟨s,_,rfl⟩:=List.mem_map.mp (show v∈r.1.map V.str from hv)
       exact fun z=>nomatch z
     · exact i2 a ha
theorem aq4 {H:Hp}:∀ {rs:List ag3}{rvs:List V}{gs:List Addr},Tw.Ats H (rs.map roomW) rvs gs→(∀ v∈rvs,∃ q,v=.ref q)∧∀ a∈gs,∃ xs,H a=some (.lst xs)∧∀ v∈xs,∀ i,v≠.int i
 | [],ps,gs,h=>by
   simp only [List.map_nil,Tw.Ats] at h
   obtain ⟨rfl,rfl⟩:=h
   simp
 | r::rs,ps,gs,h=>by
   simp only [List.map_cons,Tw.Ats] at h
   obtain ⟨v,ws,f,g,rfl,rfl,h1,h2⟩:=h
   obtain ⟨q,g0,ps0,gs0,rfl,_,e2,e3,rfl⟩:=room_w.mp h1
   obtain ⟨i1,i2⟩:=aq4 h2
   obtain ⟨j1,j2⟩:=be3 e3
   refine ⟨fun v hv=>?_,fun a ha=>?_⟩
   · rcases List.mem_cons.mp hv with rfl | hv
     · exact ⟨_,rfl⟩
     · exact i1 v hv
   · rcases gA ha with ha | ha
     · rcases List.mem_cons.mp ha with rfl | ha
       · refine ⟨_,e2,fun v hv i=>?_⟩
         obtain ⟨q',rfl⟩:=j1 v hv
         exact fun z=>nomatch z
       · exact j2 a ha
     · exact i2 a ha
theorem be4 {ss:List Str}:∀ v∈strsV ss,∀ i,v≠.int i:=fun v hv i=>by
 obtain ⟨s,_,rfl⟩:=List.mem_map.mp (show v∈ss.map V.str from hv)
 exact fun z=>nomatch z
theorem ad1 {vs:List V}(h:∀ v∈vs,∃ q,v=.ref q):∀ v∈vs,∀ i,v≠.int i:=fun v hv i=>by
 obtain ⟨q,rfl⟩:=h v hv
 exact fun z=>nomatch z
theorem TabW.oth {H H':Hp}{s:Addr}{z:Int}{v:V}{x:Tab}(h:TabW H v x) (o:Oth s H H') (k:StA H s z):TabW H' v x:=by
 obtain ⟨a,b,c,gs,h⟩:=h
 obtain ⟨t,us,rvs,h1,h2,h3,h4,h5,h6,h7⟩:=h.ex
 have tu:=o.tups k
 obtain ⟨r1,r2⟩:=aq4 h7
 have hus:∀ v∈us,∃ q,v=.ref q:=fun v hv=>by
  obtain ⟨j,hj,rfl⟩:=List.mem_iff_getElem.mp hv
  obtain ⟨tx,e1,e2⟩:=ap5 h4 (gE hj)
  rw [gM] at e1
  obtain ⟨e,_,rfl⟩:=gO e1
  obtain ⟨q,_,hq,_⟩:=bj0 e2
  exact ⟨q,hq⟩
 exact ⟨a,b,c,gs,⟨t,us,rvs,h1,tu _ _ h2,o _ _ (k.lst_ne h3 (ad1 hus)) h3,a62 h4 tu,o _ _ (k.lst_ne h5 be4) h5,o _ _ (k.lst_ne h6 (ad1 r1)) h6,h7.mono ⟨tu,fun a ha xs e=>by
  obtain ⟨ys,e1,e2⟩:=r2 a ha
  exact o _ _ (k.lst_ne e1 e2) e⟩⟩⟩
theorem MS.oth {P:Params}{C m:Addr}{H H':Hp}{s:Addr}{z:Int}{x:Tab}(h:MS P C H m x) (o:Oth s H H') (k:StA H s z):MS P C H' m x:=by
 obtain ⟨d,s1,c,gs,h⟩:=h
 obtain ⟨dx,rvs,h1,h2,h3,h4,h5⟩:=h.ex
 have tu:=o.tups k
 obtain ⟨r1,r2⟩:=aq4 h5
 obtain ⟨φ,hφ⟩:=h2.ext
 exact ⟨d,s1,c,gs,⟨dx,rvs,o _ _ (k.oth_ne h1 (fun _ z=>nomatch z)) h1,h2.mono tu (by rw [hφ]; exact o _ _ (k.oth_ne hφ (fun _ z=>nomatch z)) hφ),o _ _ (k.lst_ne h3 be4) h3,o _ _ (k.lst_ne h4 (ad1 r1)) h4,h5.mono ⟨tu,fun a ha xs e=>by
  obtain ⟨ys,e1,e2⟩:=r2 a ha
  exact o _ _ (k.lst_ne e1 e2) e⟩⟩⟩
theorem b32 (ms:List Addr):∀ v∈ms.map V.ref,∃ q,v=.ref q:=fun v hv=>by
 obtain ⟨m,_,rfl⟩:=List.mem_map.mp hv
 exact ⟨m,rfl⟩
theorem HallAt.oth {C p:Addr}{H H':Hp}{s:Addr}{z:Int}{ms:List Addr}(h:HallAt C H p ms) (o:Oth s H H') (k:StA H s z):HallAt C H' p ms:=by
 obtain ⟨dx,l1,l2,h1,h2,h3⟩:=h.ex
 exact ⟨dx,l1,l2,o _ _ (k.oth_ne h1 (fun _ z=>nomatch z)) h1,o _ _ (k.lst_ne h2 (ad1 (b32 ms))) h2,o _ _ (k.lst_ne h3 (ad1 (b32 ms))) h3⟩
theorem Oth.updNew {s p:Addr}{H H':Hp}{o:HO}(h:Oth s H H') (f:H p=none):Oth s H (upd H' p o):=fun y ob hy e=>by
 rw [a09 (a06 e f)]
 exact h y ob hy e
theorem OtAt.oth {p:Addr}{H H':Hp}{v:V}{os:List Ev}(h:OtAt H v os) (b:Oth p H H') (hp:∃ xs,H p=some (.lst xs)) (hn:v≠.ref p):OtAt H' v os:=by
 obtain ⟨ou,ovs,rfl,e2,e3⟩:=h
 obtain ⟨xs,hp⟩:=hp
 have tu:Tups H H':=fun a ys e=>b a _ (ae0 e hp (fun z=>nomatch z)) e
 exact ⟨ou,ovs,rfl,b _ _ (fun z=>hn (by rw [z])) e2,e3.mono fun v x h=>a78 h tu⟩
theorem StA.lst {H:Hp}{s:Addr}{z:Int}(k:StA H s z):∃ xs,H s=some (.lst xs):=by
 obtain ⟨x,e⟩:=k
 exact ⟨_,e⟩
theorem aq5 {p:Addr}{H:Hp}{o:HO}:Oth p H (upd H p o):=fun y ob hy e=>by
 rw [a09 hy]
 exact e
theorem ResAt.tups {H H':Hp}{v:V}{r:Res}(h:ResAt H v r) (s:Tups H H'):ResAt H' v r:=h.same s
structure KnownAt (H:Hp) (r:Addr) (xs:List Tab) (Os:List (List Ev)) (ta tu:Addr) (tvs uvs:List V) (dv:V) (res:Res):Prop where
 hr:H r=some (.lst [.ref ta,.ref tu,dv])
 hta:H ta=some (.lst tvs)
 hT:Each (TabW H) tvs xs
 hok:∀ x∈xs,TOk x
 hn:xs.length≤100
 htu:H tu=some (.lst uvs)
 hO:Each (OtAt H) uvs Os
 hl:Os.length≤1000
 hol:∀ os∈Os,os.length=xs.length
 hF:Fall xs Os res
 hR:ResAt H dv res
def KsN (ns:List Nat) (b:Bool):List Kn:=ns.map Kn.key++(if b=true then [Kn.ring 64,Kn.ring 63] else [])
theorem c58 {ns:List Nat}{b:Bool}(h:∀ n∈ns,0<n∧n≤20):∀ x∈(KsN ns b).map Kn.tab,TOk x:=fun x hx=>by
 obtain ⟨k,hk,rfl⟩:=List.mem_map.mp hx
 refine c99 ?_
 unfold KsN at hk
 rcases gA hk with hk | hk
 · obtain ⟨n,hn,rfl⟩:=List.mem_map.mp hk
   exact (h n hn).2
 · cases b
   · cases hk
   · rcases List.mem_cons.mp hk with rfl | hk
     · exact ⟨by decide,by decide⟩
     · rw [gG hk]
       exact ⟨by decide,by decide⟩
theorem aq6 {H:Hp}{tvs:List V}{xs:List Tab}(h:Each (TabW H) tvs xs):∀ v∈tvs,∃ q,v=.ref q:=fun v hv=>by
 have hl:=h.len
 obtain ⟨j,hj,rfl⟩:=List.mem_iff_getElem.mp hv
 obtain ⟨a1,b1,c1,gs1,ht⟩:=h.2 j _ (xs[j]'(by omega)) (gE hj) (gE (by omega))
 obtain ⟨tt,_,_,e,_⟩:=ht.ex
 exact ⟨tt,e⟩
def bl0 (K:W.Frag):Sp:=fun vs H Q _=>∃ (c m:Int),vs=[.int c,.int m]∧∀ r xs Os ta tu tvs uvs dv res H',Same H H'→KnownAt H' r xs Os ta tu tvs uvs dv res→Q (.ref r) H'
theorem av3 (T:Txt K mg t):FnOk P w K mg base CX0 2 t.a__law_known t.fd__law_known ["cell","mixed"] (bl0 K):=by
 have G__law_keyed:=av2 (P:=P) (w:=w) (base:=base) T
 have G__law_ring:=ax9 (P:=P) (w:=w) (base:=base) T
 have G__law_take:=ab9 (P:=P) (w:=w) (base:=base) T
 refine T.F__law_known.ok sc_law_known (fun vs H Q E h=>?_) (fun cdv A outer s H vs Q E hr h=>?_)
 · obtain ⟨c,m,rfl,_⟩:=h
   rfl
 · obtain ⟨c,m,rfl,q⟩:=h
   refine ⟨_,(@a03 _ _ _ _ _ (@a36 _ _ 2 _ _ _ _ sc_law_known.nd rfl (by walk_at "o") (@a30 _ _ _ _ (@a00 _ _ _ _ _ (pv 0) (@a00 _ _ _ _ _ (pv 1) (@a01 _) (by rfl)) (by rfl))) (by rfl) (by walk_at "o"))
    (@a03 _ _ _ _ _ (@a36 _ _ 3 _ _ _ _ sc_law_known.nd rfl (by walk_at "o") (ab6 (Nt:=["k"]) (Nf:=["state"]) (caps:=[2]) rfl (a50 (sc:=defScope a58) rfl rfl (by decide +kernel) (by decide +kernel) (by decide +kernel) rfl (by decide +kernel)) (a95 rfl T.z_range (@a00 _ _ _ _ _ (@a69 _ _ _ _ _ _ _ _ a76 (@a04 _ _ _ _) (@a32 _ _ _ _ _ _ _ _ _ _ _ _ _ _ _ _ G__law_take (hr.mono (by omega)) rfl T.m__law_take T.F__law_take.kp T.b__law_take .nil a61 (@a00 _ _ _ _ _ (pv 2) (@a00 _ _ _ _ _ (@a04 _ _ _ _) (@a01 _) (by rfl)) (by rfl)) (by decide) (by rfl) (by rfl))) (@a01 _) (by rfl))) (fun _ _ _ _ _=>(a08 (i:=0) (show (["k","state"]:List Str).Nodup by decide +kernel) rfl (by walk_at "o"))) (fun _ _ _ _ _=>(@a59 _)) (fun _ _ _ _ _=>(@a69 _ _ _ _ _ _ _ _ a76 (@a04 _ _ _ _) (@a32 _ _ _ _ _ _ _ _ _ _ _ _ _ _ _ _ G__law_take (hr.mono (by omega)) rfl T.m__law_take T.F__law_take.kp T.b__law_take .nil a61 (@a00 _ _ _ _ _ (pv 1) (@a00 _ _ _ _ _ (@a04 _ _ _ _) (@a01 _) (by rfl)) (by rfl)) (by decide) (by rfl) (by rfl))))) (by rfl) (by walk_at "o"))
    (@a03 _ _ _ _ _ (ag9 (i:=4) (Nt:=["need"]) (Nf:=[]) (caps:=[]) rfl (a50 (sc:=defScope a58) rfl rfl (by decide +kernel) (by decide +kernel) (by decide +kernel) rfl (by decide +kernel)) (a48 K (pv 3)) (fun _ _ _ _ _=>(a08 (i:=0) (show (["need"]:List Str).Nodup by decide +kernel) rfl (by walk_at "o"))) (fun _ _ _ _ _=>(@a59 _)) (fun _ _ _ _ _=>(@a32 _ _ _ _ _ _ _ _ _ _ _ _ _ _ _ _ G__law_keyed (hr.mono (by omega)) rfl T.m__law_keyed T.F__law_keyed.kp T.b__law_keyed .nil a61 (@a00 _ _ _ _ _ (pv 0) (@a01 _) (by rfl)) (by decide) (by rfl) (by rfl))) sc_law_known.nd rfl (by walk_at "o") rfl)
    (@a03 _ _ _ _ _ (@a36 _ _ 5 _ _ _ _ sc_law_known.nd rfl (by walk_at "o") (@ac4 _ _ _ _ _ _ _ _ ai0 (@a32 _ _ _ _ _ _ _ _ _ _ _ _ _ _ _ _ G__law_take (hr.mono (by omega)) rfl T.m__law_take T.F__law_take.kp T.b__law_take .nil a61 (@a00 _ _ _ _ _ (pv 2) (@a00 _ _ _ _ _ (@a04 _ _ _ _) (@a01 _) (by rfl)) (by rfl)) (by decide) (by rfl) (by rfl)) (@a04 _ _ _ _) (nomark _)) (by rfl) (by walk_at "o"))
    (@as4 _ _ _ _ _ (@ab1 _ _ _ _ _ _ _ _ (ae4 K (pv 5) (fun _=>rfl)) (@a07 _ _ _ (@a36 _ _ 4 _ _ _ _ sc_law_known.nd rfl (by walk_at "o") (@a69 _ _ _ _ _ _ _ _ a76 (pv 4) (@a30 _ _ _ _ (@a00 _ _ _ _ _ (@a32 _ _ _ _ _ _ _ _ _ _ _ _ _ _ _ _ G__law_ring (hr.mono (by omega)) rfl T.m__law_ring T.F__law_ring.kp T.b__law_ring .nil a61 (@a00 _ _ _ _ _ (@a04 _ _ _ _) (@a01 _) (by rfl)) (by decide) (by rfl) (by rfl)) (@a00 _ _ _ _ _ (@a32 _ _ _ _ _ _ _ _ _ _ _ _ _ _ _ _ G__law_ring (hr.mono (by omega)) rfl T.m__law_ring T.F__law_ring.kp T.b__law_ring .nil a61 (@a00 _ _ _ _ _ (@a04 _ _ _ _) (@a01 _) (by rfl)) (by decide) (by rfl) (by rfl)) (@a01 _) (by rfl)) (by rfl)))) (by rfl) (by walk_at "o"))) (@a68 _))
    (@a03 _ _ _ _ _ (@a36 _ _ 6 _ _ _ _ sc_law_known.nd rfl (by walk_at "o") (@a30 _ _ _ _ (@a01 _)) (by rfl) (by walk_at "o"))
    (@a03 _ _ _ _ _ (@a36 _ _ 7 _ _ _ _ sc_law_known.nd rfl (by walk_at "o") (ab6 (Nt:=["need"]) (Nf:=[]) (caps:=[]) rfl (a50 (sc:=defScope a58) rfl rfl (by decide +kernel) (by decide +kernel) (by decide +kernel) rfl (by decide +kernel)) (a48 K (pv 3)) (fun _ _ _ _ _=>(a08 (i:=0) (show (["need"]:List Str).Nodup by decide +kernel) rfl (by walk_at "o"))) (fun _ _ _ _ _=>(@a59 _)) (fun _ _ _ _ _=>(@a04 _ _ _ _))) (by rfl) (by walk_at "o"))
    (@a03 _ _ _ _ _ (@a36 _ _ 8 _ _ _ _ sc_law_known.nd rfl (by walk_at "o") (@ay1 _ _ _) (by rfl) (by walk_at "o"))
    (@a03 _ _ _ _ _ (@aa9 _ _ _ _ _ _ _ _ PassesOwn.never rfl (a95 rfl T.z_range (@a00 _ _ _ _ _ (@a32 _ _ _ _ _ _ _ _ _ _ _ _ _ _ _ _ G__law_take (hr.mono (by omega)) rfl T.m__law_take T.F__law_take.kp T.b__law_take .nil a61 (@a00 _ _ _ _ _ (pv 2) (@a00 _ _ _ _ _ (@a04 _ _ _ _) (@a01 _) (by rfl)) (by rfl)) (by decide) (by rfl) (by rfl)) (@a01 _) (by rfl))) (a08 (i:=9) sc_law_known.nd rfl (by walk_at "o")) (@a03 _ _ _ _ _ (ag9 (i:=10) (Nt:=["table"]) (Nf:=["state"]) (caps:=[2]) rfl (a50 (sc:=defScope a58) rfl rfl (by decide +kernel) (by decide +kernel) (by decide +kernel) rfl (by decide +kernel)) (a48 K (pv 4)) (fun _ _ _ _ _=>(a08 (i:=0) (show (["table","state"]:List Str).Nodup by decide +kernel) rfl (by walk_at "o"))) (fun _ _ _ _ _=>(@a59 _)) (fun _ _ _ _ _=>(@a40 _ _ _ _ _ _ _ (a35 K) (@a30 _ _ _ _ (@a00 _ _ _ _ _ (@a34 _ _ _ _ _ (@a00 _ _ _ _ _ (@a51 _ _ _ _) (@a00 _ _ _ _ _ (@a32 _ _ _ _ _ _ _ _ _ _ _ _ _ _ _ _ G__law_take (hr.mono (by omega)) rfl T.m__law_take T.F__law_take.kp T.b__law_take .nil a61 (@a00 _ _ _ _ _ (pv 1) (@a00 _ _ _ _ _ (@a04 _ _ _ _) (@a01 _) (by rfl)) (by rfl)) (by decide) (by rfl) (by rfl)) (@a01 _) (by rfl)) (by rfl))) (@a00 _ _ _ _ _ (@a34 _ _ _ _ _ (@a00 _ _ _ _ _ (@a51 _ _ _ _) (@a01 _) (by rfl))) (@a01 _) (by rfl)) (by rfl))) (@a37 _ _ _ _ _ _ _ _ _ ay7 (by rfl) T.z_int af4 (@a00 _ _ _ _ _ (@ac4 _ _ _ _ _ _ _ _ ai0 (@a32 _ _ _ _ _ _ _ _ _ _ _ _ _ _ _ _ G__law_take (hr.mono (by omega)) rfl T.m__law_take T.F__law_take.kp T.b__law_take .nil a61 (@a00 _ _ _ _ _ (pv 1) (@a00 _ _ _ _ _ (@a04 _ _ _ _) (@a01 _) (by rfl)) (by rfl)) (by decide) (by rfl) (by rfl)) (@a04 _ _ _ _) (nomark _)) (@a01 _) (by rfl)) (by decide) (by decide) (by rfl) (by rfl)) (fun _ _=>rfl))) sc_law_known.nd rfl (by walk_at "o") rfl)
     (@a03 _ _ _ _ _ (@aa5 _ _ _ _ (@ab0 _ K _ _ _ _ _ _ _ _ _ _ _ PySem.F.plainAttrs_list PySem.F.slot_list_append PySem.F.type_list_append a84 (pv 6) (@a00 _ _ _ _ _ (pv 10) (@a01 _) (by rfl)) (by rfl) (by rfl) (by rfl) (by rfl) (by rfl) (by rfl)) (by rfl))
     (@a03 _ _ _ _ _ (@aa9 _ _ _ _ _ _ _ _ PassesOwn.never rfl (a95 rfl T.z_range (@a00 _ _ _ _ _ (@a45 _ _ _ _ _ _ _ _ _ (a83 K) (by rfl) T.z_len a87 (@a00 _ _ _ _ _ (pv 3) (@a01 _) (by rfl)) (by decide) (by decide) (by rfl) (by rfl)) (@a01 _) (by rfl))) (a08 (i:=11) sc_law_known.nd rfl (by walk_at "o")) (@a07 _ _ _ (@ah8 _ _ _ _ _ _ (@a69 _ _ _ _ _ _ _ _ a76 (@a40 _ _ _ _ _ _ _ (a35 K) (pv 7) (pv 11) (fun _ _=>rfl)) (@a37 _ _ _ _ _ _ _ _ _ ay7 (by rfl) T.z_int af4 (@a00 _ _ _ _ _ (@ac4 _ _ _ _ _ _ _ _ (az6 K (by exact hr.units)) (@a40 _ _ _ _ _ _ _ (a35 K) (pv 10) (pv 11) (fun _ _=>rfl)) (@a34 _ _ _ _ _ (@a00 _ _ _ _ _ (@a51 _ _ _ _) (@a01 _) (by rfl))) (nomark _)) (@a01 _) (by rfl)) (by decide) (by decide) (by rfl) (by rfl))) (aq8 (pv 7) (pv 11) ae9) (by rfl) (by rfl) (by rfl))) (by intro _; rfl))
     (@a03 _ _ _ _ _ (ag9 (i:=12) (Nt:=["line"]) (Nf:=["had","needs"]) (caps:=[7,3]) rfl (a50 (sc:=defScope a58) rfl rfl (by decide +kernel) (by decide +kernel) (by decide +kernel) rfl (by decide +kernel)) (a95 rfl T.z_range (@a00 _ _ _ _ _ (@a45 _ _ _ _ _ _ _ _ _ (a83 K) (by rfl) T.z_len a87 (@a00 _ _ _ _ _ (pv 3) (@a01 _) (by rfl)) (by decide) (by decide) (by rfl) (by rfl)) (@a01 _) (by rfl))) (fun _ _ _ _ _=>(a08 (i:=0) (show (["line","had","needs"]:List Str).Nodup by decide +kernel) rfl (by walk_at "o"))) (fun _ _ _ _ _=>(@av7 _ _ _ (@a53 _ _ _ _ _ _ _ _ c61 (@a40 _ _ _ _ _ _ _ (a35 K) (pv 1) (pv 0) (fun _ _=>rfl)) (@a40 _ _ _ _ _ _ _ (a35 K) (pv 2) (pv 0) (fun _ _=>rfl)) (nomark _)))) (fun _ _ _ _ _=>(pv 0)) sc_law_known.nd rfl (by walk_at "o") rfl)
     (@a07 _ _ _ (@ab1 _ _ _ _ _ _ _ _ (@PW.pt _ _ _ (@aj5 _ _ _ _ _ _ _ (@a53 _ _ _ _ _ _ _ _ bp7 (pv 8) (@ay1 _ _ _) (nomark _)) (@ag8 _ _ _ _ (@a53 _ _ _ _ _ _ _ _ (as8 K (by exact hr.units)) (pv 12) (@a30 _ _ _ _ (@a01 _)) (nomark _))))) (@a07 _ _ _ (@a36 _ _ 8 _ _ _ _ sc_law_known.nd rfl (by walk_at "o") (@a34 _ _ _ _ _ (@a00 _ _ _ _ _ (@a69 _ _ _ _ _ _ _ _ a76 (pv 9) (@a04 _ _ _ _)) (@a00 _ _ _ _ _ (@a40 _ _ _ _ _ _ _ (a35 K) (pv 12) (@a04 _ _ _ _) (fun _ _=>rfl)) (@a01 _) (by rfl)) (by rfl))) (by rfl) (by walk_at "o"))) (@a68 _))))))) (by intro _; rfl))
    (@as4 _ _ _ _ _ (@ab1 _ _ _ _ _ _ _ _ (ae4 K (pv 5) (fun _=>rfl)) (@a07 _ _ _ (@a36 _ _ 8 _ _ _ _ sc_law_known.nd rfl (by walk_at "o") (@a51 _ _ _ _) (by rfl) (by walk_at "o"))) (@a68 _))
    (@a07 _ _ _ (@a52 _ _ _ _ (@a30 _ _ _ _ (@a00 _ _ _ _ _ (pv 4) (@a00 _ _ _ _ _ (pv 6) (@a00 _ _ _ _ _ (pv 8) (@a01 _) (by rfl)) (by rfl)) (by rfl))))))))))))))),?_⟩
   have sl:(1000000:Nat)≤sizeLine:=le_line (Nat.le_refl _)
   walk_at "go"
   intro s0 H1 f1 s1 e1
   have k1:StA H1 s0 m:=⟨c,e1⟩
   walk_at "r"
   refine ⟨s0,m,3,rfl,k1,by decide,by decide,fun r H2 hr o2 k2=>?_⟩
   walk_at "r"
   have hs02:Same H H2:=o2.new s1 f1
   rw [show (1+(r:Int)).toNat=r+1 by omega]
   refine ai8 (lo:=0) (n:=r+1) (by omega) (fun i acc H'=>i≤r+1∧Oth s0 H2 H'∧StA H' s0 m∧∃ ns:List Nat,acc=natsV ns∧ns.length=i∧∀ n∈ns,0<n∧n≤20) ⟨Nat.zero_le _,Oth.refl,k2,[],rfl,rfl,by simp⟩ (fun i acc H' ⟨_,_,_,ns,e,hl,_⟩=>by rw [e,a46]; omega) ?_ ?_
   · rintro i acc H3 hi ⟨_,o3,k3,ns,rfl,hl,hns⟩
     walk_at "r"
     refine ⟨s0,m,20,rfl,k3,by decide,by decide,fun r1 H4 hr1 o4 k4=>?_⟩
     walk_at "r"
     refine ⟨hi,o3.trans o4,k4,ns++[1+r1],by simp [natsV],by simp [hl],fun n hn=>?_⟩
     rcases gA hn with h | h
     · exact hns n h
     · rw [gG h]
       omega
   rintro acc H3 ⟨_,o3,k3,ns,rfl,hnl,hns⟩ pn H4 f4 s4 e4
   have o14:Oth s0 H2 H4:=o3.trans (a54 s4)
   have k4:=k3.same s4
   have npn:pn≠s0:=k3.ne f4
   have hs04:Same H H4:=o14.new hs02 f1
   walk_at "r"
   refine ⟨⟨_,SqL.of e4⟩,a77 (xs:=natsV ns) (by rw [a46]; omega) (fun i acc H'=>i≤ns.length∧Same H4 H'∧Each (TabW H') acc (((ns.map Kn.key).map Kn.tab).take i)) ⟨Nat.zero_le _,Same.refl _,.nil⟩ (fun i acc H' ⟨_,s',he⟩=>⟨by rw [he.len,List.length_take]; omega,SqL.of (s' _ _ e4)⟩) ?_ ?_⟩
   · rintro i v acc H5 hv ⟨hi,s5,he⟩
     obtain ⟨n,hn,rfl⟩:=ag6 hv
     walk_at "r"
     refine ⟨n,rfl,(hns n (gI hn)).2,fun tv H6 s6 ht=>?_⟩
     refine ⟨(gS hn).1,s5.trans s6,?_⟩
     rw [List.take_add_one,gM,gM,hn]
     exact (he.mono fun v x h=>h.same s6).snoc ht
   rintro tvs0 H5 ⟨_,s5,hT5⟩ pt H6 f6 s6 e6
   rw [a46,List.take_of_length_le (by simp)] at hT5
   have s46:=s5.trans s6
   have k6:=k4.same s46
   have hT6:=hT5.mono fun v x (h:TabW H5 v x)=>h.same s6
   have hs06:=hs04.trans s46
   walk_at "r"
   refine ⟨s0,m,8,rfl,k6,by decide,by decide,fun r8 H7 hr8 o7 k7=>?_⟩
   walk_at "r"
   have hT7:Each (TabW H7) tvs0 ((ns.map Kn.key).map Kn.tab):=hT6.mono fun v x h=>h.oth o7 k6
   have tl0:tvs0.length=ns.length:=by have:=hT6.len; simpa using this
   have ept7:=o7 _ _ (k6.lst_ne e6 (ad1 (aq6 hT6))) e6
   have epn7:=o7 _ _ npn (s46 _ _ e4)
   have hs07:Same H H7:=o7.new hs06 f1
   generalize decide ((r8:Int)=1)=rg
   refine bl8 (fun σ' H'=>Same H7 H'∧∃ (pt':Addr) (tvs:List V),H' pt'=some (.lst tvs)∧Each (TabW H') tvs ((KsN ns rg).map Kn.tab)∧σ'=[some (.int c),some (.int m),some (.ref s0),some (.ref pn),some (.ref pt'),some (.bl rg),none,none,none,none,none,none,none]) ?_ ?_
   · walk_at "r"
     cases rg
     · rw [if_neg (by simp)]
       walk_at "r"
       refine ⟨Same.refl _,pt,tvs0,ept7,?_,rfl⟩
       rw [show KsN ns false=ns.map Kn.key by unfold KsN; simp]
       exact hT7
     · rw [if_pos rfl]
       walk_at "r"
       refine ⟨64,rfl,by decide,by decide,fun v1 H8 s8 h1=>?_⟩
       walk_at "r"
       refine ⟨63,rfl,by decide,by decide,fun v2 H9 s9 h2=>?_⟩
       walk_at "r"
       intro p10 H10 f10 s10 e10
       refine ah0 ((s8.trans (s9.trans s10)) _ _ ept7) e10 (by simp; omega) ?_
       intro p11 H11 f11 s11 e11
       walk_at "r"
       have s711:=s8.trans (s9.trans (s10.trans s11))
       refine ⟨s711,p11,_,e11,?_,rfl⟩
       unfold KsN
       rw [if_pos rfl,List.map_append,show tvs0++[v1,v2]=(tvs0++[v1])++[v2] by simp,show (ns.map Kn.key).map Kn.tab++List.map Kn.tab [Kn.ring 64,Kn.ring 63]=((ns.map Kn.key).map Kn.tab++[(Kn.ring 64).tab])++[(Kn.ring 63).tab] by simp]
       exact ((hT7.mono fun v x h=>h.same s711).snoc (h1.same (s9.trans (s10.trans s11)))).snoc (h2.same (s10.trans s11))
   rintro σ' Hb ⟨s7b,ptb,tvs,eptb,hTb,rfl⟩
   have kb:=k7.same s7b
   have hs0b:=hs07.trans s7b
   have epnb:=s7b _ _ epn7
   have tlb:=hTb.len
   have xl:((KsN ns rg).map Kn.tab).length=(KsN ns rg).length:=by simp
   have kl:ns.length≤(KsN ns rg).length∧(KsN ns rg).length≤ns.length+2:=by
    unfold KsN
    cases rg <;> simp
   have hTr:=ad1 (aq6 hTb)
   clear hT7 ept7 epn7 hT6 e6 f6
   walk_at "r"
   intro pu H8 f8 s8 e8
   walk_at "r"
   refine ⟨⟨_,SqL.of (s8 _ _ epnb)⟩,a77 (xs:=natsV ns) (by rw [a46]; omega) (fun i acc H'=>H'=H8∧acc=natsV (List.replicate i 0)) ⟨rfl,rfl⟩ (fun i acc H' ⟨e0,e⟩=>⟨by rw [e,a46]; simp,e0 ▸ SqL.of (s8 _ _ epnb)⟩) ?_ ?_⟩
   · rintro i v acc H' hv ⟨e0,rfl⟩
     replace e0:=e0.symm
     subst e0
     walk_at "r"
     refine ⟨rfl,?_⟩
     rw [List.replicate_succ']
     simp [natsV]
   rintro acc H' ⟨e0,rfl⟩ ph H9 f9 s9 e9
   replace e0:=e0.symm
   subst e0
   rw [a46] at e9
   walk_at "r"
   have sb9:=s8.trans s9
   have k9:=kb.same sb9
   have npu:pu≠s0:=kb.ne f8
   have nph:ph≠s0:=(kb.same s8).ne f9
   have nup:pu≠ph:=a06 e8 f9
   have fbu:Hb pu=none:=f8
   have fbh:Hb ph=none:=s8.free f9
   refine ⟨s0,m,30,rfl,k9,by decide,by decide,fun R H10 hR o10 k10=>?_⟩
   walk_at "r"
   rw [Int.toNat_natCast]
   have ob10:Oth s0 Hb H10:=(a54 sb9).trans o10
   have hz:List.replicate ns.length 0=(List.range ns.length).map (hadC []):=by
    rw [show hadC []=fun _=>0 from rfl,List.map_const',List.length_range]
   rw [hz] at e9
   obtain ⟨Pv,hPv⟩:∃ Pv:Nat→St→Hp→Prop,Pv=(fun i σ H'=>i≤R∧Oth s0 Hb H'∧StA H' s0 m∧∃ (uvs:List V) (Os:List (List Ev)) (dv:V) (rs:Option (Nat×Nat)) (y1 y2 y3 y4:Option V),H' pu=some (.lst uvs)∧Each (OtAt H') uvs Os∧Os.length=i∧OsOk (KsN ns rg) Os∧(∀ v∈uvs,v≠.ref pu∧v≠.ref ph∧v≠.ref s0)∧H' ph=some (.lst (natsV ((List.range ns.length).map (hadC Os))))∧ResAt H' dv (some rs)∧LDue ns Os rs∧σ=[some (.int c),some (.int m),some (.ref s0),some (.ref pn),some (.ref ptb),some (.bl rg),some (.ref pu),some (.ref ph),some dv,y1,y2,y3,y4]):=⟨_,rfl⟩
   refine ab3 (lo:=0) (n:=R) Pv (by rw [hPv]; exact ⟨Nat.zero_le _,ob10,k10,[],[],.non,none,_,_,_,_,o10 _ _ npu (s9 _ _ e8),.nil,rfl,⟨by simp,by simp⟩,by simp,o10 _ _ nph e9,.inr (.inl ⟨rfl,rfl⟩),LDue.nil fun n hn=>(hns n hn).1,rfl⟩) ?_ ?_
   · intro i σ H11 hi hI
     rw [hPv] at hI
     obtain ⟨_,o11,k11,uvs,Os,dv,rs,y1,y2,y3,y4,epu,hO,hOl,hOk,hnu,eph,hdv,hdue,rfl⟩:=hI
     rw [Int.zero_add]
     have ept11:=o11 _ _ (kb.lst_ne eptb hTr) eptb
     walk_at "r"
     refine ⟨⟨_,SqL.of ept11⟩,a77 (xs:=tvs) (by omega) (fun j acc H'=>j≤(KsN ns rg).length∧Oth s0 H11 H'∧StA H' s0 m∧∃ os:List Ev,os.length=j∧(∀ o∈os,NoW o)∧Each (fun v (e:Ev)=>e.tr.At H' v []) acc os) ⟨Nat.zero_le _,Oth.refl,k11,[],rfl,by simp,.nil⟩ (fun j acc H' ⟨_,o',_,os,hl,_,he⟩=>⟨by rw [he.len]; omega,SqL.of (o' _ _ (kb.lst_ne eptb hTr) ept11)⟩) ?_ ?_⟩
     · rintro j v acc H12 hv ⟨hj,o12,k12,os,hol,how,he⟩
       have hj':j<(KsN ns rg).length:=by rw [← xl,←tlb]; exact (gS hv).1
       walk_at "r"
       refine ⟨s0,m,9,rfl,k12,by decide,by decide,fun r1 H13 hr1 o13 k13=>?_⟩
       walk_at "r"
       intro p14 H14 f14 s14 e14
       walk_at "r"
       intro p15 H15 f15 s15 e15
       walk_at "r"
       intro p16 H16 f16 s16 e16
       walk_at "r"
       have s1416:=s15.trans s16
       have k16:=k13.same (s14.trans s1416)
       have n16:p16≠s0:=(k13.same (s14.trans s15)).ne f16
       refine ⟨s0,m,4,rfl,k16,by decide,by decide,fun r2 H17 hr2 o17 k17=>?_⟩
       walk_at "r"
       have t1217:Tups H12 H17:=(o13.tups k12).trans ((s14.trans s1416).tups.trans (o17.tups k16))
       obtain ⟨ev,e,hev,hee,hnw⟩:∃ v,∃ e:Ev,atI [V.ref p14,V.ref p15] (if decide ((r2:Int)=0)=true then 1 else 0)=some v∧e.tr.At H17 v []∧NoW e:=by
        by_cases h:r2=0
        · exact ⟨_,.quiet,by rw [decide_eq_true (by omega)]; exact a05 (j:=1) rfl,at_tup0.mpr ⟨p15,_,rfl,(s16.tups.trans (o17.tups k16)) _ _ e15,ats_cons0.mpr ⟨_,_,rfl,str_at0,ats_nil0.mpr rfl⟩⟩,.inl rfl⟩
        · exact ⟨_,.key r1,by rw [decide_eq_false (by omega)]; exact a05 (j:=0) rfl,ak1 ((s1416.tups.trans (o17.tups k16)) _ _ e14) str_at0 az0,.inr ⟨r1,rfl⟩⟩
       refine a86 (SqL.of (o17 _ _ n16 e16)) hev ?_
       refine ⟨hj',o12.trans (o13.trans ((a54 (s14.trans s1416)).trans o17)),k17,os++[e],by simp [hol],fun o ho=>?_,(he.mono fun v x h=>a78 h t1217).snoc hee⟩
       rcases gA ho with h | h
       · exact how o h
       · rw [gG h]
         exact hnw
     rintro ovs H12 ⟨_,o12,k12,os,hol,how,he⟩ po H13 f13 s13 e13
     rw [tlb,xl] at hol
     have k13:=k12.same s13
     have o1113:Oth s0 H11 H13:=o12.trans (a54 s13)
     have he13:=he.mono fun v (x:Ev) (h:x.tr.At H12 v [])=>a78 h s13.tups
     have epu12:=o12 _ _ npu epu
     have eph12:=o12 _ _ nph eph
     have epu13:=s13 _ _ epu12
     have eph13:=s13 _ _ eph12
     have npo1:po≠pu:=(a06 epu12 f13).symm
     have npo2:po≠ph:=(a06 eph12 f13).symm
     have npo3:po≠s0:=k12.ne f13
     have hO13:Each (OtAt H13) uvs Os:=⟨hO.1,fun j v x h1 h2=>(hO.2 j v x h1 h2).oth o1113 k11.lst (hnu v (gI h1)).2.2⟩
     have hdv13:ResAt H13 dv (some rs):=hdv.tups (o1113.tups k11)
     have ob13:Oth s0 Hb H13:=o11.trans o1113
     have uvl:uvs.length=i:=by rw [hO.len]; exact hOl
     walk_at "r"
     refine af7 (SqL.of epu13) ?_
     walk_at "r"
     refine a96 epu13 (by omega) ?_
     have ou:Oth pu H13 (upd H13 pu (.lst (uvs++[.ref po]))):=aq5
     have tu14:Tups H13 (upd H13 pu (.lst (uvs++[.ref po]))):=Tups.upd epu13
     have hO14:Each (OtAt (upd H13 pu (.lst (uvs++[.ref po])))) (uvs++[.ref po]) (Os++[os]):=Each.snoc ⟨hO13.1,fun j v x h1 h2=>(hO13.2 j v x h1 h2).oth ou ⟨_,epu13⟩ (hnu v (gI h1)).1⟩ (OtAt.oth ⟨po,ovs,rfl,e13,he13⟩ ou ⟨_,epu13⟩ (fun z=>npo1 (V.ref.inj z)))
     have ob14:Oth s0 Hb (upd H13 pu (.lst (uvs++[.ref po]))):=ob13.updNew fbu
     have e14:upd H13 pu (.lst (uvs++[.ref po])) pu=some (.lst (uvs++[.ref po])):=a33
     have eph14:=ou _ _ nup.symm eph13
     have epo14:=ou _ _ npo1 e13
     have k14:StA (upd H13 pu (.lst (uvs++[.ref po]))) s0 m:=by
      obtain ⟨x,hx⟩:=k13
      exact ⟨x,ou _ _ npu.symm hx⟩
     have he14:=he13.mono fun v (x:Ev) (h:x.tr.At H13 v [])=>a78 h tu14
     have hdv14:=hdv13.tups tu14
     generalize upd H13 pu (.lst (uvs++[.ref po]))=H14 at hO14 ob14 e14 eph14 epo14 k14 he14 hdv14
     have hnu':∀ v∈uvs++[V.ref po],v≠.ref pu∧v≠.ref ph∧v≠.ref s0:=fun v hv=>by
      rcases gA hv with h | h
      · exact hnu v h
      · rw [gG h]
        exact ⟨fun z=>npo1 (V.ref.inj z),fun z=>npo2 (V.ref.inj z),fun z=>npo3 (V.ref.inj z)⟩
     have hOk':OsOk (KsN ns rg) (Os++[os]):=⟨fun x hx=>by
      rcases gA hx with h | h
      · exact hOk.len x h
      · rw [gG h]; exact hol,fun x hx=>by
      rcases gA hx with h | h
      · exact hOk.now x h
      · rw [gG h]; exact how⟩
     walk_at "r"
     have epn14:=ob14 _ _ npn epnb
     refine aa4 (SqL.of epn14) ?_
     rw [a46]
     walk_at "r"
     rw [Int.toNat_natCast]
     have hgt:∀ (b:List (List Ev)) (j:Nat),j<ns.length→((List.range ns.length).map (hadC b))[j]?=some (hadC b j):=fun b j hj=>by simp [hj]
     obtain ⟨hd2,hhd2⟩:∃ hd2:Nat→List Nat,hd2=(fun j=>(List.range ns.length).map fun i=>if i<j then hadC (Os++[os]) i else hadC Os i):=⟨_,rfl⟩
     have hd20:hd2 0=(List.range ns.length).map (hadC Os):=by rw [hhd2]; simp
     have hd2n:hd2 ns.length=(List.range ns.length).map (hadC (Os++[os])):=by
      rw [hhd2]
      refine List.map_congr_left fun i hi=>?_
      rw [if_pos (List.mem_range.mp hi)]
     have hd2l:∀ j,(hd2 j).length=ns.length:=fun j=>by rw [hhd2]; simp
     have hd2s:∀ j,j<ns.length→(hd2 j)[j]?=some (hadC Os j)∧hd2 (j+1)=(hd2 j).set j (hadC (Os++[os]) j):=fun j hj=>by
      rw [hhd2]
      refine ⟨by simp [hj],?_⟩
      apply List.ext_getElem?
      intro k
      rw [List.getElem?_set]
      by_cases e:j=k
      · subst e
        simp [hj]
      · rw [if_neg e]
        by_cases hk:k<ns.length
        · simp only [gM,List.getElem?_range hk,Option.map_some]
          by_cases h2:k<j
          · rw [if_pos h2,if_pos (by omega)]
          · rw [if_neg h2,if_neg (by omega)]
        · simp [hk]
     rw [← hd20] at eph14
     refine ab3 (lo:=0) (n:=ns.length) (fun j σ H'=>j≤ns.length∧Oth ph H14 H'∧H' ph=some (.lst (natsV (hd2 j)))∧∃ y,σ=[some (.int c),some (.int m),some (.ref s0),some (.ref pn),some (.ref ptb),some (.bl rg),some (.ref pu),some (.ref ph),some dv,some (.int (i:Nat)),some (.ref po),y,y4]) ⟨Nat.zero_le _,Oth.refl,eph14,_,rfl⟩ ?_ ?_
     · rintro j σ H15 hj ⟨_,o15,eph15,y,rfl⟩
       rw [Int.zero_add]
       obtain ⟨hs1,hs2⟩:=hd2s j hj
       obtain ⟨o,ho⟩:∃ o,os[j]?=some o:=⟨_,gE (by omega)⟩
       have tu15:Tups H14 H15:=fun a ys e=>o15 a _ (ae0 e eph14 (fun z=>nomatch z)) e
       obtain ⟨ov,hov,hoA⟩:=Each.get (he14.mono fun v (x:Ev) h=>a78 h tu15) ho
       walk_at "r"
       refine a86 (SqL.of eph15) (a05 (j:=j) (v:=.int ((hadC Os j:Nat):Int)) (by unfold natsV; rw [gM,hs1]; rfl)) ?_
       walk_at "r"
       refine a86 (SqL.of (o15 _ _ npo2 epo14)) (a05 (j:=j) hov) ?_
       walk_at "r"
       intro p16 H16 f16 s16 e16
       have hoA16:=a78 hoA s16.tups
       have hq16:Ev.quiet.tr.At H16 (.ref p16) []:=at_tup0.mpr ⟨p16,_,rfl,e16,ats_cons0.mpr ⟨_,_,rfl,str_at0,ats_nil0.mpr rfl⟩⟩
       have oh:=o.tr_h
       have qh:=Ev.quiet.tr_h
       rw [Ev.tr_trs] at hoA16 hq16 oh qh
       refine bm2 (hoA16.toK K) (hq16.toK K) (by omega) (by omega) ?_
       walk_at "r"
       have eK:(!decide (Tr.tup o.trs=Tr.tup Ev.quiet.trs))=isK o:=by
        by_cases h:o=.quiet
        · subst h
          simp [isK]
        · rw [decide_eq_false fun z=>h (Ev.tr_inj (by rw [Ev.tr_trs,Ev.tr_trs]; exact z))]
          cases o with
          | quiet=>exact absurd rfl h
          | key k=>rfl
          | word k=>rfl
       rw [eK]
       have eN:((hadC Os j:Nat):Int)+(if isK o=true then 1 else 0)=((hadC (Os++[os]) j:Nat):Int):=by
        rw [av1,show os.getD j .quiet=o by rw [List.getD_eq_getElem?_getD,ho]; rfl]
        cases isK o <;> simp
       rw [eN]
       have eph16:=s16 _ _ eph15
       refine as3 eph16 (j:=j) (by unfold ixN; rw [a46,hd2l,if_pos (by omega),if_pos (by omega)]; simp) ?_
       refine ⟨hj,(o15.trans (a54 s16)).trans aq5,?_,_,rfl⟩
       rw [a33,hs2]
       unfold natsV
       rw [List.map_set]
     rintro σ H15 ⟨_,o15,eph15,y,rfl⟩
     rw [hd2n] at eph15
     have tu15:Tups H14 H15:=fun a ys e=>o15 a _ (ae0 e eph14 (fun z=>nomatch z)) e
     have hO15:Each (OtAt H15) (uvs++[.ref po]) (Os++[os]):=⟨hO14.1,fun j v x h1 h2=>(hO14.2 j v x h1 h2).oth o15 ⟨_,eph14⟩ (hnu' v (gI h1)).2.1⟩
     have ob15:Oth s0 Hb H15:=fun y o hy e=>o15 y o (a06 e fbh) (ob14 y o hy e)
     have epu15:=o15 _ _ nup e14
     have k15:StA H15 s0 m:=by
      obtain ⟨x,hx⟩:=k14
      exact ⟨x,o15 _ _ nph.symm hx⟩
     have hdv15:=hdv14.tups tu15
     have epn15:=ob15 _ _ npn epnb
     walk_at "r"
     refine aa4 (SqL.of epn15) ?_
     rw [a46]
     walk_at "r"
     rw [Int.toNat_natCast]
     refine ai8 (lo:=0) (n:=ns.length) (by omega) (fun j acc H'=>j≤ns.length∧H15=H'∧acc=natsV ((List.range j).filter fun i=>decide (ns.getD i 0≤hadC (Os++[os]) i))) ⟨Nat.zero_le _,rfl,rfl⟩ (fun j acc H' ⟨_,_,e⟩=>by rw [e,a46]; have:=List.length_filter_le (fun i=>decide (ns.getD i 0≤hadC (Os++[os]) i)) (List.range j); simpa using this) ?_ ?_
     · rintro j acc H' hj ⟨_,rfl,rfl⟩
       rw [Int.zero_add]
       have hnj:ns[j]?=some ns[j]:=gE hj
       walk_at "r"
       refine a86 (SqL.of eph15) (a05 (j:=j) (v:=.int ((hadC (Os++[os]) j:Nat):Int)) (by unfold natsV; rw [gM,hgt _ j hj]; rfl)) ?_
       walk_at "r"
       refine a86 (SqL.of epn15) (a05 (j:=j) (v:=.int ((ns[j]:Nat):Int)) (by unfold natsV; rw [gM,hnj]; rfl)) ?_
       walk_at "r"
       have hgd:ns.getD j 0=ns[j]:=by rw [List.getD_eq_getElem?_getD,hnj]; rfl
       have htk:(List.range (j+1)).filter (fun i=>decide (ns.getD i 0≤hadC (Os++[os]) i))=(List.range j).filter (fun i=>decide (ns.getD i 0≤hadC (Os++[os]) i))++(if ns[j]≤hadC (Os++[os]) j then [j] else []):=by
        rw [List.range_succ,List.filter_append]
        congr 1
        rw [List.filter_cons,List.filter_nil,hgd]
        simp
       rw [htk]
       by_cases hc:ns[j]≤hadC (Os++[os]) j
       · rw [if_pos (decide_eq_true (by omega)),if_pos hc]
         walk_at "r"
         exact ⟨hj,rfl,by simp [natsV]⟩
       · rw [if_neg (by simp; omega),if_neg hc]
         exact ⟨hj,rfl,by simp⟩
     rintro acc H' ⟨_,rfl,rfl⟩ pf H16 f16 s16 e16
     rw [show (List.range ns.length).filter (fun i=>decide (ns.getD i 0≤hadC (Os++[os]) i))=flN ns (Os++[os]) from rfl] at e16
     walk_at "r"
     have fin:∀ (Hx:Hp) (dv':V) (rs':Option (Nat×Nat)) (z1 z2 z3 z4:Option V),Same H16 Hx→ResAt Hx dv' (some rs')→LDue ns (Os++[os]) rs'→Pv (i+1) [some (.int c),some (.int m),some (.ref s0),some (.ref pn),some (.ref ptb),some (.bl rg),some (.ref pu),some (.ref ph),some dv',z1,z2,z3,z4] Hx:=fun Hx dv' rs' z1 z2 z3 z4 sx hr1 hr2=>by
      have s15x:=s16.trans sx
      rw [hPv]
      exact ⟨hi,ob15.trans (a54 s15x),k15.same s15x,uvs++[.ref po],Os++[os],dv',rs',z1,z2,z3,z4,s15x _ _ epu15,hO15.mono fun v x h=>h.same s15x,by simp [hOl],hOk',hnu',s15x _ _ eph15,hr1,hr2,rfl⟩
     have hdv16:=hdv15.tups s16.tups
     cases rs with
     | none =>
       rcases hdv16 with ⟨z,_⟩ | ⟨_,rfl⟩ | ⟨g,l,a,z,_⟩
       · cases z
       · walk_at "r"
         rw [if_pos (decide_eq_true rfl)]
         walk_at "r"
         intro p17 H17 f17 s17 e17
         refine ba3 (SqL.of (s17 _ _ e16)) (SqL.of e17) ?_
         walk_at "r"
         cases hfl:flN ns (Os++[os]) with
         | nil =>
           rw [if_neg (by simp [natsV])]
           walk_at "r"
           exact fin H17 _ none _ _ _ _ s17 (.inr (.inl ⟨rfl,rfl⟩)) (hdue.none_snoc hfl)
         | cons l0 lr =>
           rw [hfl] at e16
           rw [if_pos (by simp [natsV])]
           walk_at "r"
           refine a86 (SqL.of (s17 _ _ e16)) (a05 (j:=0) (v:=.int (l0:Nat)) rfl) ?_
           walk_at "r"
           intro p18 H18 f18 s18 e18
           walk_at "r"
           refine fin H18 _ (some (i+1,l0)) _ _ _ _ (s17.trans s18) (.inr (.inr ⟨i+1,l0,p18,rfl,rfl,e18⟩)) ?_
           rw [← hOl]
           exact hdue.new_snoc hfl
       · cases z
     | some gl =>
       rcases hdv16 with ⟨z,_⟩ | ⟨z,_⟩ | ⟨g,l,a,z,rfl,ea⟩
       · cases z
       · cases z
       cases z
       walk_at "r"
       rw [if_neg (by simp)]
       walk_at "r"
       exact fin H16 _ (some (g,l)) _ _ _ _ (Same.refl _) (.inr (.inr ⟨g,l,a,rfl,rfl,ea⟩)) hdue.some_snoc
   intro σ H11 hI
   rw [hPv] at hI
   obtain ⟨_,o11,k11,uvs,Os,dv,rs,y1,y2,y3,y4,epu,hO,hOl,hOk,hnu,eph,hdv,hdue,rfl⟩:=hI
   clear hPv Pv
   have ept11:=o11 _ _ (kb.lst_ne eptb hTr) eptb
   have hT11:Each (TabW H11) tvs ((KsN ns rg).map Kn.tab):=hTb.mono fun v x h=>h.oth o11 kb
   have hs11:Same H H11:=o11.new hs0b f1
   have uvl:uvs.length=Os.length:=hO.len
   have fin:∀ (Hx:Hp) (dv':V) (res:Res) (p:Addr),Same H11 Hx→ResAt H11 dv' res→Fall ((KsN ns rg).map Kn.tab) Os res→Hx p=some (.lst [.ref ptb,.ref pu,dv'])→Q (.ref p) Hx:=fun Hx dv' res p sx h1 h2 e=>q p _ Os ptb pu tvs uvs dv' res Hx (hs11.trans sx) ⟨e,sx _ _ ept11,hT11.mono fun v x h=>h.same sx,c58 hns,by rw [xl]; omega,sx _ _ epu,hO.mono fun v x h=>h.same sx,by omega,fun os hos=>by rw [xl]; exact hOk.len os hos,h2,h1.tups sx.tups⟩
   walk_at "r"
   refine bl8 (fun σ' H'=>H11=H'∧∃ (dv':V) (res:Res),ResAt H11 dv' res∧Fall ((KsN ns rg).map Kn.tab) Os res∧σ'=[some (.int c),some (.int m),some (.ref s0),some (.ref pn),some (.ref ptb),some (.bl rg),some (.ref pu),some (.ref ph),some dv',y1,y2,y3,y4]) ?_ ?_
   · walk_at "r"
     cases rg
     · rw [if_neg (by simp)]
       walk_at "r"
       have eK:KsN ns false=ns.map Kn.key:=by unfold KsN; simp
       refine ⟨rfl,dv,some rs,hdv,?_,rfl⟩
       rw [eK] at hOk ⊢
       exact hdue.fall (fun n hn=>(hns n hn).2) hOk
     · rw [if_pos rfl]
       walk_at "r"
       exact ⟨rfl,_,none,.inl ⟨rfl,rfl⟩,b62 fun n hn=>(hns n hn).2,rfl⟩
   rintro σ' H' ⟨rfl,dv',res,h1,h2,rfl⟩
   walk_at "r"
   intro p12 H12 f12 s12 e12
   exact fin H12 dv' res p12 s12 h1 h2 e12
def outsT (Os:List (List Ev)):List Tr:=Os.map fun os=>.lst (os.map Ev.tr)
theorem b33 {H:Hp}:∀ {ovs:List V}{os:List Ev},Each (fun v (e:Ev)=>e.tr.At H v []) ovs os→Tr.Ats H (os.map Ev.tr) ovs []
 | [],[],_=>by simp [Tr.Ats]
 | v::vs,e::es,h=>by
   obtain ⟨h1,h2⟩:=al4 h
   exact ats_cons0.mpr ⟨_,_,rfl,h1,b33 h2⟩
 | [],x::xs,h=>by have:=h.1; simp at this
 | l::ls,[],h=>by have:=h.1; simp at this
theorem b34 {H:Hp}:∀ {uvs:List V}{Os:List (List Ev)},Each (OtAt H) uvs Os→∃ fs,Tr.Ats H (outsT Os) uvs fs
 | [],[],_=>⟨[],by simp [outsT,Tr.Ats]⟩
 | v::vs,os::Os,h=>by
   obtain ⟨⟨ou,ovs,rfl,e1,e2⟩,h2⟩:=al4 h
   obtain ⟨fs,h3⟩:=b34 h2
   refine ⟨[ou]++fs,?_⟩
   simp only [outsT,List.map_cons,Tr.Ats]
   refine ⟨_,_,[ou],fs,rfl,rfl,?_,h3⟩
   simp only [Tr.At]
   exact ⟨ou,ovs,[],rfl,e1,b33 e2,rfl⟩
 | [],x::xs,h=>by have:=h.1; simp at this
 | l::ls,[],h=>by have:=h.1; simp at this
theorem b35 {H:Hp}{tu:Addr}{uvs:List V}{Os:List (List Ev)}(h:H tu=some (.lst uvs)) (h2:Each (OtAt H) uvs Os):∃ fs,(Tr.lst (outsT Os)).At H (.ref tu) fs:=by
 obtain ⟨fs,h3⟩:=b34 h2
 refine ⟨tu::fs,?_⟩
 simp only [Tr.At]
 exact ⟨tu,uvs,fs,rfl,h,h3,rfl⟩
theorem bn5:∀ Os:List (List Ev),Tr.hs (outsT Os)≤10
 | []=>by simp [outsT,Tr.hs]
 | os::Os=>by
   have h1:=bm9 os
   have h2:=bn5 Os
   unfold outsT at h2 ⊢
   simp only [List.map_cons,Tr.hs,Tr.h]
   omega
theorem be5 {R:V→List Ev→Prop}{vs:List V}{xs:List (List Ev)}(h:Each R vs xs) (n:Nat):Each R (vs.take n) (xs.take n):=⟨by rw [List.length_take,List.length_take,h.1],fun i a b h1 h2=>by
 rw [List.getElem?_take] at h1 h2
 split at h1
 · rename_i hi
   rw [if_pos hi] at h2
   exact h.2 i a b h1 h2
 · cases h1⟩
theorem cutTo (us:List V) (n:Nat):cutV us none (some (n:Nat))=us.take n:=by
 unfold cutV
 rw [HT.sIx_none,HT.sIx_nat]
 by_cases h:n≤us.length
 · simp [Nat.min_eq_left h]
 · simp [Nat.min_eq_right (show us.length≤n by omega),List.take_of_length_le (show us.length≤n by omega)]
theorem andT {c:Bool}{tb:TT}{σ:St} {H1:Hp}{C:Bool→Hp→Prop}(h:C false H1) (h1:c=true→∀ C':Bool→Hp→Prop,C' false H1→tb σ H1 C'):if c=true then tb σ H1 C else C false H1:=by
 cases c
 · rw [if_neg (by simp)]
   exact h
 · rw [if_pos rfl]
   exact h1 rfl C h
theorem ResAt.many {H:Hp}{v:V}{r:Res}{Q:VK}(h:ResAt H v r) (q1:Q (.bl true) H) (q2:Q (.bl false) H):rEqM v (.str "many") H Q:=by
 rcases h with ⟨_,rfl⟩ | ⟨_,rfl⟩ | ⟨g,l,a,_,rfl,e⟩
 · exact .inl ⟨rfl,by rw [decide_eq_true rfl]; exact q1⟩
 · exact .inl ⟨rfl,by rw [decide_eq_false (fun z=>nomatch z)]; exact q2⟩
 · exact .inr ⟨a,_,_,rfl,e,rfl,q2⟩
theorem ResAt.ty {K:W.Frag}{H:Hp}{v u:V}{r:Res}(h:ResAt H v r) (h2:ResAt H u r):∃ ty b,TyOf K H v ty∧W.kitOne K ty (.type "tuple")=some b∧(b=true→∃ (a:Addr) (g l:Nat),u=.ref a∧H a=some (.tup [.int (g:Nat),.int (l:Nat)])):=by
 rcases h with ⟨rfl,rfl⟩ | ⟨rfl,rfl⟩ | ⟨g,l,a,rfl,rfl,e⟩
 · exact ⟨_,false,.str _,rfl,fun z=>nomatch z⟩
 · exact ⟨_,false,.non,rfl,fun z=>nomatch z⟩
 · refine ⟨_,true,.tup e,rfl,fun _=>?_⟩
   rcases h2 with ⟨z,_⟩ | ⟨z,_⟩ | ⟨g',l',a',_,hu,e'⟩
   · cases z
   · cases z
   · exact ⟨a',g',l',hu,e'⟩
theorem c59 (T:Txt K mg t):FnOk P w K mg base CX0 7 t.a_law t.fd_law ["script"] (am4 K):=by
 have G_Hall___init__:=ai5 (P:=P) (w:=w) (base:=base) T
 have G_TableMachine___init__:=ab4 (P:=P) (w:=w) (base:=base) T
 have G__law_cell:=ax2 (P:=P) (w:=w) (base:=base) T
 have G__law_due:=b61 (P:=P) (w:=w) (base:=base) T
 have G__law_found:=au7 (P:=P) (w:=w) (base:=base) T
 have G__law_known:=av3 (P:=P) (w:=w) (base:=base) T
 have G__law_table:=au0 (P:=P) (w:=w) (base:=base) T
 have G__law_take:=ab9 (P:=P) (w:=w) (base:=base) T
 refine T.F_law.ok sc_law (fun vs H Q E h=>?_) (fun cdv A outer s H vs Q E hr h=>?_)
 · obtain ⟨a,ns,rfl,_⟩:=h
   rfl
 · obtain ⟨a,ns,rfl,hS,hl,q⟩:=h
   refine ⟨_,(@a03 _ _ _ _ _ (@aa9 _ _ _ _ _ _ _ _ PassesOwn.never rfl (aw1 K rfl T.z_enumerate (@a00 _ _ _ _ _ (@ab5 _ _ _ _ _ _ _ _ _ _ (af3 K) (pv 0) (@ae1 _) (@ae2 _ _ _ (@a04 _ _ _ _))) (@a01 _) (by rfl))) (aa6 K (n:=2) rfl (a41 (a08 (i:=1) sc_law.nd rfl (by walk_at "o")) (a41 (a08 (i:=2) sc_law.nd rfl (by walk_at "o")) (@a99 _)))) (@a03 _ _ _ _ _ (@ah8 _ _ _ _ _ _ (@a32 _ _ _ _ _ _ _ _ _ _ _ _ _ _ _ _ G__law_known (hr.mono (by omega)) rfl T.m__law_known T.F__law_known.kp T.b__law_known .nil a61 (@a00 _ _ _ _ _ (@a69 _ _ _ _ _ _ _ _ ao5 (pv 2) (@a04 _ _ _ _)) (@a00 _ _ _ _ _ (@a69 _ _ _ _ _ _ _ _ ad8 (@a69 _ _ _ _ _ _ _ _ a76 (pv 1) (@a45 _ _ _ _ _ _ _ _ _ (ba1 K) (by rfl) T.z_sum bl4 (@a00 _ _ _ _ _ (@ab5 _ _ _ _ _ _ _ _ _ _ (af3 K) (pv 0) (@ae1 _) (@ae2 _ _ _ (@a04 _ _ _ _))) (@a01 _) (by rfl)) (by decide) (by decide) (by rfl) (by rfl))) (@a04 _ _ _ _)) (@a01 _) (by rfl)) (by rfl)) (by decide) (by rfl) (by rfl)) (b93 K (n:=3) rfl (a41 (a08 (i:=3) sc_law.nd rfl (by walk_at "o")) (a41 (a08 (i:=4) sc_law.nd rfl (by walk_at "o")) (a41 (a08 (i:=5) sc_law.nd rfl (by walk_at "o")) (@a99 _))))) (by rfl) (by rfl) (by rfl))
    (@a07 _ _ _ (@ab1 _ _ _ _ _ _ _ _ (@a53 _ _ _ _ _ _ _ _ (bb6 (by exact hr.units)) (@a32 _ _ _ _ _ _ _ _ _ _ _ _ _ _ _ _ G__law_found (hr.mono (by omega)) rfl T.m__law_found T.F__law_found.kp T.b__law_found .nil a61 (@a00 _ _ _ _ _ (ao7 T.mk_Hall G_Hall___init__ (hr.mono (by omega)) rfl T.m_Hall T.b_Hall___init__ .nil a61 (@a00 _ _ _ _ _ (ab6 (Nt:=["table"]) (Nf:=[]) (caps:=[]) rfl (a50 (sc:=defScope af0) rfl rfl (by decide +kernel) (by decide +kernel) (by decide +kernel) rfl (by decide +kernel)) (a48 K (pv 3)) (fun _ _ _ _ _=>(a08 (i:=0) (show (["table"]:List Str).Nodup by decide +kernel) rfl (by walk_at "o"))) (fun _ _ _ _ _=>(@a59 _)) (fun _ _ _ _ _=>(ao7 T.mk_TableMachine G_TableMachine___init__ (hr.mono (by omega)) rfl T.m_TableMachine T.b_TableMachine___init__ .nil a61 (@a00 _ _ _ _ _ (pv 0) (@a01 _) (by rfl))))) (@a01 _) (by rfl))) (@a00 _ _ _ _ _ (pv 4) (@a01 _) (by rfl)) (by rfl)) (by decide) (by rfl) (by rfl)) (pv 5) (nomark _)) (@a07 _ _ _ (@a52 _ _ _ _ (@aj2 _ _ _ _))) (@a68 _)))) (by intro _; rfl))
    (@a03 _ _ _ _ _ (@a36 _ _ 6 _ _ _ _ sc_law.nd rfl (by walk_at "o") (@a69 _ _ _ _ _ _ _ _ ad8 (@a45 _ _ _ _ _ _ _ _ _ (ba1 K) (by rfl) T.z_sum bl4 (@a00 _ _ _ _ _ (pv 0) (@a01 _) (by rfl)) (by decide) (by decide) (by rfl) (by rfl)) (@a04 _ _ _ _)) (by rfl) (by walk_at "o"))
    (@a03 _ _ _ _ _ (@a36 _ _ 7 _ _ _ _ sc_law.nd rfl (by walk_at "o") (@a30 _ _ _ _ (@a00 _ _ _ _ _ (@a32 _ _ _ _ _ _ _ _ _ _ _ _ _ _ _ _ G__law_cell (hr.mono (by omega)) rfl T.m__law_cell T.F__law_cell.kp T.b__law_cell .nil a61 (@a00 _ _ _ _ _ (pv 0) (@a00 _ _ _ _ _ (@a04 _ _ _ _) (@a00 _ _ _ _ _ (pv 6) (@a01 _) (by rfl)) (by rfl)) (by rfl)) (by decide) (by rfl) (by rfl)) (@a00 _ _ _ _ _ (pv 6) (@a01 _) (by rfl)) (by rfl))) (by rfl) (by walk_at "o"))
    (@a03 _ _ _ _ _ (ag9 (i:=3) (Nt:=["k"]) (Nf:=["script","mixed"]) (caps:=[0,6]) rfl (a50 (sc:=defScope af0) rfl rfl (by decide +kernel) (by decide +kernel) (by decide +kernel) rfl (by decide +kernel)) (a95 rfl T.z_range (@a00 _ _ _ _ _ (@a69 _ _ _ _ _ _ _ _ a76 (@a04 _ _ _ _) (@a32 _ _ _ _ _ _ _ _ _ _ _ _ _ _ _ _ G__law_take (hr.mono (by omega)) rfl T.m__law_take T.F__law_take.kp T.b__law_take .nil a61 (@a00 _ _ _ _ _ (pv 7) (@a00 _ _ _ _ _ (@a04 _ _ _ _) (@a01 _) (by rfl)) (by rfl)) (by decide) (by rfl) (by rfl))) (@a01 _) (by rfl))) (fun _ _ _ _ _=>(a08 (i:=0) (show (["k","script","mixed"]:List Str).Nodup by decide +kernel) rfl (by walk_at "o"))) (fun _ _ _ _ _=>(@a59 _)) (fun _ _ _ _ _=>(@a32 _ _ _ _ _ _ _ _ _ _ _ _ _ _ _ _ G__law_table (hr.mono (by omega)) rfl T.m__law_table T.F__law_table.kp T.b__law_table .nil a61 (@a00 _ _ _ _ _ (@a32 _ _ _ _ _ _ _ _ _ _ _ _ _ _ _ _ G__law_cell (hr.mono (by omega)) rfl T.m__law_cell T.F__law_cell.kp T.b__law_cell .nil a61 (@a00 _ _ _ _ _ (pv 1) (@a00 _ _ _ _ _ (@a69 _ _ _ _ _ _ _ _ a76 (@a04 _ _ _ _) (pv 0)) (@a00 _ _ _ _ _ (pv 2) (@a01 _) (by rfl)) (by rfl)) (by rfl)) (by decide) (by rfl) (by rfl)) (@a00 _ _ _ _ _ (pv 2) (@a01 _) (by rfl)) (by rfl)) (by decide) (by rfl) (by rfl))) sc_law.nd rfl (by walk_at "o") rfl)
    (@a03 _ _ _ _ _ (@a36 _ _ 8 _ _ _ _ sc_law.nd rfl (by walk_at "o") (ao7 T.mk_Hall G_Hall___init__ (hr.mono (by omega)) rfl T.m_Hall T.b_Hall___init__ .nil a61 (@a00 _ _ _ _ _ (ab6 (Nt:=["table"]) (Nf:=[]) (caps:=[]) rfl (a50 (sc:=defScope af0) rfl rfl (by decide +kernel) (by decide +kernel) (by decide +kernel) rfl (by decide +kernel)) (a48 K (pv 3)) (fun _ _ _ _ _=>(a08 (i:=0) (show (["table"]:List Str).Nodup by decide +kernel) rfl (by walk_at "o"))) (fun _ _ _ _ _=>(@a59 _)) (fun _ _ _ _ _=>(ao7 T.mk_TableMachine G_TableMachine___init__ (hr.mono (by omega)) rfl T.m_TableMachine T.b_TableMachine___init__ .nil a61 (@a00 _ _ _ _ _ (pv 0) (@a01 _) (by rfl))))) (@a01 _) (by rfl))) (by rfl) (by walk_at "o"))
    (@a03 _ _ _ _ _ (@a36 _ _ 4 _ _ _ _ sc_law.nd rfl (by walk_at "o") (@a30 _ _ _ _ (@a01 _)) (by rfl) (by walk_at "o"))
    (@a03 _ _ _ _ _ (@aa9 _ _ _ _ _ _ _ _ PassesOwn.never rfl (a95 rfl T.z_range (@a00 _ _ _ _ _ (@a32 _ _ _ _ _ _ _ _ _ _ _ _ _ _ _ _ G__law_take (hr.mono (by omega)) rfl T.m__law_take T.F__law_take.kp T.b__law_take .nil a61 (@a00 _ _ _ _ _ (pv 7) (@a00 _ _ _ _ _ (@a04 _ _ _ _) (@a01 _) (by rfl)) (by rfl)) (by decide) (by rfl) (by rfl)) (@a01 _) (by rfl))) (a08 (i:=1) sc_law.nd rfl (by walk_at "o")) (@a03 _ _ _ _ _ (@a36 _ _ 9 _ _ _ _ sc_law.nd rfl (by walk_at "o") (@a30 _ _ _ _ (@a00 _ _ _ _ _ (@a69 _ _ _ _ _ _ _ _ ao5 (@a32 _ _ _ _ _ _ _ _ _ _ _ _ _ _ _ _ G__law_cell (hr.mono (by omega)) rfl T.m__law_cell T.F__law_cell.kp T.b__law_cell .nil a61 (@a00 _ _ _ _ _ (pv 0) (@a00 _ _ _ _ _ (@a69 _ _ _ _ _ _ _ _ a76 (@a04 _ _ _ _) (pv 1)) (@a00 _ _ _ _ _ (pv 6) (@a01 _) (by rfl)) (by rfl)) (by rfl)) (by decide) (by rfl) (by rfl)) (@a04 _ _ _ _)) (@a00 _ _ _ _ _ (pv 6) (@a01 _) (by rfl)) (by rfl))) (by rfl) (by walk_at "o"))
     (@a07 _ _ _ (@aa5 _ _ _ _ (@ab0 _ K _ _ _ _ _ _ _ _ _ _ _ PySem.F.plainAttrs_list PySem.F.slot_list_append PySem.F.type_list_append a84 (pv 4) (@a00 _ _ _ _ _ (ab6 (Nt:=["table"]) (Nf:=["state"]) (caps:=[9]) rfl (a50 (sc:=defScope af0) rfl rfl (by decide +kernel) (by decide +kernel) (by decide +kernel) rfl (by decide +kernel)) (a48 K (pv 3)) (fun _ _ _ _ _=>(a08 (i:=0) (show (["table","state"]:List Str).Nodup by decide +kernel) rfl (by walk_at "o"))) (fun _ _ _ _ _=>(@a59 _)) (fun _ _ _ _ _=>(@a40 _ _ _ _ _ _ _ (a35 K) (@a30 _ _ _ _ (@a00 _ _ _ _ _ (@a34 _ _ _ _ _ (@a00 _ _ _ _ _ (@a51 _ _ _ _) (@a01 _) (by rfl))) (@a00 _ _ _ _ _ (@a34 _ _ _ _ _ (@a00 _ _ _ _ _ (@a51 _ _ _ _) (@a00 _ _ _ _ _ (@a32 _ _ _ _ _ _ _ _ _ _ _ _ _ _ _ _ G__law_take (hr.mono (by omega)) rfl T.m__law_take T.F__law_take.kp T.b__law_take .nil a61 (@a00 _ _ _ _ _ (pv 1) (@a00 _ _ _ _ _ (@a04 _ _ _ _) (@a01 _) (by rfl)) (by rfl)) (by decide) (by rfl) (by rfl)) (@a01 _) (by rfl)) (by rfl))) (@a01 _) (by rfl)) (by rfl))) (@a32 _ _ _ _ _ _ _ _ _ _ _ _ _ _ _ _ G__law_take (hr.mono (by omega)) rfl T.m__law_take T.F__law_take.kp T.b__law_take .nil a61 (@a00 _ _ _ _ _ (pv 1) (@a00 _ _ _ _ _ (@a04 _ _ _ _) (@a01 _) (by rfl)) (by rfl)) (by decide) (by rfl) (by rfl)) (fun _ _=>rfl)))) (@a01 _) (by rfl)) (by rfl) (by rfl) (by rfl) (by rfl) (by rfl) (by rfl)) (by rfl)))) (by intro _; rfl))
    (@a03 _ _ _ _ _ (@a36 _ _ 5 _ _ _ _ sc_law.nd rfl (by walk_at "o") (@a32 _ _ _ _ _ _ _ _ _ _ _ _ _ _ _ _ G__law_due (hr.mono (by omega)) rfl T.m__law_due T.F__law_due.kp T.b__law_due .nil a61 (@a00 _ _ _ _ _ (pv 3) (@a00 _ _ _ _ _ (pv 4) (@a01 _) (by rfl)) (by rfl)) (by decide) (by rfl) (by rfl)) (by rfl) (by walk_at "o"))
    (@a03 _ _ _ _ _ (ag9 (i:=10) (Nt:=["outer"]) (Nf:=[]) (caps:=[]) rfl (a50 (sc:=defScope af0) rfl rfl (by decide +kernel) (by decide +kernel) (by decide +kernel) rfl (by decide +kernel)) (a48 K (pv 4)) (fun _ _ _ _ _=>(a08 (i:=0) (show (["outer"]:List Str).Nodup by decide +kernel) rfl (by walk_at "o"))) (fun _ _ _ _ _=>(@a59 _)) (fun _ _ _ _ _=>(@a37 _ _ _ _ _ _ _ _ _ (a94 K) (by rfl) T.z_list a98 (@a00 _ _ _ _ _ (pv 0) (@a01 _) (by rfl)) (by decide) (by decide) (by rfl) (by rfl))) sc_law.nd rfl (by walk_at "o") rfl)
    (@a03 _ _ _ _ _ (@a36 _ _ 11 _ _ _ _ sc_law.nd rfl (by walk_at "o") (@a32 _ _ _ _ _ _ _ _ _ _ _ _ _ _ _ _ G__law_found (hr.mono (by omega)) rfl T.m__law_found T.F__law_found.kp T.b__law_found .nil a61 (@a00 _ _ _ _ _ (pv 8) (@a00 _ _ _ _ _ (pv 10) (@a01 _) (by rfl)) (by rfl)) (by decide) (by rfl) (by rfl)) (by rfl) (by walk_at "o"))
    (@a03 _ _ _ _ _ (@ab1 _ _ _ _ _ _ _ _ (@PW.pt _ _ _ (@bn8 _ _ _ _ _ _ _ (@a53 _ _ _ _ _ _ _ _ (bb6 (by exact hr.units)) (pv 11) (pv 5) (nomark _)) (@b66 _ _ _ _ (@a53 _ _ _ _ _ _ _ _ (bg8 (by exact hr.units)) (pv 10) (pv 4) (nomark _))))) (@a07 _ _ _ (@a52 _ _ _ _ (@aj2 _ _ _ _))) (@a68 _))
    (@a03 _ _ _ _ _ (@ab1 _ _ _ _ _ _ _ _ (@PW.pt _ _ _ (@aj5 _ _ _ _ _ _ _ (ae4 K (@a45 _ _ _ _ _ _ _ _ _ (aw0 K) (by rfl) T.z_isinstance ab7 (@a00 _ _ _ _ _ (pv 5) (@a00 _ _ _ _ _ (av5 (v:=.ty "tuple") (by rfl) T.z_tuple af5 rfl) (@a01 _) (by rfl)) (by rfl)) (by decide) (by decide) (by rfl) (by rfl)) (fun _=>rfl)) (@ag8 _ _ _ _ (@PW.pt _ _ _ (@bn8 _ _ _ _ _ _ _ (@b67 _ _ _ _ (ae4 K (@a45 _ _ _ _ _ _ _ _ _ (aw0 K) (by rfl) T.z_isinstance ab7 (@a00 _ _ _ _ _ (pv 11) (@a00 _ _ _ _ _ (av5 (v:=.ty "tuple") (by rfl) T.z_tuple af5 rfl) (@a01 _) (by rfl)) (by rfl)) (by decide) (by decide) (by rfl) (by rfl)) (fun _=>rfl))) (@b66 _ _ _ _ (ae4 K (@a45 _ _ _ _ _ _ _ _ _ (aw0 K) (by rfl) T.z_isinstance ab7 (@a00 _ _ _ _ _ (@a40 _ _ _ _ _ _ _ (a38 K) (pv 11) (@a04 _ _ _ _) (fun _ _=>rfl)) (@a00 _ _ _ _ _ (av5 (v:=.ty "bool") (by rfl) T.z_bool bp0 rfl) (@a01 _) (by rfl)) (by rfl)) (by decide) (by decide) (by rfl) (by rfl)) (fun _=>rfl)))))))) (@a07 _ _ _ (@a52 _ _ _ _ (@aj2 _ _ _ _))) (@a68 _))
    (@a03 _ _ _ _ _ (@ab1 _ _ _ _ _ _ _ _ (@PW.pt _ _ _ (@bn8 _ _ _ _ _ _ _ (@a53 _ _ _ _ _ _ _ _ aq9 (@a45 _ _ _ _ _ _ _ _ _ (a83 K) (by rfl) T.z_len a87 (@a00 _ _ _ _ _ (pv 4) (@a01 _) (by rfl)) (by decide) (by decide) (by rfl) (by rfl)) (@a04 _ _ _ _) (nomark _)) (@b66 _ _ _ _ (@a53 _ _ _ _ _ _ _ _ (br9 (by exact hr.units)) (pv 5) (@a51 _ _ _ _) (nomark _))))) (@a07 _ _ _ (@a52 _ _ _ _ (@aj2 _ _ _ _))) (@a68 _))
    (@a07 _ _ _ (@a52 _ _ _ _ (@ac4 _ _ _ _ _ _ _ _ (bs0 (by exact hr.units)) (@a32 _ _ _ _ _ _ _ _ _ _ _ _ _ _ _ _ G__law_found (hr.mono (by omega)) rfl T.m__law_found T.F__law_found.kp T.b__law_found .nil a61 (@a00 _ _ _ _ _ (pv 8) (@a00 _ _ _ _ _ (@ab5 _ _ _ _ _ _ _ _ _ _ (af3 K) (pv 4) (@ae1 _) (@ae2 _ _ _ (@a04 _ _ _ _))) (@a01 _) (by rfl)) (by rfl)) (by decide) (by rfl) (by rfl)) (@a32 _ _ _ _ _ _ _ _ _ _ _ _ _ _ _ _ G__law_due (hr.mono (by omega)) rfl T.m__law_due T.F__law_due.kp T.b__law_due .nil a61 (@a00 _ _ _ _ _ (pv 3) (@a00 _ _ _ _ _ (@ab5 _ _ _ _ _ _ _ _ _ _ (af3 K) (pv 4) (@ae1 _) (@ae2 _ _ _ (@a04 _ _ _ _))) (@a01 _) (by rfl)) (by rfl)) (by decide) (by rfl) (by rfl)) (nomark _))))))))))))))))),?_⟩
   have sl:(1000000:Nat)≤sizeLine:=le_line (Nat.le_refl _)
   walk_at "go"
   refine b91 hS ?_
   intro b H1 f1 s1 e1
   obtain ⟨cs,hcs,hc3⟩:∃ cs:List Int,cutV (ns.map V.int) none (some 2)=cs.map V.int∧cs.length≤63:=by
    unfold cutV
    exact ⟨(ns.drop _).take _,by rw [List.map_take,List.map_drop],by simp; omega⟩
   rw [hcs] at e1
   walk_at "r"
   refine ⟨⟨_,SqL.of e1⟩,az3 (K:=K) (a:=b) (xs:=cs.map V.int) (fun i σ H'=>Same H1 H'∧∃ y1 y2 y3 y4 y5 y6 y7 y8 y9 y10 y11,σ=[some (.ref a),y1,y2,y3,y4,y5,y6,y7,y8,y9,y10,y11]) ⟨Same.refl _,_,_,_,_,_,_,_,_,_,_,_,rfl⟩ (fun i σ H' _ ⟨s',_⟩=>SqL.of (s' _ _ e1)) ?_ ?_⟩
   · rintro i v σ H2 qp H3 hv ⟨s2,y1,y2,y3,y4,y5,y6,y7,y8,y9,y10,y11,rfl⟩ s23 hqp
     rw [gM] at hv
     obtain ⟨c,hc,rfl⟩:=gO hv
     refine am7 (SqT.of hqp) rfl ?_
     walk_at "r"
     have s03:=s1.trans (s2.trans s23)
     refine b91 (s03.seq hS) ?_
     intro b4 H4 f4 s4 e4
     obtain ⟨cs4,hcs4⟩:∃ cs:List Int,cutV (ns.map V.int) none (some 1)=cs.map V.int:=by
      unfold cutV
      exact ⟨(ns.drop _).take _,by rw [List.map_take,List.map_drop]⟩
     rw [hcs4] at e4
     walk_at "r"
     refine c07 (SqL.of e4) ?_
     walk_at "r"
     refine ⟨_,_,rfl,fun r5 xs Os ta tu tvs uvs dv res H5 s5 hK5=>?_⟩
     walk_at "r"
     refine bl7 (SqL.of hK5.hr) rfl ?_
     walk_at "r"
     have hT5:=hK5.hT
     have hok:=hK5.hok
     have hxn:=hK5.hn
     have tl:=hT5.len
     have e5:=hK5.hta
     refine ⟨⟨_,SqL.of e5⟩,a77 (xs:=tvs) (by omega) (fun i acc H'=>i≤xs.length∧Same H5 H'∧∃ ms:List Addr,acc=ms.map V.ref∧Each (MS w.params t.c_TableMachine H') ms (xs.take i)) ⟨Nat.zero_le _,Same.refl _,[],rfl,.nil⟩ (fun i acc H' ⟨_,s',ms,e,he⟩=>⟨by rw [e,gL,he.len,List.length_take]; omega,SqL.of (s' _ _ e5)⟩) ?_ ?_⟩
     · rintro i v acc H6 hv ⟨hi,s6,ms,rfl,he⟩
       have hi':i<xs.length:=by rw [← tl]; exact (gS hv).1
       obtain ⟨x,hx⟩:∃ x,xs[i]?=some x:=⟨_,gE hi'⟩
       walk_at "r"
       intro mp dxm fmp fdx hne'
       have s23:Same H6 (upd (upd H6 dxm (.own mp)) mp (.ins t.c_TableMachine dxm [])):=(Same.new fdx).updNew fmp
       have e3:upd (upd H6 dxm (.own mp)) mp (.ins t.c_TableMachine dxm []) mp=some (.ins t.c_TableMachine dxm []):=a33
       generalize upd (upd H6 dxm (.own mp)) mp (.ins t.c_TableMachine dxm [])=H7 at s23 e3
       obtain ⟨a1,b1,c1,gsx,htab⟩:=(hT5.2 i v _ hv hx).same (s6.trans s23)
       refine ⟨mp,dxm,v,a1,b1,c1,_,_,_,gsx,rfl,e3,htab,(hok _ (gI hx)).tab,fun d s' c' gs' H8 hM8 _ _ _ _ keep=>⟨rfl,?_⟩⟩
       have s24:Same H6 H8:=fun y o e=>keep y o (s23 y o e) (a06 e fmp)
       refine ⟨hi',s6.trans s24,ms++[mp],by simp,?_⟩
       rw [List.take_add_one,hx]
       exact (he.mono fun m x h=>h.same s24).snoc ⟨d,s',c',gs',hM8⟩
     rintro acc H6 ⟨_,s6,ms,rfl,hM⟩ pm H7 f7 s7 e7
     rw [tl,List.take_length] at hM
     walk_at "r"
     intro hp dxh fhp fdx hne'
     have s34:Same H7 (upd (upd H7 dxh (.own hp)) hp (.ins t.c_Hall dxh [])):=(Same.new fdx).updNew fhp
     have e8:upd (upd H7 dxh (.own hp)) hp (.ins t.c_Hall dxh []) hp=some (.ins t.c_Hall dxh []):=a33
     generalize upd (upd H7 dxh (.own hp)) hp (.ins t.c_Hall dxh [])=H8 at s34 e8
     refine ⟨hp,pm,dxh,ms,rfl,e8,s34 _ _ e7,fun H9 keep hH9 _=>⟨rfl,?_⟩⟩
     have s79:Same H7 H9:=fun y o e=>keep y o (s34 y o e) (a06 e fhp)
     have s69:=s7.trans s79
     have s59:=s6.trans s69
     have hM9:=hM.mono fun m x (h:MS w.params t.c_TableMachine H6 m x)=>h.same s69
     walk_at "r"
     refine ⟨hp,tu,ms,xs,Os,uvs,rfl,⟨hH9,hM9,hxn,hok,s59 _ _ hK5.htu,hK5.hO.mono fun v x h=>h.same s59,hK5.hl,hK5.hol⟩,fun r v H10 s10 hF hR=>?_⟩
     obtain rfl:=hF.one hK5.hF
     walk_at "r"
     refine hR.ne (hK5.hR.same (s59.trans s10).tups) ?_
     walk_at "r"
     exact ⟨s2.trans (s23.trans (s4.trans (s5.trans (s59.trans s10)))),_,_,_,_,_,_,_,_,_,_,_,rfl⟩
   rintro σ H2 ⟨s2,y1,y2,y3,y4,y5,y6,y7,y8,y9,y10,y11,rfl⟩
   have s02:=s1.trans s2
   have hS2:=s02.seq hS
   clear e1 hcs hc3
   walk_at "r"
   refine c07 hS2 ?_
   walk_at "r"
   obtain ⟨mx,hmx,emx⟩:∃ r:Nat,r<2∧ns.sum % 2=(r:Nat):=ap4 _ (m:=2) (by decide)
   rw [emx]
   refine ⟨a,ns,0,(mx:Int),rfl,hS2,by omega,by omega,by omega,fun z0 H3 s3=>?_⟩
   walk_at "r"
   intro s0 H4 f4 s4 e4
   have k4:StA H4 s0 (mx:Int):=⟨z0,e4⟩
   walk_at "r"
   refine ⟨s0,mx,3,rfl,k4,by decide,by decide,fun r H5 hr o5 k5=>?_⟩
   have fs0:H2 s0=none:=s3.free f4
   have s25:Same H2 H5:=o5.new (s3.trans s4) fs0
   walk_at "r"
   rw [show (1+(r:Int)).toNat=r+1 by omega]
   refine ai8 (lo:=0) (n:=r+1) (by omega) (fun i acc H'=>i≤r+1∧Same H5 H'∧∃ xs:List Tab,Each (TabW H') acc xs∧xs.length=i∧∀ x∈xs,TOk x) ⟨Nat.zero_le _,Same.refl _,[],.nil,rfl,by simp⟩ (fun i acc H' ⟨_,s',xs,he,hi,_⟩=>by rw [he.len]; omega) ?_ ?_
   · rintro i acc H6 hi ⟨_,s6,xs,he,hxl,hok⟩
     rw [Int.zero_add]
     walk_at "r"
     rw [show (1+(i:Int))=((1+i:Nat):Int) by omega]
     refine ⟨a,ns,1+i,(mx:Int),rfl,(s25.trans s6).seq hS2,by omega,by omega,by omega,fun z1 H7 s7=>?_⟩
     walk_at "r"
     refine ⟨z1,mx,rfl,fun v x H8 s8 hx hxok=>?_⟩
     refine ⟨hi,s6.trans (s7.trans s8),xs++[x],(he.mono fun v x h=>h.same (s7.trans s8)).snoc hx,by simp [hxl],fun y hy=>?_⟩
     rcases gA hy with h | h
     · exact hok y h
     · rw [gG h]; exact hxok
   rintro tvs H6 ⟨_,s6,xs,hT6,hxl,hok⟩ ta H7 f7 s7 e7
   have hT7:=hT6.mono fun v x (h:TabW H6 v x)=>h.same s7
   have tl:=hT7.len
   have s57:=s6.trans s7
   have s27:=s25.trans s57
   have k7:=k5.same s57
   clear hT6
   walk_at "r"
   refine ⟨⟨_,SqL.of e7⟩,a77 (xs:=tvs) (by omega) (fun i acc H'=>i≤xs.length∧Same H7 H'∧∃ ms:List Addr,acc=ms.map V.ref∧Each (MS w.params t.c_TableMachine H') ms (xs.take i)) ⟨Nat.zero_le _,Same.refl _,[],rfl,.nil⟩ (fun i acc H' ⟨_,s',ms,e,he⟩=>⟨by rw [e,gL,he.len,List.length_take]; omega,SqL.of (s' _ _ e7)⟩) ?_ ?_⟩
   · rintro i v acc H8 hv ⟨hi,s8,ms,rfl,he⟩
     have hi':i<xs.length:=by rw [← tl]; exact (gS hv).1
     obtain ⟨x,hx⟩:∃ x,xs[i]?=some x:=⟨_,gE hi'⟩
     walk_at "r"
     intro mp dxm fmp fdx hne'
     have s23:Same H8 (upd (upd H8 dxm (.own mp)) mp (.ins t.c_TableMachine dxm [])):=(Same.new fdx).updNew fmp
     have e3:upd (upd H8 dxm (.own mp)) mp (.ins t.c_TableMachine dxm []) mp=some (.ins t.c_TableMachine dxm []):=a33
     generalize upd (upd H8 dxm (.own mp)) mp (.ins t.c_TableMachine dxm [])=H9 at s23 e3
     obtain ⟨a1,b1,c1,gsx,htab⟩:=(hT7.2 i v _ hv hx).same (s8.trans s23)
     refine ⟨mp,dxm,v,a1,b1,c1,_,_,_,gsx,rfl,e3,htab,(hok _ (gI hx)).tab,fun d s' c' gs' H10 hM8 _ _ _ _ keep=>⟨rfl,?_⟩⟩
     have s24:Same H8 H10:=fun y o e=>keep y o (s23 y o e) (a06 e fmp)
     refine ⟨hi',s8.trans s24,ms++[mp],by simp,?_⟩
     rw [List.take_add_one,hx]
     exact (he.mono fun m x h=>h.same s24).snoc ⟨d,s',c',gs',hM8⟩
   rintro acc H8 ⟨_,s8,ms,rfl,hM⟩ pm H9 f9 s9 e9
   rw [tl,List.take_length] at hM
   walk_at "r"
   intro hp dxh fhp fdx hne'
   have s34:Same H9 (upd (upd H9 dxh (.own hp)) hp (.ins t.c_Hall dxh [])):=(Same.new fdx).updNew fhp
   have e10:upd (upd H9 dxh (.own hp)) hp (.ins t.c_Hall dxh []) hp=some (.ins t.c_Hall dxh []):=a33
   generalize upd (upd H9 dxh (.own hp)) hp (.ins t.c_Hall dxh [])=H10 at s34 e10
   refine ⟨hp,pm,dxh,ms,rfl,e10,s34 _ _ e9,fun H11 keep hH11 _=>⟨rfl,?_⟩⟩
   have s911:Same H9 H11:=fun y o e=>keep y o (s34 y o e) (a06 e fhp)
   have s811:=s9.trans s911
   have s711:=s8.trans s811
   have hM11:=hM.mono fun m x (h:MS w.params t.c_TableMachine H8 m x)=>h.same s811
   have hT11:=hT7.mono fun v x (h:TabW H7 v x)=>h.same s711
   have eta11:=s711 _ _ e7
   have k11:=k7.same s711
   have s211:=s27.trans s711
   clear hM hT7 e7 e9 e10
   walk_at "r"
   intro pu H12 f12 s12 e12
   walk_at "r"
   have k12:=k11.same s12
   have npu:pu≠s0:=k11.ne f12
   refine ⟨s0,mx,3,rfl,k12,by decide,by decide,fun R H13 hR o13 k13=>?_⟩
   have o1113:Oth s0 H11 H13:=(a54 s12).trans o13
   have epu13:=o13 _ _ npu e12
   have nta:ta≠s0:=k11.lst_ne eta11 (ad1 (aq6 hT11))
   have to2:∀ {H':Hp},Oth s0 H11 H'→Same H2 H':=fun o=>o.new s211 fs0
   walk_at "r"
   rw [Int.toNat_natCast]
   refine ab3 (lo:=0) (n:=R) (fun i σ H'=>i≤R∧Oth s0 H11 H'∧StA H' s0 mx∧(∃ uvs Os,H' pu=some (.lst uvs)∧Each (OtAt H') uvs Os∧Os.length=i∧(∀ os∈Os,os.length=xs.length)∧∀ v∈uvs,v≠.ref pu)∧∃ y1 y2 y5 y9 y10 y11,σ=[some (.ref a),y1,y2,some (.ref ta),some (.ref pu),y5,some (.int (mx:Nat)),some (.ref s0),some (.ref hp),y9,y10,y11]) ⟨Nat.zero_le _,o1113,k13,⟨[],[],epu13,.nil,rfl,by simp,by simp⟩,_,_,_,_,_,_,rfl⟩ ?_ ?_
   · rintro i σ H14 hi ⟨_,o14,k14,⟨uvs,Os,epu14,hO14,hOl,hol,hnu⟩,y1,y2,y5,y9,y10,y11,rfl⟩
     rw [Int.zero_add]
     walk_at "r"
     rw [show (5+(i:Int))=((5+i:Nat):Int) by omega]
     refine ⟨a,ns,5+i,(mx:Int),rfl,(to2 o14).seq hS2,by omega,by omega,by omega,fun z1 H15 s15=>?_⟩
     walk_at "r"
     intro s1' H16 f16 s16 e16
     have k16:StA H16 s1' (mx:Int):=⟨z1 / 7,e16⟩
     walk_at "r"
     have o16:Oth s0 H11 H16:=o14.trans (a54 (s15.trans s16))
     have eta14:=o14 _ _ nta eta11
     have f14s:H14 s1'=none:=s15.free f16
     have ne1:ta≠s1':=a06 eta14 f14s
     have ne2:pu≠s1':=a06 epu14 f14s
     have eta16:=(s15.trans s16) _ _ eta14
     have epu16:=(s15.trans s16) _ _ epu14
     have hO16:=hO14.mono fun v x (h:OtAt H14 v x)=>h.same (s15.trans s16)
     have hnu2:∀ v∈uvs,v≠.ref s1':=fun v hv z=>by
      obtain ⟨j,hj,rfl⟩:=List.mem_iff_getElem.mp hv
      have hol:=hO14.len
      obtain ⟨ou,ovs,e1,e2,_⟩:=hO14.2 j _ (Os[j]'(by omega)) (gE hj) (gE (by omega))
      rw [z] at e1
      cases e1
      rw [f14s] at e2
      cases e2
     have new11:H11 s1'=none:=by
      cases e:H11 s1' with
      | none=>rfl
      | some ob =>
        rw [o14 _ _ (k14.ne f14s) e] at f14s
        cases f14s
     refine af7 (SqL.of epu16) ?_
     walk_at "r"
     refine ⟨⟨_,SqL.of eta16⟩,a77 (xs:=tvs) (by omega) (fun j acc H'=>j≤xs.length∧Oth s1' H16 H'∧StA H' s1' mx∧∃ os:List Ev,os.length=j∧Each (fun v (e:Ev)=>e.tr.At H' v []) acc os) ⟨Nat.zero_le _,Oth.refl,k16,[],rfl,.nil⟩ (fun j acc H' ⟨_,o',_,os,hl,he⟩=>⟨by rw [he.len]; omega,SqL.of (o' _ _ ne1 eta16)⟩) ?_ ?_⟩
     · rintro j v acc H17 hv ⟨hj,o17,k17,os,hosl,he⟩
       have hj':j<xs.length:=by rw [← tl]; exact (gS hv).1
       walk_at "r"
       intro p18 H18 f18 s18 e18
       walk_at "r"
       have k18:=k17.same s18
       refine ⟨s1',mx,10,rfl,k18,by decide,by decide,fun r1 H19 hr1 o19 k19=>?_⟩
       walk_at "r"
       intro p20 H20 f20 s20 e20
       walk_at "r"
       intro p21 H21 f21 s21 e21
       walk_at "r"
       have k21:=k19.same (s20.trans s21)
       have n21:p21≠s1':=(k19.same s20).ne f21
       refine ⟨s1',mx,2,rfl,k21,by decide,by decide,fun r2 H22 hr2 o22 k22=>?_⟩
       walk_at "r"
       have t1922:Tups H19 H22:=(s20.trans s21).tups.trans (o22.tups k21)
       have t1822:Tups H18 H22:=(o19.tups k18).trans t1922
       obtain ⟨ev,e,hev,hee⟩:∃ v,∃ e:Ev,atI [V.ref p18,V.ref p20] (r2:Nat)=some v∧e.tr.At H22 v []:=by
        have:r2=0∨r2=1:=by omega
        rcases this with rfl | rfl
        · exact ⟨_,.quiet,a05 rfl,at_tup0.mpr ⟨p18,_,rfl,t1822 _ _ e18,ats_cons0.mpr ⟨_,_,rfl,str_at0,ats_nil0.mpr rfl⟩⟩⟩
        · exact ⟨_,.key r1,a05 rfl,ak1 ((s21.tups.trans (o22.tups k21)) _ _ e20) str_at0 az0⟩
       refine a86 (SqL.of (o22 _ _ n21 e21)) hev ?_
       exact ⟨hj',o17.trans ((a54 s18).trans (o19.trans ((a54 (s20.trans s21)).trans o22))),k22,os++[e],by simp [hosl],(he.mono fun v x h=>a78 h (s18.tups.trans t1822)).snoc hee⟩
     rintro ovs H17 ⟨_,o17,k17,os,hosl,he⟩ po H18 f18 s18 e18
     rw [tl] at hosl
     walk_at "r"
     have o1618:Oth s1' H16 H18:=o17.trans (a54 s18)
     have epu18:=o1618 _ _ ne2 epu16
     have npo:po≠pu:=(a06 (o17 _ _ ne2 epu16) f18).symm
     have uvl:uvs.length=i:=by rw [hO14.len]; exact hOl
     refine a96 epu18 (by omega) ?_
     have hO18:Each (OtAt H18) uvs Os:=⟨hO16.1,fun j v x h1 h2=>(hO16.2 j v x h1 h2).oth o1618 k16.lst (hnu2 v (gI h1))⟩
     have o18:Oth s0 H11 H18:=fun y ob hy e=>o1618 y ob (a06 e new11) (o16 y ob hy e)
     have ou:Oth pu H18 (upd H18 pu (.lst (uvs++[.ref po]))):=aq5
     have ks18:StA (upd H18 pu (.lst (uvs++[.ref po]))) s0 mx:=by
      have nk:=k14.ne f14s
      obtain ⟨x,hx⟩:=k14
      exact ⟨x,ou _ _ npu.symm (o1618 _ _ nk.symm ((s15.trans s16) _ _ hx))⟩
     refine ⟨hi,o18.updNew f12,ks18,⟨uvs++[.ref po],Os++[os],a33,?_,by simp [hOl],fun x hx=>?_,fun v hv=>?_⟩,_,_,_,_,_,_,rfl⟩
     · exact Each.snoc ⟨hO18.1,fun j v x h1 h2=>(hO18.2 j v x h1 h2).oth ou ⟨_,epu18⟩ (hnu v (gI h1))⟩ (OtAt.oth ⟨po,ovs,rfl,e18,he.mono fun v (x:Ev) h=>a78 h s18.tups⟩ ou ⟨_,epu18⟩ (fun z=>npo (V.ref.inj z)))
     · rcases gA hx with h | h
       · exact hol x h
       · rw [gG h]; exact hosl
     · rcases gA hv with h | h
       · exact hnu v h
       · rw [gG h]
         exact fun z=>npo (V.ref.inj z)
   rintro σ H14 ⟨_,o14,_,⟨uvs,Os,epu14,hO14,hOl,hol,hnu⟩,y1,y2,y5,y9,y10,y11,rfl⟩
   have hH14:=hH11.oth o14 k11
   have hM14:=hM11.mono fun m x (h:MS w.params t.c_TableMachine H11 m x)=>h.oth o14 k11
   have hT14:Each (TabW H14) tvs xs:=hT11.mono fun v x h=>h.oth o14 k11
   have eta14:=o14 _ _ nta eta11
   have uvl:=hO14.len
   have hxn:xs.length≤100:=by omega
   walk_at "r"
   refine ⟨ta,pu,tvs,uvs,xs,Os,rfl,⟨eta14,hT14,hok,hxn,epu14,hO14,by omega,hol⟩,fun r dv H15 s15 hF hR=>?_⟩
   walk_at "r"
   have epu15:=s15 _ _ epu14
   have hO15:=hO14.mono fun v x (h:OtAt H14 v x)=>h.same s15
   refine ⟨⟨_,SqL.of epu15⟩,a77 (xs:=uvs) (by omega) (fun j acc H'=>j≤Os.length∧Same H15 H'∧Each (OtAt H') acc (Os.take j)) ⟨Nat.zero_le _,Same.refl _,.nil⟩ (fun j acc H' ⟨_,s',he⟩=>⟨by rw [he.len,List.length_take]; omega,SqL.of (s' _ _ epu15)⟩) ?_ ?_⟩
   · rintro j v acc H16 hv ⟨hj,s16,he⟩
     obtain ⟨os,hos⟩:∃ os,Os[j]?=some os:=⟨_,gE (by have:=(gS hv).1; omega)⟩
     obtain ⟨ou,ovs,rfl,e1,e2⟩:=(hO15.2 j v os hv hos).same s16
     walk_at "r"
     refine aa7 (SqL.of e1) ?_
     intro p17 H17 f17 s17 e17
     refine ⟨(gS hos).1,s16.trans s17,?_⟩
     rw [List.take_add_one,hos]
     exact (he.mono fun v x h=>h.same s17).snoc ⟨p17,ovs,rfl,e17,e2.mono fun v (x:Ev) h=>a78 h s17.tups⟩
   rintro hvs H16 ⟨_,s16,hE16⟩ ph H17 f17 s17 e17
   rw [uvl,List.take_length] at hE16
   have hE17:=hE16.mono fun v x (h:OtAt H16 v x)=>h.same s17
   have s1517:=s16.trans s17
   have s1417:=s15.trans s1517
   walk_at "r"
   have hol1:Os.length≤1000:=by omega
   refine ⟨hp,ph,ms,xs,Os,hvs,rfl,⟨hH14.same s1417,hM14.mono fun m x h=>h.same s1417,hxn,hok,e17,hE17,hol1,hol⟩,fun r2 fv H18 s18 hF2 hR2=>?_⟩
   obtain rfl:=hF.one hF2
   have s1518:=s1517.trans s18
   have hR18:=hR.same s1518.tups
   walk_at "r"
   refine hR2.ne hR18 ?_
   walk_at "r"
   obtain ⟨fs1,tr1⟩:=b35 (s18 _ _ e17) (hE17.mono fun v x h=>h.same s18)
   obtain ⟨fs2,tr2⟩:=b35 (s1518 _ _ epu15) (hO15.mono fun v x h=>h.same s1518)
   refine c01 tr1 tr2 (by have:=bn5 Os; omega) ?_
   walk_at "r"
   have s1418:=s15.trans s1518
   obtain ⟨ty,bb,ty1,ty2,ty3⟩:=hR18.ty (K:=K) hR2
   refine ⟨_,_,ty,bb,rfl,ty1,ty2,?_⟩
   refine ⟨bb,?_,?_⟩
   rotate_left
   refine andT ?_ fun hb C' hC=>?_
   rotate_left
   · obtain ⟨fa,g,l,rfl,efa⟩:=ty3 hb
     walk_at "r"
     refine bz8 efa ?_
     walk_at "r"
     refine a72 (SqT.of efa) (a05 (j:=0) rfl) ?_
     walk_at "r"
     exact hC
   · exact (rfl:bb=bb)
   rw [if_neg (by simp)]
   walk_at "r"
   have epu18:=s1518 _ _ epu15
   refine aa4 (SqL.of epu18) ?_
   rw [uvl]
   walk_at "r"
   by_cases h2:Os.length<2
   · rw [if_pos (decide_eq_true (by omega))]
     walk_at "r"
     exact q _
   rw [if_neg (by simp; omega)]
   walk_at "r"
   refine hR18.many ?_ ?_
   · walk_at "r"
     exact q _
   walk_at "r"
   refine b91 (SqL.of epu18) ?_
   intro p19 H19 f19 s19 e19
   rw [show (1:Int)=((1:Nat):Int) from rfl,cutTo] at e19
   walk_at "r"
   have s1419:=s1418.trans s19
   have hol':∀ os∈Os.take 1,os.length=xs.length:=fun os hos=>hol os (List.mem_of_mem_take hos)
   have hOl':(Os.take 1).length≤1000:=by rw [List.length_take]; omega
   have hO1:=be5 hO14 1
   refine ⟨hp,p19,ms,xs,Os.take 1,uvs.take 1,rfl,⟨hH14.same s1419,hM14.mono fun m x h=>h.same s1419,hxn,hok,e19,hO1.mono fun v x h=>h.same s1419,hOl',hol'⟩,fun r3 fv3 H20 s20 hF3 hR3=>?_⟩
   walk_at "r"
   have s1420:=s1419.trans s20
   refine b91 (SqL.of (s1420 _ _ epu14)) ?_
   intro p21 H21 f21 s21 e21
   rw [show (1:Int)=((1:Nat):Int) from rfl,cutTo] at e21
   walk_at "r"
   have s1421:=s1420.trans s21
   refine ⟨ta,p21,tvs,uvs.take 1,xs,Os.take 1,rfl,⟨s1421 _ _ eta14,hT14.mono fun v x h=>h.same s1421,hok,hxn,e21,hO1.mono fun v x h=>h.same s1421,hOl',hol'⟩,fun r4 dv4 H22 s22 hF4 hR4=>?_⟩
   obtain rfl:=hF3.one hF4
   walk_at "r"
   refine (hR3.same (s21.trans s22).tups).eq hR4 ?_
   exact q _
end
theorem b63 {us:List Value}{n:Nat}(h:us.length=n+1):∃ u r,us=u::r:=by
 cases us with
 | nil=>cases h
 | cons u r=>exact ⟨u,r,rfl⟩
theorem av4 {us:List Value}(h:us.length=1):∃ u0,us=[u0]:=by
 obtain ⟨u0,us,rfl⟩:=b63 h; replace h:=Nat.succ.inj h
 obtain rfl:=List.length_eq_zero_iff.mp h
 exact ⟨u0,rfl⟩
theorem ad2 {us:List Value}(h:us.length=2):∃ u0 u1,us=[u0,u1]:=by
 obtain ⟨u0,us,rfl⟩:=b63 h; replace h:=Nat.succ.inj h
 obtain ⟨u1,us,rfl⟩:=b63 h; replace h:=Nat.succ.inj h
 obtain rfl:=List.length_eq_zero_iff.mp h
 exact ⟨u0,u1,rfl⟩
theorem be6 {us:List Value}(h:us.length=3):∃ u0 u1 u2,us=[u0,u1,u2]:=by
 obtain ⟨u0,us,rfl⟩:=b63 h; replace h:=Nat.succ.inj h
 obtain ⟨u1,us,rfl⟩:=b63 h; replace h:=Nat.succ.inj h
 obtain ⟨u2,us,rfl⟩:=b63 h; replace h:=Nat.succ.inj h
 obtain rfl:=List.length_eq_zero_iff.mp h
 exact ⟨u0,u1,u2,rfl⟩
theorem all_mk {l:W.OpenLaw}{w:World}{K:W.Frag}{h:Heap}{mg:Str→Option Value}{fa:Addr}(X:K.In h) (G:h.Ns mainGlobals mg) (hfa:mg "law"=some (.ref fa))
 {C_MillError:Addr}(aC_MillError:W.nsIn K mainGlobals "MillError"=some (some (.ref C_MillError)))
 {C_TooMany:Addr}(aC_TooMany:W.nsIn K mainGlobals "TooMany"=some (some (.ref C_TooMany)))
 {C_Machine:Addr}(aC_Machine:W.nsIn K mainGlobals "Machine"=some (some (.ref C_Machine)))
 {C_Hall:Addr}(aC_Hall:W.nsIn K mainGlobals "Hall"=some (some (.ref C_Hall)))
 (pg_Hall:W.plainGet K C_Hall Str.empty=true) (hd_Hall:W.hasDictIn K C_Hall=true) (po_Hall:W.plainOver K C_Hall=true) (sa_Hall:W.findIn K (.ref C_Hall) "__setattr__"=some (some (.builtin "object.__setattr__"))) (mk_Hall:W.makesIn K C_Hall=true) (kc_Hall:W.keepIn K (.ref C_Hall)=true)
 (nF_Hall_lines:W.findIn K (.ref C_Hall) "lines"=some none)
 (nF_Hall_machines:W.findIn K (.ref C_Hall) "machines"=some none)
 {C_TableMachine:Addr}(aC_TableMachine:W.nsIn K mainGlobals "TableMachine"=some (some (.ref C_TableMachine)))
 (pg_TableMachine:W.plainGet K C_TableMachine Str.empty=true) (hd_TableMachine:W.hasDictIn K C_TableMachine=true) (po_TableMachine:W.plainOver K C_TableMachine=true) (sa_TableMachine:W.findIn K (.ref C_TableMachine) "__setattr__"=some (some (.builtin "object.__setattr__"))) (mk_TableMachine:W.makesIn K C_TableMachine=true) (kc_TableMachine:W.keepIn K (.ref C_TableMachine)=true)
 (nF_TableMachine_places:W.findIn K (.ref C_TableMachine) "places"=some none)
 (nF_TableMachine_rooms:W.findIn K (.ref C_TableMachine) "rooms"=some none)
 (nF_TableMachine_saying:W.findIn K (.ref C_TableMachine) "saying"=some none)
 {f0:Addr}{od0 an0:Option Addr}{sl0:Array (Option Value)}{oc0 kV0 dc0 pm0 cd0 ct0:Value}
 {f1:Addr}{od1 an1:Option Addr}{sl1:Array (Option Value)}{oc1 kV1 dc1 pm1 cd1 ct1:Value}
 {f2:Addr}{od2 an2:Option Addr}{sl2:Array (Option Value)}{oc2 kV2 dc2 pm2 cd2 ct2:Value}
 {f3:Addr}{od3 an3:Option Addr}{sl3:Array (Option Value)}{oc3 kV3 dc3 pm3 cd3 ct3:Value}
 {f4:Addr}{od4 an4:Option Addr}{sl4:Array (Option Value)}{oc4 kV4 dc4 pm4 cd4 ct4:Value}
 {f5:Addr}{od5 an5:Option Addr}{sl5:Array (Option Value)}{oc5 kV5 dc5 pm5 cd5 ct5:Value}
 {f6:Addr}{od6 an6:Option Addr}{sl6:Array (Option Value)}{oc6 kV6 dc6 pm6 cd6 ct6:Value}
 {f7:Addr}{od7 an7:Option Addr}{sl7:Array (Option Value)}{oc7 kV7 dc7 pm7 cd7 ct7:Value}
 {f8:Addr}{od8 an8:Option Addr}{sl8:Array (Option Value)}{oc8 kV8 dc8 pm8 cd8 ct8:Value}
 {f9:Addr}{od9 an9:Option Addr}{sl9:Array (Option Value)}{oc9 kV9 dc9 pm9 cd9 ct9:Value}
 {f10:Addr}{od10 an10:Option Addr}{sl10:Array (Option Value)}{oc10 kV10 dc10 pm10 cd10 ct10:Value}
 {f11:Addr}{od11 an11:Option Addr}{sl11:Array (Option Value)}{oc11 kV11 dc11 pm11 cd11 ct11:Value}
 {f12:Addr}{od12 an12:Option Addr}{sl12:Array (Option Value)}{oc12 kV12 dc12 pm12 cd12 ct12:Value}
 {f13:Addr}{od13 an13:Option Addr}{sl13:Array (Option Value)}{oc13 kV13 dc13 pm13 cd13 ct13:Value}
 {f14:Addr}{od14 an14:Option Addr}{sl14:Array (Option Value)}{oc14 kV14 dc14 pm14 cd14 ct14:Value}
 {f15:Addr}{od15 an15:Option Addr}{sl15:Array (Option Value)}{oc15 kV15 dc15 pm15 cd15 ct15:Value}
 {f16:Addr}{od16 an16:Option Addr}{sl16:Array (Option Value)}{oc16 kV16 dc16 pm16 cd16 ct16:Value}
 {f17:Addr}{od17 an17:Option Addr}{sl17:Array (Option Value)}{oc17 kV17 dc17 pm17 cd17 ct17:Value}
 {f18:Addr}{od18 an18:Option Addr}{sl18:Array (Option Value)}{oc18 kV18 dc18 pm18 cd18 ct18:Value}
 {f19:Addr}{od19 an19:Option Addr}{sl19:Array (Option Value)}{oc19 kV19 dc19 pm19 cd19 ct19:Value}
 {f20:Addr}{od20 an20:Option Addr}{sl20:Array (Option Value)}{oc20 kV20 dc20 pm20 cd20 ct20:Value}
 {f21:Addr}{od21 an21:Option Addr}{sl21:Array (Option Value)}{oc21 kV21 dc21 pm21 cd21 ct21:Value}
 {f22:Addr}{od22 an22:Option Addr}{sl22:Array (Option Value)}{oc22 kV22 dc22 pm22 cd22 ct22:Value}
 {f23:Addr}{od23 an23:Option Addr}{sl23:Array (Option Value)}{oc23 kV23 dc23 pm23 cd23 ct23:Value}
 {f24:Addr}{od24 an24:Option Addr}{sl24:Array (Option Value)}{oc24 kV24 dc24 pm24 cd24 ct24:Value}
 {f25:Addr}{od25 an25:Option Addr}{sl25:Array (Option Value)}{oc25 kV25 dc25 pm25 cd25 ct25:Value}
 {f26:Addr}{od26 an26:Option Addr}{sl26:Array (Option Value)}{oc26 kV26 dc26 pm26 cd26 ct26:Value}
 {f27:Addr}{od27 an27:Option Addr}{sl27:Array (Option Value)}{oc27 kV27 dc27 pm27 cd27 ct27:Value}
 {f28:Addr}{od28 an28:Option Addr}{sl28:Array (Option Value)}{oc28 kV28 dc28 pm28 cd28 ct28:Value}
 {f29:Addr}{od29 an29:Option Addr}{sl29:Array (Option Value)}{oc29 kV29 dc29 pm29 cd29 ct29:Value}
 (a0:W.nsIn K mainGlobals "still_lines"=some (some (.ref f0))) (l0:K.lookup f0=some ⟨oc0,od0,.func (W.fnOf "still_lines" "still_lines" (defArgs a47) (defBody a47) (defScope a47) .none kV0 dc0 pm0 an0 cd0 ct0),sl0⟩) (c0:W.codeIn K cd0 "still_lines"=true) (k0:W.keepIn K (.ref f0)=true)
 (a1:W.nsIn K mainGlobals "first_fall"=some (some (.ref f1))) (l1:K.lookup f1=some ⟨oc1,od1,.func (W.fnOf "first_fall" "first_fall" (defArgs a70) (defBody a70) (defScope a70) .none kV1 dc1 pm1 an1 cd1 ct1),sl1⟩) (c1:W.codeIn K cd1 "first_fall"=true) (k1:W.keepIn K (.ref f1)=true)
 (a2:W.findIn K (.ref C_Hall) "__init__"=some (some (.ref f2))) (i2:W.isFn K (.ref f2)=true) (l2:K.lookup f2=some ⟨oc2,od2,.func (W.fnOf "__init__" "Hall.__init__" (defArgs a57) (defBody a57) (defScope a57) .none kV2 dc2 pm2 an2 cd2 ct2),sl2⟩) (c2:W.codeIn K cd2 "Hall.__init__"=true) (k2:W.keepIn K (.ref f2)=true)
 (a3:W.findIn K (.ref C_Hall) "begin"=some (some (.ref f3))) (i3:W.isFn K (.ref f3)=true) (l3:K.lookup f3=some ⟨oc3,od3,.func (W.fnOf "begin" "Hall.begin" (defArgs a65) (defBody a65) (defScope a65) .none kV3 dc3 pm3 an3 cd3 ct3),sl3⟩) (c3:W.codeIn K cd3 "Hall.begin"=true) (k3:W.keepIn K (.ref f3)=true)
 (a4:W.findIn K (.ref C_Hall) "step"=some (some (.ref f4))) (i4:W.isFn K (.ref f4)=true) (l4:K.lookup f4=some ⟨oc4,od4,.func (W.fnOf "step" "Hall.step" (defArgs a80) (defBody a80) (defScope a80) .none kV4 dc4 pm4 an4 cd4 ct4),sl4⟩) (c4:W.codeIn K cd4 "Hall.step"=true) (k4:W.keepIn K (.ref f4)=true)
 (a5:W.findIn K (.ref C_Hall) "ended_lines"=some (some (.ref f5))) (i5:W.isFn K (.ref f5)=true) (l5:K.lookup f5=some ⟨oc5,od5,.func (W.fnOf "ended_lines" "Hall.ended_lines" (defArgs a42) (defBody a42) (defScope a42) .none kV5 dc5 pm5 an5 cd5 ct5),sl5⟩) (c5:W.codeIn K cd5 "Hall.ended_lines"=true) (k5:W.keepIn K (.ref f5)=true)
 (a6:W.nsIn K mainGlobals "copied"=some (some (.ref f6))) (l6:K.lookup f6=some ⟨oc6,od6,.func (W.fnOf "copied" "copied" (defArgs aa8) (defBody aa8) (defScope aa8) .none kV6 dc6 pm6 an6 cd6 ct6),sl6⟩) (c6:W.codeIn K cd6 "copied"=true) (k6:W.keepIn K (.ref f6)=true)
 (a7:W.nsIn K mainGlobals "put_behind"=some (some (.ref f7))) (l7:K.lookup f7=some ⟨oc7,od7,.func (W.fnOf "put_behind" "put_behind" (defArgs a71) (defBody a71) (defScope a71) .none kV7 dc7 pm7 an7 cd7 ct7),sl7⟩) (c7:W.codeIn K cd7 "put_behind"=true) (k7:W.keepIn K (.ref f7)=true)
 (a8:W.nsIn K mainGlobals "settled_turn"=some (some (.ref f8))) (l8:K.lookup f8=some ⟨oc8,od8,.func (W.fnOf "settled_turn" "settled_turn" (defArgs a49) (defBody a49) (defScope a49) .none kV8 dc8 pm8 an8 cd8 ct8),sl8⟩) (c8:W.codeIn K cd8 "settled_turn"=true) (k8:W.keepIn K (.ref f8)=true)
 (a9:W.nsIn K mainGlobals "room_with"=some (some (.ref f9))) (l9:K.lookup f9=some ⟨oc9,od9,.func (W.fnOf "room_with" "room_with" (defArgs a73) (defBody a73) (defScope a73) .none kV9 dc9 pm9 an9 cd9 ct9),sl9⟩) (c9:W.codeIn K cd9 "room_with"=true) (k9:W.keepIn K (.ref f9)=true)
 (a10:W.nsIn K mainGlobals "places_by"=some (some (.ref f10))) (l10:K.lookup f10=some ⟨oc10,od10,.func (W.fnOf "places_by" "places_by" (defArgs a81) (defBody a81) (defScope a81) .none kV10 dc10 pm10 an10 cd10 ct10),sl10⟩) (c10:W.codeIn K cd10 "places_by"=true) (k10:W.keepIn K (.ref f10)=true)
 (a11:W.nsIn K mainGlobals "place_of"=some (some (.ref f11))) (l11:K.lookup f11=some ⟨oc11,od11,.func (W.fnOf "place_of" "place_of" (defArgs a88) (defBody a88) (defScope a88) .none kV11 dc11 pm11 an11 cd11 ct11),sl11⟩) (c11:W.codeIn K cd11 "place_of"=true) (k11:W.keepIn K (.ref f11)=true)
 (a12:W.findIn K (.ref C_TableMachine) "__init__"=some (some (.ref f12))) (i12:W.isFn K (.ref f12)=true) (l12:K.lookup f12=some ⟨oc12,od12,.func (W.fnOf "__init__" "TableMachine.__init__" (defArgs a31) (defBody a31) (defScope a31) .none kV12 dc12 pm12 an12 cd12 ct12),sl12⟩) (c12:W.codeIn K cd12 "TableMachine.__init__"=true) (k12:W.keepIn K (.ref f12)=true)
 (a13:W.findIn K (.ref C_TableMachine) "begin"=some (some (.ref f13))) (i13:W.isFn K (.ref f13)=true) (l13:K.lookup f13=some ⟨oc13,od13,.func (W.fnOf "begin" "TableMachine.begin" (defArgs a39) (defBody a39) (defScope a39) .none kV13 dc13 pm13 an13 cd13 ct13),sl13⟩) (c13:W.codeIn K cd13 "TableMachine.begin"=true) (k13:W.keepIn K (.ref f13)=true)
 (a14:W.findIn K (.ref C_TableMachine) "step"=some (some (.ref f14))) (i14:W.isFn K (.ref f14)=true) (l14:K.lookup f14=some ⟨oc14,od14,.func (W.fnOf "step" "TableMachine.step" (defArgs a43) (defBody a43) (defScope a43) .none kV14 dc14 pm14 an14 cd14 ct14),sl14⟩) (c14:W.codeIn K cd14 "TableMachine.step"=true) (k14:W.keepIn K (.ref f14)=true)
 (a15:W.findIn K (.ref C_TableMachine) "over"=some (some (.ref f15))) (i15:W.isFn K (.ref f15)=true) (l15:K.lookup f15=some ⟨oc15,od15,.func (W.fnOf "over" "TableMachine.over" (defArgs a44) (defBody a44) (defScope a44) .none kV15 dc15 pm15 an15 cd15 ct15),sl15⟩) (c15:W.codeIn K cd15 "TableMachine.over"=true) (k15:W.keepIn K (.ref f15)=true)
 (a16:W.nsIn K mainGlobals "_law_take"=some (some (.ref f16))) (l16:K.lookup f16=some ⟨oc16,od16,.func (W.fnOf "_law_take" "_law_take" (defArgs a89) (defBody a89) (defScope a89) .none kV16 dc16 pm16 an16 cd16 ct16),sl16⟩) (c16:W.codeIn K cd16 "_law_take"=true) (k16:W.keepIn K (.ref f16)=true)
 (a17:W.nsIn K mainGlobals "_law_cell"=some (some (.ref f17))) (l17:K.lookup f17=some ⟨oc17,od17,.func (W.fnOf "_law_cell" "_law_cell" (defArgs a90) (defBody a90) (defScope a90) .none kV17 dc17 pm17 an17 cd17 ct17),sl17⟩) (c17:W.codeIn K cd17 "_law_cell"=true) (k17:W.keepIn K (.ref f17)=true)
 (a18:W.nsIn K mainGlobals "_law_said"=some (some (.ref f18))) (l18:K.lookup f18=some ⟨oc18,od18,.func (W.fnOf "_law_said" "_law_said" (defArgs a91) (defBody a91) (defScope a91) .none kV18 dc18 pm18 an18 cd18 ct18),sl18⟩) (c18:W.codeIn K cd18 "_law_said"=true) (k18:W.keepIn K (.ref f18)=true)
 (a19:W.nsIn K mainGlobals "_law_table"=some (some (.ref f19))) (l19:K.lookup f19=some ⟨oc19,od19,.func (W.fnOf "_law_table" "_law_table" (defArgs a63) (defBody a63) (defScope a63) .none kV19 dc19 pm19 an19 cd19 ct19),sl19⟩) (c19:W.codeIn K cd19 "_law_table"=true) (k19:W.keepIn K (.ref f19)=true)
 (a20:W.nsIn K mainGlobals "_law_place"=some (some (.ref f20))) (l20:K.lookup f20=some ⟨oc20,od20,.func (W.fnOf "_law_place" "_law_place" (defArgs a74) (defBody a74) (defScope a74) .none kV20 dc20 pm20 an20 cd20 ct20),sl20⟩) (c20:W.codeIn K cd20 "_law_place"=true) (k20:W.keepIn K (.ref f20)=true)
 (a21:W.nsIn K mainGlobals "_law_turn"=some (some (.ref f21))) (l21:K.lookup f21=some ⟨oc21,od21,.func (W.fnOf "_law_turn" "_law_turn" (defArgs a92) (defBody a92) (defScope a92) .none kV21 dc21 pm21 an21 cd21 ct21),sl21⟩) (c21:W.codeIn K cd21 "_law_turn"=true) (k21:W.keepIn K (.ref f21)=true)
 (a22:W.nsIn K mainGlobals "_law_standing"=some (some (.ref f22))) (l22:K.lookup f22=some ⟨oc22,od22,.func (W.fnOf "_law_standing" "_law_standing" (defArgs a55) (defBody a55) (defScope a55) .none kV22 dc22 pm22 an22 cd22 ct22),sl22⟩) (c22:W.codeIn K cd22 "_law_standing"=true) (k22:W.keepIn K (.ref f22)=true)
 (a23:W.nsIn K mainGlobals "_law_still"=some (some (.ref f23))) (l23:K.lookup f23=some ⟨oc23,od23,.func (W.fnOf "_law_still" "_law_still" (defArgs a66) (defBody a66) (defScope a66) .none kV23 dc23 pm23 an23 cd23 ct23),sl23⟩) (c23:W.codeIn K cd23 "_law_still"=true) (k23:W.keepIn K (.ref f23)=true)
 (a24:W.nsIn K mainGlobals "_law_due"=some (some (.ref f24))) (l24:K.lookup f24=some ⟨oc24,od24,.func (W.fnOf "_law_due" "_law_due" (defArgs a85) (defBody a85) (defScope a85) .none kV24 dc24 pm24 an24 cd24 ct24),sl24⟩) (c24:W.codeIn K cd24 "_law_due"=true) (k24:W.keepIn K (.ref f24)=true)
 (a25:W.nsIn K mainGlobals "_law_found"=some (some (.ref f25))) (l25:K.lookup f25=some ⟨oc25,od25,.func (W.fnOf "_law_found" "_law_found" (defArgs a82) (defBody a82) (defScope a82) .none kV25 dc25 pm25 an25 cd25 ct25),sl25⟩) (c25:W.codeIn K cd25 "_law_found"=true) (k25:W.keepIn K (.ref f25)=true)
 (a26:W.nsIn K mainGlobals "_law_ring"=some (some (.ref f26))) (l26:K.lookup f26=some ⟨oc26,od26,.func (W.fnOf "_law_ring" "_law_ring" (defArgs a93) (defBody a93) (defScope a93) .none kV26 dc26 pm26 an26 cd26 ct26),sl26⟩) (c26:W.codeIn K cd26 "_law_ring"=true) (k26:W.keepIn K (.ref f26)=true)
 (a27:W.nsIn K mainGlobals "_law_keyed"=some (some (.ref f27))) (l27:K.lookup f27=some ⟨oc27,od27,.func (W.fnOf "_law_keyed" "_law_keyed" (defArgs a75) (defBody a75) (defScope a75) .none kV27 dc27 pm27 an27 cd27 ct27),sl27⟩) (c27:W.codeIn K cd27 "_law_keyed"=true) (k27:W.keepIn K (.ref f27)=true)
 (a28:W.nsIn K mainGlobals "_law_known"=some (some (.ref f28))) (l28:K.lookup f28=some ⟨oc28,od28,.func (W.fnOf "_law_known" "_law_known" (defArgs a58) (defBody a58) (defScope a58) .none kV28 dc28 pm28 an28 cd28 ct28),sl28⟩) (c28:W.codeIn K cd28 "_law_known"=true) (k28:W.keepIn K (.ref f28)=true)
 (a29:W.nsIn K mainGlobals "law"=some (some (.ref f29))) (l29:K.lookup f29=some ⟨oc29,od29,.func (W.fnOf "law" "law" (defArgs af0) (defBody af0) (defScope af0) .none kV29 dc29 pm29 an29 cd29 ct29),sl29⟩) (c29:W.codeIn K cd29 "law"=true) (k29:W.keepIn K (.ref f29)=true)
 (z_bool:W.nsIn K mainGlobals "bool"=some none)
 (z_enumerate:W.nsIn K mainGlobals "enumerate"=some none)
 (z_int:W.nsIn K mainGlobals "int"=some none)
 (z_isinstance:W.nsIn K mainGlobals "isinstance"=some none)
 (z_len:W.nsIn K mainGlobals "len"=some none)
 (z_list:W.nsIn K mainGlobals "list"=some none)
 (z_min:W.nsIn K mainGlobals "min"=some none)
 (z_range:W.nsIn K mainGlobals "range"=some none)
 (z_sum:W.nsIn K mainGlobals "sum"=some none)
 (z_tuple:W.nsIn K mainGlobals "tuple"=some none)
 (z_zip:W.nsIn K mainGlobals "zip"=some none)
 (xe_TooMany:W.excIn K C_TooMany [.type "ValueError",.type "Exception",.type "BaseException",.type "object"] "ValueError.__new__"=true)
 {u_QUIET:Value}(m_QUIET:W.nsIn K mainGlobals "QUIET"=some (some u_QUIET))
 {ad_QUIET:Addr}(r_QUIET:RelV (.ref ad_QUIET) u_QUIET)
 {u_MOST_STANDINGS:Value}(m_MOST_STANDINGS:W.nsIn K mainGlobals "MOST_STANDINGS"=some (some u_MOST_STANDINGS))
 (r_MOST_STANDINGS:RelV (.int 2000) u_MOST_STANDINGS)
 {u_MOST_WAITING:Value}(m_MOST_WAITING:W.nsIn K mainGlobals "MOST_WAITING"=some (some u_MOST_WAITING))
 (r_MOST_WAITING:RelV (.int 3) u_MOST_WAITING)
 {its_QUIET:Array Value}{nn_QUIET:Nat}{od_QUIET:Option Addr}{sl_QUIET:Array (Option Value)}(l_QUIET:K.lookup ad_QUIET=some ⟨.type "tuple",od_QUIET,.seq its_QUIET nn_QUIET,sl_QUIET⟩) (h_QUIET:its_QUIET.size≤sizeLine∧Vals [.str "quiet"] its_QUIET.toList)
 : ∃ fd:FuncData,(∀ (s:Shared) (v:Value),BindsTo s fd ⟨[v],[]⟩ [("script",v)])∧∀ base:Heap,K.In base→base.Ns mainGlobals mg→FnOk l.prog w K mg base CX0 7 fa fd ["script"] (am4 K):=by
 have e:=hfa.symm.trans (W.mg_of X G a29)
 cases e
 have F0:=a67 (st:=a47) l0 c0 k0
 have b0:=F0.binds (ps:=["hall","standing"]) fun _ _ _ _ _ _ us hl=>by obtain ⟨_,_,rfl⟩:=ad2 hl; rfl
 have F1:=a67 (st:=a70) l1 c1 k1
 have b1:=F1.binds (ps:=["hall","turns"]) fun _ _ _ _ _ _ us hl=>by obtain ⟨_,_,rfl⟩:=ad2 hl; rfl
 have F2:=a67 (st:=a57) l2 c2 k2
 have b2:=F2.binds (ps:=["self","machines"]) fun _ _ _ _ _ _ us hl=>by obtain ⟨_,_,rfl⟩:=ad2 hl; rfl
 have F3:=a67 (st:=a65) l3 c3 k3
 have b3:=F3.binds (ps:=["self"]) fun _ _ _ _ _ _ us hl=>by obtain ⟨_,rfl⟩:=av4 hl; rfl
 have F4:=a67 (st:=a80) l4 c4 k4
 have b4:=F4.binds (ps:=["self","standing","outer"]) fun _ _ _ _ _ _ us hl=>by obtain ⟨_,_,_,rfl⟩:=be6 hl; rfl
 have F5:=a67 (st:=a42) l5 c5 k5
 have b5:=F5.binds (ps:=["self","standing"]) fun _ _ _ _ _ _ us hl=>by obtain ⟨_,_,rfl⟩:=ad2 hl; rfl
 have F6:=a67 (st:=aa8) l6 c6 k6
 have b6:=F6.binds (ps:=["told"]) fun _ _ _ _ _ _ us hl=>by obtain ⟨_,rfl⟩:=av4 hl; rfl
 have F7:=a67 (st:=a71) l7 c7 k7
 have b7:=F7.binds (ps:=["row","event"]) fun _ _ _ _ _ _ us hl=>by obtain ⟨_,_,rfl⟩:=ad2 hl; rfl
 have F8:=a67 (st:=a49) l8 c8 k8
 have b8:=F8.binds (ps:=["told","rows"]) fun _ _ _ _ _ _ us hl=>by obtain ⟨_,_,rfl⟩:=ad2 hl; rfl
 have F9:=a67 (st:=a73) l9 c9 k9
 have b9:=F9.binds (ps:=["room","numbers"]) fun _ _ _ _ _ _ us hl=>by obtain ⟨_,_,rfl⟩:=ad2 hl; rfl
 have F10:=a67 (st:=a81) l10 c10 k10
 have b10:=F10.binds (ps:=["events"]) fun _ _ _ _ _ _ us hl=>by obtain ⟨_,rfl⟩:=av4 hl; rfl
 have F11:=a67 (st:=a88) l11 c11 k11
 have b11:=F11.binds (ps:=["places","event"]) fun _ _ _ _ _ _ us hl=>by obtain ⟨_,_,rfl⟩:=ad2 hl; rfl
 have F12:=a67 (st:=a31) l12 c12 k12
 have b12:=F12.binds (ps:=["self","table"]) fun _ _ _ _ _ _ us hl=>by obtain ⟨_,_,rfl⟩:=ad2 hl; rfl
 have F13:=a67 (st:=a39) l13 c13 k13
 have b13:=F13.binds (ps:=["self"]) fun _ _ _ _ _ _ us hl=>by obtain ⟨_,rfl⟩:=av4 hl; rfl
 have F14:=a67 (st:=a43) l14 c14 k14
 have b14:=F14.binds (ps:=["self","standing","event"]) fun _ _ _ _ _ _ us hl=>by obtain ⟨_,_,_,rfl⟩:=be6 hl; rfl
 have F15:=a67 (st:=a44) l15 c15 k15
 have b15:=F15.binds (ps:=["self","standing"]) fun _ _ _ _ _ _ us hl=>by obtain ⟨_,_,rfl⟩:=ad2 hl; rfl
 have F16:=a67 (st:=a89) l16 c16 k16
 have b16:=F16.binds (ps:=["state","many"]) fun _ _ _ _ _ _ us hl=>by obtain ⟨_,_,rfl⟩:=ad2 hl; rfl
 have F17:=a67 (st:=a90) l17 c17 k17
 have b17:=F17.binds (ps:=["script","k","mixed"]) fun _ _ _ _ _ _ us hl=>by obtain ⟨_,_,_,rfl⟩:=be6 hl; rfl
 have F18:=a67 (st:=a91) l18 c18 k18
 have b18:=F18.binds (ps:=["state"]) fun _ _ _ _ _ _ us hl=>by obtain ⟨_,rfl⟩:=av4 hl; rfl
 have F19:=a67 (st:=a63) l19 c19 k19
 have b19:=F19.binds (ps:=["cell","mixed"]) fun _ _ _ _ _ _ us hl=>by obtain ⟨_,_,rfl⟩:=ad2 hl; rfl
 have F20:=a67 (st:=a74) l20 c20 k20
 have b20:=F20.binds (ps:=["events","event"]) fun _ _ _ _ _ _ us hl=>by obtain ⟨_,_,rfl⟩:=ad2 hl; rfl
 have F21:=a67 (st:=a92) l21 c21 k21
 have b21:=F21.binds (ps:=["tables","standing","outer"]) fun _ _ _ _ _ _ us hl=>by obtain ⟨_,_,_,rfl⟩:=be6 hl; rfl
 have F22:=a67 (st:=a55) l22 c22 k22
 have b22:=F22.binds (ps:=["rooms","rows","talks"]) fun _ _ _ _ _ _ us hl=>by obtain ⟨_,_,_,rfl⟩:=be6 hl; rfl
 have F23:=a67 (st:=a66) l23 c23 k23
 have b23:=F23.binds (ps:=["tables","standing"]) fun _ _ _ _ _ _ us hl=>by obtain ⟨_,_,rfl⟩:=ad2 hl; rfl
 have F24:=a67 (st:=a85) l24 c24 k24
 have b24:=F24.binds (ps:=["tables","turns"]) fun _ _ _ _ _ _ us hl=>by obtain ⟨_,_,rfl⟩:=ad2 hl; rfl
 have F25:=a67 (st:=a82) l25 c25 k25
 have b25:=F25.binds (ps:=["hall","turns"]) fun _ _ _ _ _ _ us hl=>by obtain ⟨_,_,rfl⟩:=ad2 hl; rfl
 have F26:=a67 (st:=a93) l26 c26 k26
 have b26:=F26.binds (ps:=["many"]) fun _ _ _ _ _ _ us hl=>by obtain ⟨_,rfl⟩:=av4 hl; rfl
 have F27:=a67 (st:=a75) l27 c27 k27
 have b27:=F27.binds (ps:=["need"]) fun _ _ _ _ _ _ us hl=>by obtain ⟨_,rfl⟩:=av4 hl; rfl
 have F28:=a67 (st:=a58) l28 c28 k28
 have b28:=F28.binds (ps:=["cell","mixed"]) fun _ _ _ _ _ _ us hl=>by obtain ⟨_,_,rfl⟩:=ad2 hl; rfl
 have F29:=a67 (st:=af0) l29 c29 k29
 have b29:=F29.binds (ps:=["script"]) fun _ _ _ _ _ _ us hl=>by obtain ⟨_,rfl⟩:=av4 hl; rfl
 have TT:Txt K mg ⟨_,_,_,_,_,_,_,_,_,_,_,_,_,_,_,_,_,_,_,_,_,_,_,_,_,_,_,_,_,_,_,_,_,_,_,_,_,_,_,_,_,_,_,_,_,_,_,_,_,_,_,_,_,_,_,_,_,_,_,_,C_MillError,C_TooMany,C_Machine,C_Hall,C_TableMachine,u_QUIET,u_MOST_STANDINGS,u_MOST_WAITING,ad_QUIET⟩:=⟨F0,W.mg_of X G a0,b0,F1,W.mg_of X G a1,b1,F2,b2,F3,⟨a3,i3,k3⟩,b3,F4,⟨a4,i4,k4⟩,b4,F5,⟨a5,i5,k5⟩,b5,F6,W.mg_of X G a6,b6,F7,W.mg_of X G a7,b7,F8,W.mg_of X G a8,b8,F9,W.mg_of X G a9,b9,F10,W.mg_of X G a10,b10,F11,W.mg_of X G a11,b11,F12,b12,F13,⟨a13,i13,k13⟩,b13,F14,⟨a14,i14,k14⟩,b14,F15,⟨a15,i15,k15⟩,b15,F16,W.mg_of X G a16,b16,F17,W.mg_of X G a17,b17,F18,W.mg_of X G a18,b18,F19,W.mg_of X G a19,b19,F20,W.mg_of X G a20,b20,F21,W.mg_of X G a21,b21,F22,W.mg_of X G a22,b22,F23,W.mg_of X G a23,b23,F24,W.mg_of X G a24,b24,F25,W.mg_of X G a25,b25,F26,W.mg_of X G a26,b26,F27,W.mg_of X G a27,b27,F28,W.mg_of X G a28,b28,F29,W.mg_of X G a29,b29,W.mg_of X G aC_MillError,W.mg_of X G aC_TooMany,W.mg_of X G aC_Machine,W.mg_of X G aC_Hall,⟨pg_Hall,hd_Hall,po_Hall,sa_Hall⟩,⟨mk_Hall,a2,i2,kc_Hall⟩,nF_Hall_lines,nF_Hall_machines,W.mg_of X G aC_TableMachine,⟨pg_TableMachine,hd_TableMachine,po_TableMachine,sa_TableMachine⟩,⟨mk_TableMachine,a12,i12,kc_TableMachine⟩,nF_TableMachine_places,nF_TableMachine_rooms,nF_TableMachine_saying,W.mg_none_of X G z_bool,W.mg_none_of X G z_enumerate,W.mg_none_of X G z_int,W.mg_none_of X G z_isinstance,W.mg_none_of X G z_len,W.mg_none_of X G z_list,W.mg_none_of X G z_min,W.mg_none_of X G z_range,W.mg_none_of X G z_sum,W.mg_none_of X G z_tuple,W.mg_none_of X G z_zip,xe_TooMany,W.mg_of X G m_QUIET,r_QUIET,W.mg_of X G m_MOST_STANDINGS,r_MOST_STANDINGS,W.mg_of X G m_MOST_WAITING,r_MOST_WAITING,⟨_,its_QUIET,nn_QUIET,l_QUIET,rfl,rfl,h_QUIET.1,h_QUIET.2⟩⟩
 exact ⟨_,fun s v=>.of_eq rfl,fun base _ _=>c59 TT⟩
end K90
theorem PySem.Challenge.cw_callmill_k90_first_fall_holds : PySem.Challenge.rw_callmill_k90_first_fall.Holds := by
  exact K90.head fun K hF w mg fa h KX G hmg => hF w.params _ (@K90.all_mk _ w _ h mg fa KX G hmg)
